/-
  The reference's Hear, as the law asks for it.
-/
import Derived.Test.YtdojphkibgfomaaHiRe
import Derived.Test.YtdojphkibgfomaaHiRg
namespace Go.Proofs.Ytdojphkibgfomaa
open Go.RowKit Go.Maps

section
variable {w : World} {rb : Nat} {T nx la : Int} {L : List Sn}
theorem rhear_n (h : Rf w rb T nx la L) (ok : Ok nx la L) (n1 : nx ≤ 1000000000000000) (a : Option Addr) (n c : Nat) (l : List Rp) (hln : l.length = n) (hl : RA (fun b => b < w.heap.size ∧ b ≠ rb) w a l) (hn : n ≤ 1000000) (N M : Nat) (hN : (hrG nx L l).length = N) (hM : (hrL nx L l).length = M) :
    Calls Try.prog 14 #[.pointer (some ⟨rb, 0, none⟩), .slice a n c] w fun e w' => ∃ a1 c1 a2 c2, e = .returned (.agg #[.slice a1 N c1, .slice a2 M c2]) ∧ w'.ownsRow w.heap.size 58 6 (.slice a1 N c1) N (aC (hrG nx L l)) ∧ w'.ownsRow w.heap.size 56 3 (.slice a2 M c2) M (sC (hrL nx L l)) ∧
      Rf w' rb T nx la (hrR nx L l) ∧ Apart (· = rb) w w' := by
  subst hln
  refine (rhear_any h ok n1 a c l hl hn).mono ?_
  rintro e w' ⟨vg, vl, rfl, rf, og, ol, ap⟩
  rw [hN] at og
  rw [hM] at ol
  obtain ⟨a1, c1, rfl⟩ := ownsRow_slice og
  obtain ⟨a2, c2, rfl⟩ := ownsRow_slice ol
  exact ⟨a1, c1, a2, c2, rfl, og, ol, rf, ap⟩
end
end Go.Proofs.Ytdojphkibgfomaa
