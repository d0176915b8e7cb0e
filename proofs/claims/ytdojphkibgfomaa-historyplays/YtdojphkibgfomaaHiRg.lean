/-
  The answers of both histories, side by side.
-/
import Derived.Test.YtdojphkibgfomaaHiRd
import Derived.Test.YtdojphkibgfomaaHiV
import Derived.Test.YtdojphkibgfomaaHiO
namespace Go.Proofs.Ytdojphkibgfomaa
open Go.RowKit Go.Maps

/-- Both histories remember the same. -/
structure Bo (w : World) (hb mb rb : Nat) (T nx la : Int) (L : List Sn) : Prop where
  hs : Hs w hb mb T nx la L
  rf : Rf w rb T nx la L
  ok : Ok nx la L
  h1 : hb < rb
  m1 : mb < rb
theorem Bo.on {w w' : World} {hb mb rb : Nat} {T nx la : Int} {L : List Sn} (h : Bo w hb mb rb T nx la L) (a : Apart (fun _ => False) w w') : Bo w' hb mb rb T nx la L :=
  ⟨h.hs.kept a (fun h => h) (fun h => h), h.rf.kept a (fun _ _ _ h => h), h.ok, h.h1, h.m1⟩
section
variable {w : World} {hb mb rb : Nat} {T nx la : Int} {L : List Sn}
theorem expire_n (h : Hs w hb mb T nx la L) (ok : Ok nx la L) (n1 : nx ≤ 1000000000000000) (now : Int) (w1 : -9223372036854775808 ≤ now) (w2 : now ≤ 9223372036854775807) (N : Nat) (hN : (exO T now L).length = N) :
    Calls Try.prog 18 #[.pointer (some ⟨hb, 0, none⟩), .int .i64 now] w fun e w' => ∃ ad cp, e = .returned (.slice ad N cp) ∧ w'.ownsRow w.heap.size 56 3 (.slice ad N cp) N (sC (exO T now L)) ∧ Hs w' hb mb T nx la (exR T now L) ∧ Apart (fun k => k = hb ∨ k = mb) w w' := by
  refine (expire_any h ok n1 now w1 w2).mono ?_
  rintro e w' ⟨v, rfl, own, h2, a⟩
  rw [hN] at own
  obtain ⟨ad, cp, rfl⟩ := ownsRow_slice own
  exact ⟨ad, cp, rfl, own, h2, a⟩
theorem rexpire_n (h : Rf w rb T nx la L) (ok : Ok nx la L) (now : Int) (w1 : -9223372036854775808 ≤ now) (w2 : now ≤ 9223372036854775807) (N : Nat) (hN : (exO T now L).length = N) :
    Calls Try.prog 19 #[.pointer (some ⟨rb, 0, none⟩), .int .i64 now] w fun e w' => ∃ ad cp, e = .returned (.slice ad N cp) ∧ w'.ownsRow w.heap.size 56 3 (.slice ad N cp) N (sC (exO T now L)) ∧ Rf w' rb T nx la (exR T now L) ∧ Apart (· = rb) w w' := by
  refine (rexpire_any h ok now w1 w2).mono ?_
  rintro e w' ⟨v, rfl, own, h2, -, a⟩
  rw [hN] at own
  obtain ⟨ad, cp, rfl⟩ := ownsRow_slice own
  exact ⟨ad, cp, rfl, own, h2, a⟩
theorem hear_n (h : Hs w hb mb T nx la L) (ok : Ok nx la L) (n1 : nx ≤ 1000000000000000) (a : Option Addr) (n c : Nat) (l : List Rp) (hln : l.length = n) (now : Int) (hl : RA (fun b => b < w.heap.size ∧ b ≠ hb ∧ b ≠ mb) w a l) (hn : n ≤ 1000000) (N M : Nat) (hN : (hrG nx L l).length = N) (hM : (hrL nx L l).length = M) :
    Calls Try.prog 13 #[.pointer (some ⟨hb, 0, none⟩), .slice a n c, .int .i64 now] w fun e w' => ∃ a1 c1 a2 c2, e = .returned (.tuple #[.slice a1 N c1, .slice a2 M c2]) ∧ w'.ownsRow w.heap.size 58 6 (.slice a1 N c1) N (aC (hrG nx L l)) ∧ w'.ownsRow w.heap.size 56 3 (.slice a2 M c2) M (sC (hrL nx L l)) ∧
      Hs w' hb mb T nx la (hrR nx L l) ∧ Ok nx la (hrR nx L l) ∧ Apart (fun k => k = hb ∨ k = mb) w w' := by
  subst hln
  refine (hear_any h ok n1 a c l now hl hn).mono ?_
  rintro e w' ⟨vg, vl, rfl, hh⟩
  have og := hh.og
  have ol := hh.ol
  rw [hN] at og
  rw [hM] at ol
  obtain ⟨a1, c1, rfl⟩ := ownsRow_slice og
  obtain ⟨a2, c2, rfl⟩ := ownsRow_slice ol
  exact ⟨a1, c1, a2, c2, rfl, og, ol, hh.hs, hh.ok, hh.ap⟩
end
end Go.Proofs.Ytdojphkibgfomaa
