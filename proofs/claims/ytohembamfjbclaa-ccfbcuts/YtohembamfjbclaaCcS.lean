/-
  What the statements' walks share: what both Decodes hand back, under names.
-/
import Derived.Test.YtohembamfjbclaaCcO
import Derived.Test.YtohembamfjbclaaCcV
import Derived.Test.YtohembamfjbclaaCcC
import Derived.Test.YtohembamfjbclaaCcN
namespace Go.Proofs.Ytohembamfjbclaa
open Go.RowKit

theorem dec_at (s : ByteArray) (hs : s.size ≤ 1000000) {sd st E : Int} {l : List Bk} (h1 : decSd s = sd) (h2 : decL s = l) (h3 : decSt s = st) (h4 : decE s = E) (w : World) :
    Calls Try.prog 16 #[.string s] w (fun e w' => (∃ a c, e = .returned (.tuple #[rv sd a l.length c st, .int .i64 E]) ∧ BA w'.heap.size w' a l) ∧ Below w.heap.size w w') := by
  subst h1 h2 h3 h4; exact dec_any s hs w
theorem enc_at {sd st : Int} {a : Option Addr} {cap : Nat} {l : List Bk} {w : World} {S : ByteArray} {E : Int} (h : BA w.heap.size w a l) (s0 : 0 ≤ sd) (s1 : sd < 4294967296) (t0 : 0 ≤ st) (t1 : st < 4294967296) (h1 : encS sd l st = S) (h2 : encE l = E) :
    Calls Try.prog 11 #[.agg #[.int .u32 sd, .slice a l.length cap, .int .u32 st]] w fun e w' => e = .returned (.tuple #[.string S, .int .i64 E]) ∧ Below w.heap.size w w' := by
  subst h1 h2; exact enc_any sd st a cap l w h s0 s1 t0 t1
theorem same_is {sd st sd' st' : Int} {a a' : Option Addr} {cap cap' : Nat} {l l' : List Bk} {w : World} {B : Bool} (h : BA w.heap.size w a l) (h' : BA w.heap.size w a' l') (hB : sameB sd l st sd' l' st' = B) :
    Calls Try.prog 15 #[.agg #[.int .u32 sd, .slice a l.length cap, .int .u32 st], .agg #[.int .u32 sd', .slice a' l'.length cap', .int .u32 st']] w fun e w' => e = .returned (.bool B) ∧ Apart (fun _ => False) w w' := by
  subst hB; exact same_any sd st sd' st' a a' cap cap' l l' w h h'
theorem encS_none {sd st : Int} {l : List Bk} (h : ¬ encE l = 0) : encS sd l st = ⟨#[]⟩ := if_neg h
theorem encE_cases (l : List Bk) : (goodL l = false ∧ encE l = 1) ∨ (goodL l = true ∧ 65536 < 8 + szB l ∧ encE l = 2) ∨ (goodL l = true ∧ 8 + szB l ≤ 65536 ∧ encE l = 0) := by
  unfold encE
  cases hg : goodL l with
  | false => left; simp
  | true =>
    right
    by_cases h : 65536 < 8 + szB l
    · left; simp [h]
    · right; exact ⟨rfl, by omega, by simp [h]⟩
end Go.Proofs.Ytohembamfjbclaa
