/-
  What the reference's Send hands back.
-/
import Derived.Test.YtdojphkibgfomaaHiQ
namespace Go.Proofs.Ytdojphkibgfomaa
open Go.RowKit Go.Maps

set_option maxRecDepth 100000 in
set_option maxHeartbeats 1000000 in
theorem rsend_no {w : World} {rb : Nat} {T nx la : Int} {L : List Sn} (h : Rf w rb T nx la L) (z t x : Int) (hl : L.length ≤ 1024) (hx : sndE la L.length z t = x) (h0 : ¬ x = 0) :
    Calls Try.prog 12 #[.pointer (some ⟨rb, 0, none⟩), .int .i64 z, .int .i64 t] w fun e w' => e = .returned (.tuple #[.int .i64 0, .int .i64 x]) ∧ w' = w := by
  obtain ⟨ad, cp, h1, h2⟩ := h
  obtain ⟨c0, c1, c2, c3, -⟩ := cells4 h1
  clear h1 h2
  obtain ⟨n, HN⟩ : ∃ n, Hid (L.length = n) := ⟨_, rfl⟩
  rw [HN.out] at c1 hx hl
  have hl' : (n : Int) ≤ 1024 := by omega
  clear hl
  have HE : Hid (∀ y : Int, y = x → Ending.returned (.tuple #[.int .i64 0, .int .i64 y]) = .returned (.tuple #[.int .i64 0, .int .i64 x])) := fun y e => by rw [e]
  have hor : (z < 0 ∧ x = 1) ∨ (0 ≤ z ∧ 1500 < z ∧ x = 1) ∨ (0 ≤ z ∧ z ≤ 1500 ∧ t < 0 ∧ x = 1) ∨ (0 ≤ z ∧ z ≤ 1500 ∧ 0 ≤ t ∧ 1125899906842624 < t ∧ x = 1) ∨
      (0 ≤ z ∧ z ≤ 1500 ∧ 0 ≤ t ∧ t ≤ 1125899906842624 ∧ t < la ∧ x = 130) ∨ (0 ≤ z ∧ z ≤ 1500 ∧ 0 ≤ t ∧ t ≤ 1125899906842624 ∧ la ≤ t ∧ (n : Int) = 1024 ∧ x = 250) := by
    unfold sndE at hx
    repeat' split at hx <;> omega
  clear hx h0
  rcases hor with ⟨y0, e⟩ | ⟨y0, y1, e⟩ | ⟨y0, y1, y2, e⟩ | ⟨y0, y1, y2, y3, e⟩ | ⟨y0, y1, y2, y3, y4, e⟩ | ⟨y0, y1, y2, y3, y4, y5, e⟩
  all_goals
    subst e
    go_enter Try.func12, Try.ntmps12
    go_wp2
    go_ret2
    exact ⟨rfl, rfl⟩
theorem own_empty_at {w : World} {B g : Nat} (h : w.heap[g]? = some (.cells #[] 56 (0, 0))) (hB : B ≤ g) : w.ownsRow B 56 3 (.slice (some ⟨g, 0, none⟩) 0 0) 0 [] :=
  ⟨by simp, .inr ⟨g, 0, #[], rfl, hB, h, Nat.le_refl _, by unfold maxLen; omega, by simp, by simp⟩⟩
theorem sna_src {w : World} {a : Option Addr} {c : Nat} {l : List Sn} (h : SnA w a l) : SrcN w 3 (.slice a l.length c) l.length (sC l) := by
  cases l with
  | nil =>
    cases a with
    | none => exact .inl ⟨c, rfl, rfl, rfl⟩
    | some ad => exact .inr ⟨ad, c, rfl, rfl, fun j u hj => by simp [sC] at hj⟩
  | cons s0 r =>
    obtain ⟨b, off, rfl, hb, -⟩ := h 0 s0 rfl
    refine .inr ⟨⟨b, off, none⟩, c, rfl, by simp, fun t u ht => ?_⟩
    rw [sC_get] at ht
    split at ht
    · rename_i hlt
      have hk : t / 3 < (s0 :: r).length := by omega
      obtain ⟨b', off', e, _, hc⟩ := h (t / 3) _ (List.getElem?_eq_getElem hk)
      obtain ⟨rfl, rfl⟩ : b = b' ∧ off = off' := by simpa using e
      rw [List.getElem?_eq_getElem hk] at ht
      simp only [Option.getD_some] at ht
      obtain ⟨c0, c1, c2⟩ := hc
      have hm : t % 3 = 0 ∨ t % 3 = 1 ∨ t % 3 = 2 := by omega
      rw [Addr.add_lit]
      rcases hm with e | e | e
      · rw [e] at ht; cases ht; rw [show off + t = off + t / 3 * 3 by omega]; exact c0
      · rw [e] at ht; cases ht; rw [show off + t = off + t / 3 * 3 + 1 by omega]; exact c1
      · rw [e] at ht; cases ht; rw [show off + t = off + t / 3 * 3 + 2 by omega]; exact c2
    · cases ht
theorem src_block {w : World} {g : Nat} {s : Sn} (h : Bs w g s) : SrcN w 3 (.slice (some ⟨g, 0, none⟩) 1 1) 1 (sE s) := by
  refine .inr ⟨_, 1, rfl, rfl, fun j u hj => ?_⟩
  rw [Addr.add_lit, Nat.zero_add, cell_of_row _ _ j _ 56 _ h]
  simpa [sE] using hj
end Go.Proofs.Ytdojphkibgfomaa
