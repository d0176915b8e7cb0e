/-
  What appendMask hands back.
-/
import Derived.Test.YtmnpghelglohlaaNkI
namespace Go.Proofs.Ytmnpghelglohlaa
open Go.RowKit

theorem frame24 (a : Act) (hs : a.tmps.size = 24) (hd : a.defers = []) : ∃ u : Nat → Value, (∀ i, a.tmps.getD i undef = u i) ∧ a = { tmps := #[u 0, u 1, u 2, u 3, u 4, u 5, u 6, u 7, u 8, u 9, u 10, u 11, u 12, u 13, u 14, u 15, u 16, u 17, u 18, u 19, u 20, u 21, u 22, u 23], defers := [] } := frame_of a 24 hs hd
/-- A row of numbers of one's own. -/
def OI (B : Nat) (w : World) (v : Value) (l : List Int) : Prop := w.ownsRow B 3 1 v l.length (IC l)
theorem OI.below {B : Nat} {w w' : World} {v : Value} {l : List Int} (h : OI B w v l) (hb : Below w.heap.size w w') : OI B w' v l := ownsRow_below h hb (fun k hk => (h.lt k hk).2)
theorem OI.nil (B : Nat) (w : World) : OI B w (.slice none 0 0) [] := World.ownsRow_nil _ _ _ _
theorem OI.grown {B : Nat} {w' : World} {v' : Value} {n : Nat} {l : List Int} {y : Int} (ho : w'.ownsRow B 3 1 v' (n + 1) (IC l ++ [.int .i64 y])) (hn : n = l.length) : OI B w' v' (l ++ [y]) := by
  subst hn
  unfold OI
  rw [IC_app, List.length_append]
  exact ho
/-- What a row of one's own that grows by one leaves as it was. -/
theorem own_below {B : Nat} {w w' : World} {v : Value} {l : List Int} {o : Obj} (h : OI B w v l) (hB : B ≤ w.heap.size) (hg : (w.alloc o).grownBy w' v.ownBlock) : Below B w w' :=
  ((Below.refl B w).alloc hB o).trans ⟨hg.os, hg.tape, hg.output, hg.size, fun k hk => hg.block k (by simp; omega) (fun e => by have := (h.lt k e.symm).1; omega)⟩
theorem and_bit32 (M i : Nat) (hM : M < 65536) : bits .and .u32 ((M : Int) / 2 ^ i) 1 = ((M / 2 ^ i % 2 : Nat) : Int) := by
  have e1 : ((M : Int) / 2 ^ i) = ((M / 2 ^ i : Nat) : Int) := by simp
  have l1 : M / 2 ^ i < 4294967296 := Nat.lt_of_le_of_lt (Nat.div_le_self _ _) (by omega)
  have e2 := u32_and_nat (M / 2 ^ i) 1 l1 (by decide)
  rw [Nat.and_one_is_mod] at e2
  rw [e1]; exact e2
set_option maxRecDepth 100000 in
set_option maxHeartbeats 1000000 in
theorem appmask_any (B : Nat) (v : Value) (l : List Int) (x : Int) (M : Nat) (x0 : 0 ≤ x) (x1 : x < 65536) (hM : M < 65536) (hl : l.length ≤ 5000) (w : World) (hB : B ≤ w.heap.size) (h : OI B w v l) :
    Calls Try.prog 44 #[v, .int .i64 x, .int .u32 (M : Int)] w fun e w' => (∃ v', e = .returned v' ∧ OI B w' v' (l ++ tl x M 0 16)) ∧ Below B w w' := by
  have H := mkHid h
  have HM := mkHid hM
  have HL := mkHid hl
  obtain ⟨R, HR⟩ : ∃ R, Hid (l ++ tl x M 0 16 = R) := ⟨_, rfl⟩
  obtain ⟨i0, hi, hz0, hz1, hz2⟩ := info3'
  rw [HR.out]
  clear h hM hl
  go_enter Try.func44, Try.ntmps44
  go_wp2
  refine wp_scope_label 0 (fun a' w' => ∃ (i : Nat) (va : Value) (q : List Int), (a'.tmps.size = 24 ∧ a'.defers = [] ∧ a'.tmps.getD 0 undef = va ∧ a'.tmps.getD 1 undef = .int .i64 x ∧ a'.tmps.getD 2 undef = .int .u32 (M : Int) ∧ a'.tmps.getD 7 undef = .int .i64 (i : Int)) ∧ i ≤ 16 ∧ q.length ≤ 5000 + i ∧ q ++ tl x M i (16 - i) = R ∧ OI B w' va q ∧ Below B w w') (fun a' _ => 16 - (intOf (a'.tmps.getD 7 undef)).toNat) rfl ?_ ?_
  · intro Q' hh
    have HH := mkHid hh
    clear hh
    go_wp2
    go_step3
    refine ‹∀ a w, Code.wp _ _ _ a w → _› _ _ (HH.out _ _ ?_)
    exact ⟨0, v, l, ⟨rfl, rfl, rfl, rfl, rfl, rfl⟩, by decide, HL.out, HR.out, H.out, Below.refl _ _⟩
  · rintro a' w' ⟨i, va, q, ⟨z, d, e0, e1, e2, e7⟩, hi16, hq, hqr, ho, hb⟩
    obtain ⟨u, hu, ha⟩ := frame24 a' z d
    rw [hu] at e0 e1 e2 e7
    rw [e0, e1, e2, e7] at ha
    clear z d hu e0 e1 e2 e7
    subst ha
    have HQ := mkHid hq
    have HQR := mkHid hqr
    have HO := mkHid ho
    have HB := mkHid hb
    have hbs := hb.size
    have hbs' : B ≤ w'.heap.size := Nat.le_trans hB hbs
    obtain ⟨ad, cp, rfl⟩ := ownsRow_slice ho
    clear hq hqr ho hb H
    by_cases h16 : i = 16
    · subst h16
      go_wp2
      simp only [Exit.jump]
      go_ret
      refine ⟨⟨_, rfl, ?_⟩, HB.out⟩
      have := HQR.out
      rw [Nat.sub_self, tl, List.append_nil] at this
      subst this
      exact HO.out
    · have hne : ((i : Int) == 16) = false := by simp; omega
      have ib := mkHid (and_bit32 M i HM.out)
      obtain ⟨bt, HBT⟩ : ∃ bt, Hid (M / 2 ^ i % 2 = bt) := ⟨_, rfl⟩
      rw [HBT.out] at ib
      have hbt : bt < 2 := by rw [← HBT.out]; exact Nat.mod_lt _ (by decide)
      have HTL := mkHid (show tl x M i (16 - i) = (if bt = 1 then [(x + i + 1) % 65536] else []) ++ tl x M (i + 1) (16 - (i + 1)) by
        rw [show 16 - i = (16 - (i + 1)) + 1 by omega, tl, HBT.out])
      have ii0 : (0 : Int) ≤ i := by omega
      rcases (by omega : bt = 0 ∨ bt = 1) with rfl | rfl
      · have ib' : bits .and .u32 ((M : Int) / 2 ^ i) 1 = 0 := ib.out
        obtain ⟨n, HN⟩ : ∃ n, Hid (q.length = n) := ⟨_, rfl⟩
        rw [HN.out]
        go_wp2
        go_step3
        refine ⟨rfl, ⟨i + 1, _, q, ⟨rfl, rfl, rfl, rfl, rfl, rfl⟩, by omega, by have := HQ.out; omega, ?_, by rw [← HN.out]; exact HO.out, HB.out⟩, ?_⟩
        · have := HQR.out
          rw [HTL.out, if_neg (by decide)] at this
          exact this
        · simp [intOf]; omega
      · have ib' : bits .and .u32 ((M : Int) / 2 ^ i) 1 = 1 := ib.out
        have NO := mkHid (numof_any x i x0 x1 (by omega))
        obtain ⟨y, HY⟩ : ∃ y, Hid ((x + i + 1) % 65536 = y) := ⟨_, rfl⟩
        rw [HY.out] at NO HTL
        obtain ⟨n, HN⟩ : ∃ n, Hid (q.length = n) := ⟨_, rfl⟩
        rw [HN.out]
        have HO' := mkHid (show w'.ownsRow B 3 1 (.slice ad n cp) n (IC q) by rw [← HN.out]; exact HO.out)
        have HNB := mkHid (show n ≤ 5016 by have := HQ.out; rw [HN.out] at this; omega)
        go_wp2_with (first | (go_at_call 50; refine (NO.out _).mono ?_; rintro e w2 ⟨rfl, rfl⟩) | (at_builtin; refine wpList_append_own2 _ rfl (.tmp 16) (.tmp 20) 23 rfl B 3 i0 (.int .i64 0) 1 8 Try.underlying23 hi hz0 hz1 hz2 rfl (by decide) (.slice ad n cp) n (IC q) rfl (HO'.out.alloc _) ⟨w2.heap.size, 0, none⟩ 1 1 [.int .i64 y] rfl rfl (cell_one_new _ _ _) (by intro u hu; simp at hu; subst hu; rfl) (by unfold maxLen; have := HNB.out; omega) (by have := HNB.out; omega) (by simp; omega) ?_; intro v4 w4 hown4 hgrow4 _; have OW4 := mkHid hown4; have GR4 := mkHid hgrow4; clear hown4 hgrow4))
        go_step3
        refine ⟨rfl, ⟨i + 1, _, q ++ [y], ⟨rfl, rfl, rfl, rfl, rfl, rfl⟩, by omega, by have := HQ.out; simp; omega, ?_, OI.grown OW4.out HN.out.symm, HB.out.trans (own_below (v := .slice ad n cp) (by rw [← HN.out]; exact HO.out) hbs' GR4.out)⟩, ?_⟩
        · have := HQR.out
          rw [HTL.out, if_pos trivial] at this
          rw [List.append_assoc]
          exact this
        · simp [intOf]; omega
end Go.Proofs.Ytmnpghelglohlaa
