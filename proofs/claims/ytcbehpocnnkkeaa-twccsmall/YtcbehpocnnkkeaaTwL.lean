/-
  What the functions that lay the chunks do.
-/
import Derived.Test.YtcbehpocnnkkeaaTwW
namespace Go.Proofs.Ytcbehpocnnkkeaa
open Go.RowKit

set_option maxRecDepth 100000 in
set_option maxHeartbeats 400000 in
theorem putlong_any (b : Nat) (v : Value) (L : List Bool) (a : Option Addr) (c : Nat) (l : List Int) (h2 : ∀ s ∈ l, 0 ≤ s ∧ s ≤ 2) (hp : L.length % 16 = 0) (hl : L.length + 16 ≤ 524288) (w : World) (h : Wr 73 w b v L) (hi : IA b w a c l) :
    Calls Try.prog 59 #[.slice a l.length c, .pointer (some ⟨b, 0, none⟩)] w fun e w' => e = .returned (.int .i64 (min 14 l.length : Nat)) ∧ ∃ v', Wr 73 w' b v' (L ++ longB l) ∧ Tch b v v' w w' := by
  have H := mkHid h
  have HI := mkHid hi
  have HL := mkHid hl
  have HP := mkHid hp
  have H2 := mkHid h2
  have PR := mkHid (fun v L hp hl w h hi => putrow_any 14 1 (.inl ⟨rfl, rfl⟩) b v L a c l h2 hp hl w h hi)
  obtain ⟨n, HN⟩ : ∃ n, Hid (l.length = n) := ⟨_, rfl⟩
  obtain ⟨m, HM⟩ : ∃ m, Hid (min 14 l.length = m) := ⟨_, rfl⟩
  unfold longB
  rw [HM.out]
  rw [HM.out, HN.out] at PR
  rw [HN.out]
  clear h hi hl hp h2
  go_enter Try.func59, Try.ntmps59
  go_wp2_with fail
  refine (put_fit b v L _ _ 1 1 rfl rfl (by omega) (by omega) (by have := HL.out; omega) _ H.out).mono ?_
  rintro e w1 ⟨rfl, v1, h1, t1⟩
  have H1 := mkHid h1
  have T1 := mkHid t1
  have I1 := mkHid (HI.out.kept (t1.below H.out b (Nat.le_refl _)))
  clear h1 t1
  go_wp2_with fail
  refine (put_fit b v1 _ _ _ 0 1 rfl rfl (by omega) (by omega) (by have := HL.out; simp; omega) _ H1.out).mono ?_
  rintro e w2 ⟨rfl, v2, h2, t2⟩
  have H2' := mkHid h2
  have T2 := mkHid (T1.out.trans t2)
  have I2 := mkHid (I1.out.kept (t2.below H1.out b (Nat.le_refl _)))
  clear h2 t2 H1 T1 I1
  go_wp2_with fail
  refine (PR.out v2 _ (by have := HP.out; simp; omega) (by have := HL.out; simp; omega) _ H2'.out I2.out).mono ?_
  rintro e w3 ⟨rfl, v3, h3, t3⟩
  have H3 := mkHid h3
  have T3 := mkHid (T2.out.trans t3)
  clear h3 t3 H2' T2 I2 PR
  go_wp2
  go_ret
  refine ⟨rfl, v3, ?_, T3.out⟩
  have := H3.out
  simp only [List.append_assoc, Nat.one_mul] at this ⊢
  exact this
set_option maxRecDepth 100000 in
set_option maxHeartbeats 400000 in
theorem putshort_any (b : Nat) (v : Value) (L : List Bool) (a : Option Addr) (c : Nat) (l : List Int) (h2 : ∀ s ∈ l, 0 ≤ s ∧ s ≤ 2) (hp : L.length % 16 = 0) (hl : L.length + 16 ≤ 524288) (w : World) (h : Wr 73 w b v L) (hi : IA b w a c l) :
    Calls Try.prog 60 #[.slice a l.length c, .pointer (some ⟨b, 0, none⟩)] w fun e w' => e = .returned (.int .i64 (min 7 l.length : Nat)) ∧ ∃ v', Wr 73 w' b v' (L ++ shortB l) ∧ Tch b v v' w w' := by
  have H := mkHid h
  have HI := mkHid hi
  have HL := mkHid hl
  have HP := mkHid hp
  have H2 := mkHid h2
  have PR := mkHid (fun v L hp hl w h hi => putrow_any 7 2 (.inr ⟨rfl, rfl⟩) b v L a c l h2 hp hl w h hi)
  obtain ⟨n, HN⟩ : ∃ n, Hid (l.length = n) := ⟨_, rfl⟩
  obtain ⟨m, HM⟩ : ∃ m, Hid (min 7 l.length = m) := ⟨_, rfl⟩
  unfold shortB
  rw [HM.out]
  rw [HM.out, HN.out] at PR
  rw [HN.out]
  clear h hi hl hp h2
  go_enter Try.func60, Try.ntmps60
  go_wp2_with fail
  refine (put_fit b v L _ _ 1 1 rfl rfl (by omega) (by omega) (by have := HL.out; omega) _ H.out).mono ?_
  rintro e w1 ⟨rfl, v1, h1, t1⟩
  have H1 := mkHid h1
  have T1 := mkHid t1
  have I1 := mkHid (HI.out.kept (t1.below H.out b (Nat.le_refl _)))
  clear h1 t1
  go_wp2_with fail
  refine (put_fit b v1 _ _ _ 1 1 rfl rfl (by omega) (by omega) (by have := HL.out; simp; omega) _ H1.out).mono ?_
  rintro e w2 ⟨rfl, v2, h2, t2⟩
  have H2' := mkHid h2
  have T2 := mkHid (T1.out.trans t2)
  have I2 := mkHid (I1.out.kept (t2.below H1.out b (Nat.le_refl _)))
  clear h2 t2 H1 T1 I1
  go_wp2_with fail
  refine (PR.out v2 _ (by have := HP.out; simp; omega) (by have := HL.out; simp; omega) _ H2'.out I2.out).mono ?_
  rintro e w3 ⟨rfl, v3, h3, t3⟩
  have H3 := mkHid h3
  have T3 := mkHid (T2.out.trans t3)
  clear h3 t3 H2' T2 I2 PR
  go_wp2
  go_ret
  refine ⟨rfl, v3, ?_, T3.out⟩
  have := H3.out
  simp only [List.append_assoc] at this ⊢
  exact this
/-- What lays the next chunk. -/
def layF (l : List Int) : Nat := if kind l = 0 then 57 else if kind l = 1 then 59 else 60
theorem kind0 {l : List Int} : kind l = 0 ↔ min 7 l.length ≤ alk l := by
  unfold kind
  split
  · simp [*]
  · split <;> simp [*]
set_option maxRecDepth 100000 in
set_option maxHeartbeats 400000 in
theorem layer_any (b c : Nat) (a : Option Addr) (l : List Int) (hn : 0 < l.length) (w : World) (hB : b ≤ w.heap.size) (h : IA b w a c l) :
    Calls Try.prog 47 #[.slice a l.length c] w fun e w' => e = .returned (.func (.func (layF l)) #[.slice a l.length c] #[]) ∧ Apart (fun _ => False) w w' := by
  have m1 := h.len
  have hc := h.1
  have ha := alk_le l
  have AK := mkHid (alike_any b c a l hn w hB h)
  have CT := mkHid (fun (w' : World) (h' : IA b w' a c l) => contains_any b c a (l.take 14) 2 w' (h'.take 14))
  have H := mkHid h
  have hl14 : (l.take 14).length = min 14 l.length := by simp
  rw [hl14] at CT
  unfold layF
  obtain ⟨K, HK⟩ : ∃ K, Hid (kind l = K) := ⟨_, rfl⟩
  rw [HK.out]
  have k0 := kind0 (l := l)
  rw [HK.out] at k0
  have kc : ¬ K = 0 → (l.take 14).contains 2 = decide (K = 2) ∧ (K = 1 ∨ K = 2) := by
    intro h0
    have := HK.out
    unfold kind at this
    rw [if_neg (fun e => h0 (k0.2 e))] at this
    split at this
    · rename_i h1; subst this; exact ⟨by simpa using h1, .inr rfl⟩
    · rename_i h1; subst this; exact ⟨by simpa using h1, .inl rfl⟩
  obtain ⟨n, HN⟩ : ∃ n, Hid (l.length = n) := ⟨_, rfl⟩
  obtain ⟨r, HR⟩ : ∃ r, Hid (alk l = r) := ⟨_, rfl⟩
  rw [HN.out] at m1 hc hn AK CT k0 ⊢
  rw [HR.out] at AK k0
  rw [HR.out, HN.out] at ha
  have hn' : (0 : Int) < n := by omega
  have hc' : (n : Int) ≤ c := by omega
  have hr' : (r : Int) ≤ n := by omega
  clear h hl14
  by_cases h0 : K = 0
  · subst h0
    have k1 := k0.1 rfl
    have k2 : min 7 (n : Int) ≤ r := by omega
    clear k0 kc k1
    go_enter Try.func47, Try.ntmps47
    go_wp2_with fail
    refine (AK.out).mono ?_
    rintro e w1 ⟨rfl, a1⟩
    have A1 := mkHid a1
    clear a1
    go_wp2
    all_goals
      go_ret
      exact ⟨rfl, A1.out⟩
  · obtain ⟨kc1, kc2⟩ := kc h0
    rw [kc1] at CT
    have k2 : r < 7 ∧ r < n := by
      have : ¬ min 7 n ≤ r := fun e => h0 (k0.2 e)
      omega
    obtain ⟨k3, k4⟩ := k2
    have k3' : (r : Int) < 7 := by omega
    have k4' : (r : Int) < n := by omega
    clear k0 kc kc1
    by_cases h14 : n < 14
    · have e14 : min 14 n = n := by omega
      rw [e14] at CT
      clear e14
      go_enter Try.func47, Try.ntmps47
      go_wp2_with fail
      refine (AK.out).mono ?_
      rintro e w1 ⟨rfl, a1⟩
      have A1 := mkHid a1
      have I1 := mkHid (H.out.kept (a1.belowF b hB))
      clear a1
      go_wp2_with fail
      all_goals
        refine (CT.out _ I1.out).mono ?_
        rintro e w2 ⟨rfl, rfl⟩
        rcases kc2 with rfl | rfl
        all_goals
          go_wp2
          go_ret
          exact ⟨rfl, A1.out⟩
    · have e14 : min 14 n = 14 := by omega
      rw [e14] at CT
      clear e14
      go_enter Try.func47, Try.ntmps47
      go_wp2_with fail
      refine (AK.out).mono ?_
      rintro e w1 ⟨rfl, a1⟩
      have A1 := mkHid a1
      have I1 := mkHid (H.out.kept (a1.belowF b hB))
      clear a1
      go_wp2_with fail
      all_goals
        refine (CT.out _ I1.out).mono ?_
        rintro e w2 ⟨rfl, rfl⟩
        rcases kc2 with rfl | rfl
        all_goals
          go_wp2
          go_ret
          exact ⟨rfl, A1.out⟩
theorem deltabits_any (s : Int) (w : World) : Calls Try.prog 48 #[.int .i64 s] w fun e w' => e = .returned (.int .i64 (dW s : Nat)) ∧ w' = w := by
  unfold dW
  by_cases h : s = 1
  · rw [if_pos h]
    go_enter Try.func48, Try.ntmps48
    go_wp2
    go_ret
    exact ⟨rfl, rfl⟩
  · rw [if_neg h]
    go_enter Try.func48, Try.ntmps48
    go_wp2
    go_ret
    exact ⟨rfl, rfl⟩
end Go.Proofs.Ytcbehpocnnkkeaa
