/-
  What the functions that write a report's body do.
-/
import Derived.Test.YtcbehpocnnkkeaaTwK
namespace Go.Proofs.Ytcbehpocnnkkeaa
open Go.RowKit

theorem tch_of {b : Nat} {v : Value} {w w' : World} (h : Apart (fun _ => False) w w') : Tch b v v w w' := ⟨h.mono (fun _ _ h => h.elim), fun _ h => .inl h⟩
theorem wr_of {T : TypeId} {w w' : World} {b : Nat} {v : Value} {l : List Bool} (h : Wr T w b v l) (ha : Apart (fun _ => False) w w') : Wr T w' b v l := h.kept ha (fun h => h) (fun _ _ h => h)
set_option maxRecDepth 100000 in
set_option maxHeartbeats 400000 in
theorem putrun_any (b : Nat) (v : Value) (L : List Bool) (a : Option Addr) (c : Nat) (l : List Int) (hn : 0 < l.length) (hm : l.length ≤ 4096) (h2 : ∀ s ∈ l, 0 ≤ s ∧ s ≤ 2) (hl : L.length + 16 ≤ 524288) (w : World) (h : Wr 73 w b v L) (hi : IA b w a c l) :
    Calls Try.prog 57 #[.slice a l.length c, .pointer (some ⟨b, 0, none⟩)] w fun e w' => e = .returned (.int .i64 (alk l : Int)) ∧ ∃ v', Wr 73 w' b v' (L ++ runB l) ∧ Tch b v v' w w' := by
  have H := mkHid h
  have HI := mkHid hi
  have HL := mkHid hl
  have ha := alk_le l
  have AK := mkHid (alike_any b c a l hn w (by have := h.lt; omega) hi)
  obtain ⟨bq, off, s0, rfl, _, hs, _⟩ := hi.at 0 hn
  have e0 : l.getD 0 0 = s0 := by rw [List.getD_eq_getElem?_getD, hs]; rfl
  obtain ⟨s1, s2⟩ := h2 s0 (List.mem_of_getElem? hs)
  unfold runB
  rw [e0]
  obtain ⟨n, HN⟩ : ∃ n, Hid (l.length = n) := ⟨_, rfl⟩
  obtain ⟨r, HR⟩ : ∃ r, Hid (alk l = r) := ⟨_, rfl⟩
  rw [HN.out] at hn hm AK ⊢
  rw [HR.out] at AK ⊢
  rw [HR.out, HN.out] at ha
  have hn' : (0 : Int) < n := by omega
  have hr' : (r : Int) ≤ 4096 := by omega
  clear h hi hl h2 e0
  have HS := mkHid hs
  clear hs
  go_enter Try.func57, Try.ntmps57
  go_wp2_with fail
  refine (AK.out).mono ?_
  rintro e w1 ⟨rfl, a1⟩
  have H1 := mkHid (wr_of H.out a1)
  have T1 := mkHid (tch_of (b := b) (v := v) a1)
  have I1 := mkHid (HI.out.kept (a1.belowF b (by have := H.out.lt; omega)))
  clear a1 AK HI
  go_wp2_with fail
  refine (put_fit b v L _ _ 0 1 rfl rfl (by omega) (by omega) (by have := HL.out; omega) _ H1.out).mono ?_
  rintro e w2 ⟨rfl, v2, h2, t2⟩
  have H2 := mkHid h2
  have T2 := mkHid (T1.out.trans t2)
  have I2 := mkHid (I1.out.kept (t2.below H1.out b (Nat.le_refl _)))
  obtain ⟨b', off', x, e1, _, hx, c0⟩ := I2.out.at 0 (by rw [HN.out]; exact hn)
  simp only [Option.some.injEq, Addr.mk.injEq, and_true] at e1
  obtain ⟨rfl, rfl⟩ := e1
  rw [HS.out] at hx
  simp only [Option.some.injEq] at hx
  subst hx
  rw [Nat.add_zero] at c0
  clear h2 t2 H1 T1 I1
  go_wp2_with fail
  refine (put_fit b v2 _ _ _ s0.toNat 2 (by omega) rfl (by omega) (by omega) (by have := HL.out; simp; omega) _ H2.out).mono ?_
  rintro e w3 ⟨rfl, v3, h3, t3⟩
  have H3 := mkHid h3
  have T3 := mkHid (T2.out.trans t3)
  clear h3 t3 H2 T2 I2 c0
  go_wp2_with fail
  refine (put_fit b v3 _ _ _ r 13 (by omega) rfl (by omega) (by omega) (by have := HL.out; simp; omega) _ H3.out).mono ?_
  rintro e w4 ⟨rfl, v4, h4, t4⟩
  have H4 := mkHid h4
  have T4 := mkHid (T3.out.trans t4)
  clear h4 t4 H3 T3
  go_wp2
  go_ret
  refine ⟨rfl, v4, ?_, T4.out⟩
  have := H4.out
  simp only [List.append_assoc] at this ⊢
  exact this
theorem rowB_take {k : Nat} {l : List Int} {i : Nat} {x : Int} (h : l[i]? = some x) : rowB k (l.take (i + 1)) = rowB k (l.take i) ++ bitsOf x.toNat k := by
  have hi : i < l.length := (List.getElem?_eq_some_iff.1 h).1
  rw [List.take_add_one, h, rowB_app]
  simp [rowB]
theorem align16 (L : List Bool) (P m : Nat) (h0 : P % 16 = 2) (h1 : L.length = P + m) (hm : m ≤ 14) (h2 : P + 14 ≤ 524288) : alignS L 16 = L ++ bitsOf 0 (14 - m) := by
  unfold alignS
  have e : (16 - (L.length : Int) % 16) % 16 = ((14 - m : Nat) : Int) := by omega
  rw [e, if_pos (by omega), Int.toNat_natCast]
set_option maxRecDepth 100000 in
set_option maxHeartbeats 400000 in
theorem putrow_any (S k : Nat) (hS : S = 14 ∧ k = 1 ∨ S = 7 ∧ k = 2) (b : Nat) (v : Value) (L : List Bool) (a : Option Addr) (c : Nat) (l : List Int) (h2 : ∀ s ∈ l, 0 ≤ s ∧ s ≤ 2) (hp : L.length % 16 = 2) (hl : L.length + 14 ≤ 524288) (w : World) (h : Wr 73 w b v L) (hi : IA b w a c l) :
    Calls Try.prog 68 #[.slice a l.length c, .pointer (some ⟨b, 0, none⟩), .int .i64 (S : Int)] w fun e w' => e = .returned (.int .i64 (min S l.length : Nat)) ∧ ∃ v', Wr 73 w' b v' (L ++ rowB k (l.take S) ++ bitsOf 0 (14 - k * min S l.length)) ∧ Tch b v v' w w' := by
  have H := mkHid h
  have HI := mkHid hi
  have HL := mkHid hl
  have HP := mkHid hp
  have H2 := mkHid h2
  have HS := mkHid hS
  have m1 := hi.len
  have hc := hi.1
  have hk : (14 : Int) / S = k := by rcases hS with ⟨rfl, rfl⟩ | ⟨rfl, rfl⟩ <;> rfl
  have hs0 : (0 : Int) < S := by omega
  have hs1 : (S : Int) ≤ 14 := by omega
  obtain ⟨n, HN⟩ : ∃ n, Hid (l.length = n) := ⟨_, rfl⟩
  obtain ⟨m, HM⟩ : ∃ m, Hid (min S l.length = m) := ⟨_, rfl⟩
  rw [HM.out]
  rw [HN.out] at m1 hc ⊢
  have hm : min (S : Int) (n : Int) = m := by have := HM.out; rw [HN.out] at this; omega
  have hmc : (m : Int) ≤ c := by omega
  have hm1 : (m : Int) ≤ 14 := by omega
  clear h hi hl hp h2 hS
  by_cases hsn : S ≤ n
  · obtain rfl : m = S := by omega
    go_enter Try.func68, Try.ntmps68
    go_wp2
    go_loopw [18] (fun i wr => ∃ (j : Nat) (vj : Value), j ≤ m ∧ i = .int .i64 (j : Int) ∧ Wr 73 wr b vj (L ++ rowB k (l.take j)) ∧ Tch b v vj w wr ∧ IA b wr a c l) (fun i _ => m - (intOf i).toNat)
    case atStart => exact ⟨0, v, Nat.zero_le _, rfl, by simpa [rowB] using H.out, Tch.refl _ _ _, HI.out⟩
    case round =>
      obtain ⟨j, vj, hj, rfl, hw, ht, hij⟩ := hrel
      have HW := mkHid hw
      have HT := mkHid ht
      have HJ := mkHid hij
      clear hw ht hij H HI
      have HE := mkHid (show (L ++ rowB k (l.take j)).length = L.length + k * j by have := HN.out; simp; congr 1; omega)
      have HKJ := mkHid (show k * m ≤ 14 ∧ (j < m → k * j + k ≤ 14) by rcases HS.out with ⟨rfl, rfl⟩ | ⟨rfl, rfl⟩ <;> omega)
      by_cases hlt : j < m
      · obtain ⟨bq, off, x, rfl, _, hx, c0⟩ := HJ.out.at j (by rw [HN.out]; omega)
        have HX := mkHid (rowB_take (k := k) hx)
        obtain ⟨x0, x1⟩ := H2.out x (List.mem_of_getElem? hx)
        clear hx
        go_wp2_with fail
        refine (put_fit b vj _ _ _ x.toNat k (by omega) (by first | rfl | exact hk | omega) (by omega) (by have := HKJ.out.2 hlt; omega) (by rw [HE.out]; have := HL.out; have := HKJ.out.2 hlt; omega) _ HW.out).mono ?_
        rintro e w1 ⟨rfl, v1, h1, t1⟩
        have H1 := mkHid h1
        have T1 := mkHid (HT.out.trans t1)
        have I1 := mkHid (HJ.out.kept (t1.below HW.out b (Nat.le_refl _)))
        clear h1 t1 c0 HJ HT HW
        go_wp2
        go_roundw
        case rel =>
          refine ⟨j + 1, v1, by omega, by go_num, ?_, T1.out, I1.out⟩
          have := H1.out
          rw [HX.out]
          simp only [List.append_assoc] at this ⊢
          exact this
        case measure => simp [intOf]; omega
      · obtain rfl : j = m := by omega
        have AL := mkHid (align_any b vj _ 16 _ HW.out)
        rw [align16 _ L.length (k * j) HP.out HE.out HKJ.out.1 HL.out] at AL
        go_wp2_with fail
        refine (AL.out).mono ?_
        rintro e w1 ⟨rfl, v1, h1, t1⟩
        have H1 := mkHid h1
        have T1 := mkHid (HT.out.trans t1)
        clear h1 t1 AL HW HT HJ
        go_wp2
        go_ret
        refine ⟨rfl, v1, ?_, T1.out⟩
        have := H1.out
        skip
        exact this
  · obtain rfl : m = n := by omega
    go_enter Try.func68, Try.ntmps68
    go_wp2
    go_loopw [18] (fun i wr => ∃ (j : Nat) (vj : Value), j ≤ m ∧ i = .int .i64 (j : Int) ∧ Wr 73 wr b vj (L ++ rowB k (l.take j)) ∧ Tch b v vj w wr ∧ IA b wr a c l) (fun i _ => m - (intOf i).toNat)
    case atStart => exact ⟨0, v, Nat.zero_le _, rfl, by simpa [rowB] using H.out, Tch.refl _ _ _, HI.out⟩
    case round =>
      obtain ⟨j, vj, hj, rfl, hw, ht, hij⟩ := hrel
      have HW := mkHid hw
      have HT := mkHid ht
      have HJ := mkHid hij
      clear hw ht hij H HI
      have HE := mkHid (show (L ++ rowB k (l.take j)).length = L.length + k * j by have := HN.out; simp; congr 1; omega)
      have HKJ := mkHid (show k * m ≤ 14 ∧ (j < m → k * j + k ≤ 14) by rcases HS.out with ⟨rfl, rfl⟩ | ⟨rfl, rfl⟩ <;> omega)
      by_cases hlt : j < m
      · obtain ⟨bq, off, x, rfl, _, hx, c0⟩ := HJ.out.at j (by rw [HN.out]; omega)
        have HX := mkHid (rowB_take (k := k) hx)
        obtain ⟨x0, x1⟩ := H2.out x (List.mem_of_getElem? hx)
        clear hx
        go_wp2_with fail
        refine (put_fit b vj _ _ _ x.toNat k (by omega) (by first | rfl | exact hk | omega) (by omega) (by have := HKJ.out.2 hlt; omega) (by rw [HE.out]; have := HL.out; have := HKJ.out.2 hlt; omega) _ HW.out).mono ?_
        rintro e w1 ⟨rfl, v1, h1, t1⟩
        have H1 := mkHid h1
        have T1 := mkHid (HT.out.trans t1)
        have I1 := mkHid (HJ.out.kept (t1.below HW.out b (Nat.le_refl _)))
        clear h1 t1 c0 HJ HT HW
        go_wp2
        go_roundw
        case rel =>
          refine ⟨j + 1, v1, by omega, by go_num, ?_, T1.out, I1.out⟩
          have := H1.out
          rw [HX.out]
          simp only [List.append_assoc] at this ⊢
          exact this
        case measure => simp [intOf]; omega
      · obtain rfl : j = m := by omega
        have AL := mkHid (align_any b vj _ 16 _ HW.out)
        rw [align16 _ L.length (k * j) HP.out HE.out HKJ.out.1 HL.out] at AL
        go_wp2_with fail
        refine (AL.out).mono ?_
        rintro e w1 ⟨rfl, v1, h1, t1⟩
        have H1 := mkHid h1
        have T1 := mkHid (HT.out.trans t1)
        clear h1 t1 AL HW HT HJ
        go_wp2
        go_ret
        refine ⟨rfl, v1, ?_, T1.out⟩
        have := H1.out
        rw [← HN.out, List.take_length] at this; rw [HN.out] at this; rw [List.take_of_length_le (by rw [HN.out]; omega)]
        exact this
end Go.Proofs.Ytcbehpocnnkkeaa
