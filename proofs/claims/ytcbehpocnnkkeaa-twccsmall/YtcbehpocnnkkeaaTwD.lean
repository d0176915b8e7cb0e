/-
  What the functions that read Deltas, and what stands ahead, hand back.
-/
import Derived.Test.YtcbehpocnnkkeaaTwS
namespace Go.Proofs.Ytcbehpocnnkkeaa
open Go.RowKit

theorem sg24 (v : Nat) (h : v < 16777216) : IntKind.i32.wrap (IntKind.u32.wrap ((v : Int) * 256)) / 256 = sg v 24 := by
  unfold sg
  rw [IntKind.wrap_u32, IntKind.wrap_i32]
  simp only [Nat.reducePow, Nat.reduceSub]
  split <;> omega
theorem sg16 (v : Nat) (h : v < 65536) : IntKind.i32.wrap (IntKind.u32.wrap ((v : Int) * 65536)) / 65536 = sg v 16 := by
  unfold sg
  rw [IntKind.wrap_u32, IntKind.wrap_i32]
  simp only [Nat.reducePow, Nat.reduceSub]
  split <;> omega
theorem signed24_any (v : Nat) (h : v < 16777216) (w : World) : Calls Try.prog 52 #[.int .u32 (v : Int), .int .i64 24] w fun e w' => e = .returned (.int .i64 (sg v 24)) ∧ w' = w := by
  have e1 := sg24 v h
  have HB := mkHid (sg_bd v 24 (by omega) (by simpa using h))
  obtain ⟨E, HE⟩ : ∃ E, Hid (sg v 24 = E) := ⟨_, rfl⟩
  rw [HE.out] at e1 HB ⊢
  go_enter Try.func52, Try.ntmps52
  go_wp2
  go_ret
  refine ⟨ret_i ?_, rfl⟩
  have hb := HB.out
  simp only [IntKind.wrap_u32, IntKind.wrap_i32, Nat.reducePow, Nat.reduceSub] at e1 hb
  unfold wrap64 wrap32
  omega
theorem signed16_any (v : Nat) (h : v < 65536) (w : World) : Calls Try.prog 52 #[.int .u32 (v : Int), .int .i64 16] w fun e w' => e = .returned (.int .i64 (sg v 16)) ∧ w' = w := by
  have e1 := sg16 v h
  have HB := mkHid (sg_bd v 16 (by omega) (by simpa using h))
  obtain ⟨E, HE⟩ : ∃ E, Hid (sg v 16 = E) := ⟨_, rfl⟩
  rw [HE.out] at e1 HB ⊢
  go_enter Try.func52, Try.ntmps52
  go_wp2
  go_ret
  refine ⟨ret_i ?_, rfl⟩
  have hb := HB.out
  simp only [IntKind.wrap_u32, IntKind.wrap_i32, Nat.reducePow, Nat.reduceSub] at e1 hb
  unfold wrap64 wrap32
  omega
theorem lenerr_any (n : Nat) (hn : (n : Int) ≤ 9223372036854775807) (w : World) : Calls Try.prog 33 #[.int .i64 (n : Int)] w fun e w' => e = .returned (.int .i64 (lenE n)) ∧ w' = w := by
  by_cases h1 : (65536 : Int) < n
  · have HF := mkHid (show lenE n = 2 by unfold lenE; rw [if_pos (by omega)])
    rw [HF.out]
    go_enter Try.func33, Try.ntmps33
    go_wp2
    go_ret
    exact ⟨rfl, rfl⟩
  · by_cases h2 : (n : Int) % 4 = 0
    · by_cases h3 : (n : Int) < 16
      · have HF := mkHid (show lenE n = 60 by unfold lenE; rw [if_neg (by omega), if_neg (by omega), if_pos (by omega)])
        rw [HF.out]
        go_enter Try.func33, Try.ntmps33
        go_wp2
        go_ret
        exact ⟨rfl, rfl⟩
      · have HF := mkHid (show lenE n = 0 by unfold lenE; rw [if_neg (by omega), if_neg (by omega), if_neg (by omega)])
        rw [HF.out]
        go_enter Try.func33, Try.ntmps33
        go_wp2
        go_ret
        exact ⟨rfl, rfl⟩
    · have HF := mkHid (show lenE n = 90 by unfold lenE; rw [if_neg (by omega), if_pos (by omega)])
      rw [HF.out]
      go_enter Try.func33, Try.ntmps33
      go_wp2
      go_ret
      exact ⟨rfl, rfl⟩
theorem manyerr_any (n : Nat) (w : World) : Calls Try.prog 36 #[.int .i64 (n : Int)] w fun e w' => e = .returned (.int .i64 (manyE n)) ∧ w' = w := by
  by_cases h1 : (n : Int) = 0
  · have HF := mkHid (show manyE n = 90 by unfold manyE; rw [if_pos (by omega)])
    rw [HF.out]
    go_enter Try.func36, Try.ntmps36
    go_wp2
    go_ret
    exact ⟨rfl, rfl⟩
  · by_cases h3 : (4096 : Int) < n
    · have HF := mkHid (show manyE n = 3 by unfold manyE; rw [if_neg (by omega), if_pos (by omega)])
      rw [HF.out]
      go_enter Try.func36, Try.ntmps36
      go_wp2
      go_ret
      exact ⟨rfl, rfl⟩
    · have HF := mkHid (show manyE n = 0 by unfold manyE; rw [if_neg (by omega), if_neg (by omega)])
      rw [HF.out]
      go_enter Try.func36, Try.ntmps36
      go_wp2
      go_ret
      exact ⟨rfl, rfl⟩
theorem getdelta_any (b : Nat) (s : ByteArray) (hs : s.size ≤ 1000000) (p : Nat) (x : Int) (h1 : x = 1 ∨ x = 2) (hp : p + dW x ≤ 8 * s.size) (w : World) (h : Rd 86 w b s (some p)) :
    Calls Try.prog 55 #[.pointer (some ⟨b, 0, none⟩), .int .i64 x] w fun e w' => e = .returned (.int .i64 (dV s p x)) ∧ Rd 86 w' b s (some (p + dW x)) ∧ Apart (· = b) w w' := by
  have DB := mkHid (deltabits_any x)
  have H := mkHid h
  rcases h1 with rfl | rfl
  · have e8 : dW 1 = 8 := rfl
    have ev : dV s p 1 = (gv s p 8 : Int) := rfl
    rw [e8] at hp DB ⊢
    rw [ev]
    have G1 := mkHid (fun w h => get_fit b s hs p 8 8 rfl (by omega) hp w h)
    have hb : (gv s p 8 : Int) < 256 := by have := gv_lt s p 8; omega
    obtain ⟨y, HY⟩ : ∃ y, Hid (gv s p 8 = y) := ⟨_, rfl⟩
    rw [HY.out] at hb G1 ⊢
    clear h e8 ev
    go_enter Try.func55, Try.ntmps55
    go_wp2_with fail
    refine (DB.out _).mono ?_
    rintro e w1 ⟨rfl, rfl⟩
    go_wp2_with fail
    refine (G1.out _ H.out).mono ?_
    rintro e w2 ⟨rfl, r2, a2⟩
    have R2 := mkHid r2
    have A2 := mkHid a2
    clear r2 a2
    go_wp2
    go_ret
    exact ⟨rfl, R2.out, A2.out⟩
  · have e8 : dW 2 = 16 := rfl
    have ev : dV s p 2 = sg (gv s p 16) 16 := rfl
    rw [e8] at hp DB ⊢
    rw [ev]
    have G1 := mkHid (fun w h => get_fit b s hs p 16 16 rfl (by omega) hp w h)
    have hb := gv_lt s p 16
    obtain ⟨y, HY⟩ : ∃ y, Hid (gv s p 16 = y) := ⟨_, rfl⟩
    rw [HY.out] at hb G1 ⊢
    have SG := mkHid (signed16_any y (by simpa using hb))
    obtain ⟨q, HQ⟩ : ∃ q, Hid (sg y 16 = q) := ⟨_, rfl⟩
    rw [HQ.out] at SG ⊢
    clear h e8 ev hb
    go_enter Try.func55, Try.ntmps55
    go_wp2_with fail
    refine (DB.out _).mono ?_
    rintro e w1 ⟨rfl, rfl⟩
    go_wp2_with fail
    refine (G1.out _ H.out).mono ?_
    rintro e w2 ⟨rfl, r2, a2⟩
    have R2 := mkHid r2
    have A2 := mkHid a2
    clear r2 a2
    go_wp2_with fail
    refine (SG.out _).mono ?_
    rintro e w3 ⟨rfl, rfl⟩
    go_wp2
    go_ret
    exact ⟨rfl, R2.out, A2.out⟩
theorem dlD_zero {s : ByteArray} {p : Nat} {st : List Int} : dlD s p (0 :: st) = dlD s p st := by rw [dlD, if_pos rfl]
theorem dlD_short {s : ByteArray} {p : Nat} {x : Int} {st : List Int} (h0 : ¬ x = 0) (h : 8 * s.size < p + dW x) : dlD s p (x :: st) = ⟨60, [], p⟩ := by rw [dlD, if_neg h0, if_pos h]
theorem dlD_more {s : ByteArray} {p : Nat} {x : Int} {st : List Int} (h0 : ¬ x = 0) (h : p + dW x ≤ 8 * s.size) : dlD s p (x :: st) = ⟨(dlD s (p + dW x) st).e, dV s p x :: (dlD s (p + dW x) st).l, (dlD s (p + dW x) st).p⟩ := by rw [dlD, if_neg h0, if_neg (by omega)]
set_option maxRecDepth 100000 in
set_option maxHeartbeats 1000000 in
theorem getdeltas_any (b : Nat) (s : ByteArray) (hs : s.size ≤ 1000000) (a : Option Addr) (c : Nat) (st : List Int) (h2 : ∀ x ∈ st, 0 ≤ x ∧ x ≤ 2) (hl4 : st.length ≤ 4096) (p0 : Nat) (w : World) (h : Rd 86 w b s (some p0)) (hi : IA w.heap.size w a c st) (hab : ∀ k, (Value.slice a st.length c).ownBlock = some k → st = [] ∨ ¬ k = b) :
    Calls Try.prog 38 #[.pointer (some ⟨b, 0, none⟩), .slice a st.length c] w (StPost b s (dlD s p0 st) w) := by
  have hbl := h.heap
  have H := mkHid h
  have HI := mkHid hi
  have H2 := mkHid h2
  have HAB := mkHid hab
  obtain ⟨R, HR⟩ : ∃ R, Hid (dlD s p0 st = R) := ⟨_, rfl⟩
  rw [HR.out]
  obtain ⟨B, HB⟩ : ∃ B, Hid (w.heap.size = B) := ⟨_, rfl⟩
  rw [HB.out] at hbl
  obtain ⟨n, HN⟩ : ∃ n, Hid (st.length = n) := ⟨_, rfl⟩
  rw [HN.out] at hl4 ⊢
  have hn : (n : Int) ≤ 4096 := by omega
  obtain ⟨i0, hi0, hz0, hz1, hz2⟩ := info3'
  clear h h2 hi hab
  go_enter Try.func38, Try.ntmps38
  go_wp2
  go_loopw [6, 11] (fun x i wr => ∃ (k p : Nat) (acc : List Int) (v : Value), k ≤ n ∧ i = .int .i64 (k : Int) ∧ x = v ∧ acc.length ≤ k ∧ R = ⟨(dlD s p (st.drop k)).e, acc ++ (dlD s p (st.drop k)).l, (dlD s p (st.drop k)).p⟩ ∧ Rd 86 wr b s (some p) ∧ wr.ownsRow B 3 1 v acc.length (IC acc) ∧ Apart (· = b) w wr) (fun _ i _ => n - (intOf i).toNat)
  case atStart => exact ⟨0, p0, [], .slice none 0 0, Nat.zero_le _, rfl, rfl, Nat.zero_le _, by rw [List.drop_zero, HR.out]; rfl, H.out, World.ownsRow_nil _ _ _ _, Apart.refl _ _⟩
  case round =>
    obtain ⟨k, p, acc, v, hk, rfl, rfl, hal, hR, hr, how, hap⟩ := hrel
    have HRR := mkHid hR
    have HRD := mkHid hr
    have HOW := mkHid how
    have HAP := mkHid hap
    have HAL := mkHid hal
    obtain ⟨va, vc, HV⟩ := ownsRow_slice how
    subst HV
    have hBw : B ≤ wr.heap.size := by rw [← HB.out]; exact hap.size
    clear hR hr how hap H hal
    obtain ⟨m, HM⟩ : ∃ m, Hid (acc.length = m) := ⟨_, rfl⟩
    have HVN := mkHid (show (.slice va acc.length vc : Value) = .slice va m vc by rw [HM.out])
    rw [HVN.out] at HOW ⊢
    by_cases hlt : k < n
    · obtain ⟨bq, off, x, rfl, hbq, hx, c0⟩ := HI.out.at k (by rw [HN.out]; exact hlt)
      have HX := mkHid (drop_at hx)
      have hne : ¬ bq = b := by
        rcases HAB.out bq rfl with e | e
        · subst e; simp at hx
        · exact e
      have C0 := mkHid ((HAP.out.cell (p := ⟨bq, off + k, none⟩) hbq hne).trans c0)
      obtain ⟨x0, x2⟩ := H2.out x (List.mem_of_getElem? hx)
      have c1 := C0.out
      clear hx c0
      have k0 : (0 : Int) ≤ k := by omega
      have k1 : (k : Int) < n := by omega
      by_cases h0 : x = 0
      · subst h0
        have HRN := mkHid (show R = ⟨(dlD s p (st.drop (k + 1))).e, acc ++ (dlD s p (st.drop (k + 1))).l, (dlD s p (st.drop (k + 1))).p⟩ by have := HRR.out; rw [HX.out, dlD_zero] at this; exact this)
        go_wp2
        go_roundw
        case rel => exact ⟨k + 1, p, acc, _, by omega, by go_num, rfl, by have := HAL.out; omega, HRN.out, HRD.out, by rw [HM.out]; have := HOW.out; rw [HM.out] at this; exact this, HAP.out⟩
        case measure => simp [intOf]; omega
      · obtain ⟨L, HL⟩ : ∃ L : Int, Hid (8 * (s.size : Int) - p = L) := ⟨_, rfl⟩
        have LF := mkHid (left_at b s hs p wr HRD.out L HL.out)
        have DB := mkHid (deltabits_any x)
        obtain ⟨D, HD⟩ : ∃ D : Int, Hid (((dW x : Nat) : Int) = D) := ⟨_, rfl⟩
        rw [HD.out] at DB
        by_cases hs2 : L < D
        · have HF := mkHid (dlD_short (s := s) (p := p) (st := st.drop (k + 1)) h0 (by have := HL.out; have := HD.out; omega))
          have HRN := mkHid (show R = ⟨60, acc ++ [], p⟩ by have := HRR.out; rw [HX.out, HF.out] at this; exact this)
          go_wp2_with fail
          refine (LF.out).mono ?_
          rintro e w1 ⟨rfl, n1, rfl⟩
          go_wp2_with fail
          refine (DB.out _).mono ?_
          rintro e w2 ⟨rfl, rfl⟩
          go_wp2
          go_ret2
          rw [HRN.out]
          exact ⟨.inr ⟨by simp, rfl⟩, HAP.out.drewN n1⟩
        · have hpw : p + dW x ≤ 8 * s.size := by have := HL.out; have := HD.out; omega
          have HF := mkHid (dlD_more (s := s) (p := p) (st := st.drop (k + 1)) h0 hpw)
          have HRN := mkHid (show R = ⟨(dlD s (p + dW x) (st.drop (k + 1))).e, (acc ++ [dV s p x]) ++ (dlD s (p + dW x) (st.drop (k + 1))).l, (dlD s (p + dW x) (st.drop (k + 1))).p⟩ by have := HRR.out; rw [HX.out, HF.out] at this; rw [List.append_assoc]; exact this)
          have GD := mkHid (fun w h => getdelta_any b s hs p x (by omega) hpw w h)
          obtain ⟨y, HY⟩ : ∃ y, Hid (dV s p x = y) := ⟨_, rfl⟩
          rw [HY.out] at GD HRN
          go_wp2_with fail
          refine (LF.out).mono ?_
          rintro e w1 ⟨rfl, n1, rfl⟩
          have R1 := mkHid (drew_rd n1 HRD.out)
          have A1 := mkHid (HAP.out.drewN n1)
          have O1 := mkHid (show (wr.drewN n1).ownsRow B 3 1 (.slice va m vc) acc.length (IC acc) from HOW.out)
          have hB1 : B ≤ (wr.drewN n1).heap.size := hBw
          obtain ⟨w1, HW1⟩ : ∃ w1, Hid (wr.drewN n1 = w1) := ⟨_, rfl⟩
          rw [HW1.out] at R1 A1 O1 hB1 ⊢
          clear HRD HAP HOW hBw LF c1 C0
          go_wp2_with fail
          refine (DB.out _).mono ?_
          rintro e w2 ⟨rfl, rfl⟩
          go_wp2_with fail
          refine (GD.out _ R1.out).mono ?_
          rintro e w3 ⟨rfl, r3, a3⟩
          have R3 := mkHid r3
          have A3 := mkHid (A1.out.trans a3 (fun _ _ h => h))
          have O3 := mkHid (ownsRow_apart O1.out a3 (by intro k hk e; omega))
          have hB3 : B ≤ w3.heap.size := by have := a3.size; omega
          clear r3 a3 R1 A1 O1 hB1
          go_wp2_with (at_builtin; refine wpList_append_own2 _ rfl (.tmp 22) (.tmp 26) 23 rfl B 3 i0 (.int .i64 0) 1 8 Try.underlying23 hi0 hz0 hz1 hz2 rfl (by decide) (.slice va m vc) acc.length (IC acc) rfl (O3.out.alloc _) ⟨w3.heap.size, 0, none⟩ 1 1 [.int .i64 y] rfl rfl (cell_one_new _ _ _) (by intro u hu; simp at hu; subst hu; rfl) (by unfold maxLen; have := HAL.out; omega) (by have := HAL.out; omega) (by simp; omega) ?_; intro v4 w4 hown4 hgrow4 _; have OW4 := mkHid hown4; have GR4 := mkHid hgrow4; clear hown4 hgrow4)
          have A4 : Apart (fun j => (Value.slice va m vc).ownBlock = some j) w3 w4 := Apart.grown ((Apart.refl _ w3).alloc _) GR4.out (fun _ _ e => e)
          have LT : ∀ j, (Value.slice va m vc).ownBlock = some j → B ≤ j := fun j e => (O3.out.lt j e).1
          go_roundw
          case rel =>
            refine ⟨k + 1, p + dW x, acc ++ [y], v4, by omega, by go_num, rfl, by rw [List.length_append]; have := HAL.out; simp; omega, HRN.out, R3.out.kept A4 (fun e => by have := LT b e; omega), ?_, A3.out.trans A4 (fun i hi e => by have := LT i e; rw [HB.out] at hi; omega)⟩
            rw [List.length_append, IC_app]; exact OW4.out
          case measure => simp [intOf]; omega
    · obtain rfl : k = n := by omega
      have HRN := mkHid (show R = ⟨0, acc, p⟩ by have := HRR.out; rw [← HN.out, List.drop_length, dlD, List.append_nil] at this; exact this)
      go_wp2
      go_ret2
      rw [HRN.out]
      exact ⟨.inl ⟨rfl, va, vc, by rw [HM.out]; rfl, HRD.out, by rw [HB.out, HM.out]; have := HOW.out; rw [HM.out] at this; exact this⟩, HAP.out⟩
set_option maxRecDepth 100000 in
set_option maxHeartbeats 400000 in
theorem paderr_any (b : Nat) (s : ByteArray) (hs : s.size ≤ 1000000) (p : Nat) (w : World) (h : Rd 86 w b s (some p)) :
    Calls Try.prog 39 #[.pointer (some ⟨b, 0, none⟩)] w fun e w' => e = .returned (.int .i64 (padE s p)) ∧ Apart (· = b) w w' := by
  have hp := h.2
  have H := mkHid h
  obtain ⟨L, HL⟩ : ∃ L : Int, Hid (8 * (s.size : Int) - p = L) := ⟨_, rfl⟩
  have LF := mkHid (fun w h => left_at b s hs p w h L HL.out)
  by_cases h1 : 32 ≤ L
  · have HF := mkHid (show padE s p = 91 by unfold padE; rw [if_pos (.inl (by have := HL.out; omega))])
    rw [HF.out]
    clear h hp
    go_enter Try.func39, Try.ntmps39
    go_wp2_with fail
    refine (LF.out _ H.out).mono ?_
    rintro e w1 ⟨rfl, n1, rfl⟩
    go_wp2
    go_ret
    exact ⟨rfl, (Apart.refl _ _).drewN n1⟩
  · have hl0 : 0 ≤ L := by have := HL.out; omega
    obtain ⟨m, HM⟩ : ∃ m : Nat, Hid (8 * s.size - p = m) := ⟨_, rfl⟩
    have HML := mkHid (show L = m by have := HL.out; have := HM.out; omega)
    have G1 := mkHid (fun w h => get_fit b s hs p L m HML.out (by have := HML.out; omega) (by have := HM.out; omega) w h)
    obtain ⟨y, HY⟩ : ∃ y, Hid (gv s p m = y) := ⟨_, rfl⟩
    rw [HY.out] at G1
    have h1' : L < 32 := by omega
    by_cases h2 : y = 0
    · have HF := mkHid (show padE s p = 0 by unfold padE; rw [HM.out, HY.out, if_neg (by have := HML.out; omega)])
      rw [HF.out]
      subst h2
      clear h hp h1
      go_enter Try.func39, Try.ntmps39
      go_wp2_with fail
      refine (LF.out _ H.out).mono ?_
      rintro e w1 ⟨rfl, n1, rfl⟩
      have R1 := mkHid (drew_rd n1 H.out)
      have A1 := mkHid ((Apart.refl (· = b) w).drewN n1)
      obtain ⟨w1, HW1⟩ : ∃ w1, Hid (w.drewN n1 = w1) := ⟨_, rfl⟩
      rw [HW1.out] at R1 A1 ⊢
      go_wp2_with fail
      refine (LF.out _ R1.out).mono ?_
      rintro e w2 ⟨rfl, n2, rfl⟩
      have R2 := mkHid (drew_rd n2 R1.out)
      have A2 := mkHid (A1.out.drewN n2)
      obtain ⟨w2, HW2⟩ : ∃ w2, Hid (w1.drewN n2 = w2) := ⟨_, rfl⟩
      rw [HW2.out] at R2 A2 ⊢
      go_wp2_with fail
      refine (G1.out _ R2.out).mono ?_
      rintro e w3 ⟨rfl, r3, a3⟩
      have A3 := mkHid (A2.out.trans a3 (fun _ _ h => h))
      clear r3 a3
      go_wp2
      go_ret
      exact ⟨rfl, A3.out⟩
    · have HF := mkHid (show padE s p = 91 by unfold padE; rw [HM.out, HY.out, if_pos (.inr h2)])
      rw [HF.out]
      have h6 : ((y : Int) != 0) = true := by simp; omega
      clear h hp h1
      go_enter Try.func39, Try.ntmps39
      go_wp2_with fail
      refine (LF.out _ H.out).mono ?_
      rintro e w1 ⟨rfl, n1, rfl⟩
      have R1 := mkHid (drew_rd n1 H.out)
      have A1 := mkHid ((Apart.refl (· = b) w).drewN n1)
      obtain ⟨w1, HW1⟩ : ∃ w1, Hid (w.drewN n1 = w1) := ⟨_, rfl⟩
      rw [HW1.out] at R1 A1 ⊢
      go_wp2_with fail
      refine (LF.out _ R1.out).mono ?_
      rintro e w2 ⟨rfl, n2, rfl⟩
      have R2 := mkHid (drew_rd n2 R1.out)
      have A2 := mkHid (A1.out.drewN n2)
      obtain ⟨w2, HW2⟩ : ∃ w2, Hid (w1.drewN n2 = w2) := ⟨_, rfl⟩
      rw [HW2.out] at R2 A2 ⊢
      go_wp2_with fail
      refine (G1.out _ R2.out).mono ?_
      rintro e w3 ⟨rfl, r3, a3⟩
      have A3 := mkHid (A2.out.trans a3 (fun _ _ h => h))
      clear r3 a3
      go_wp2
      go_ret
      exact ⟨rfl, A3.out⟩
end Go.Proofs.Ytcbehpocnnkkeaa
