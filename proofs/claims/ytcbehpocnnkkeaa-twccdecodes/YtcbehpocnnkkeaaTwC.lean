/-
  What the reference's function that reads a chunk hands back.
-/
import Derived.Test.YtcbehpocnnkkeaaTwS
namespace Go.Proofs.Ytcbehpocnnkkeaa
open Go.RowKit

theorem gv_sub (s : ByteArray) (p a k c : Nat) : gv s p (a + k + c) / 2 ^ c % 2 ^ k = gv s (p + a) k := by
  have h1 := gv_add s p (a + k) c
  have h2 := gv_lt s (p + (a + k)) c
  have h3 := gv_add s p a k
  have h4 := gv_lt s (p + a) k
  have e1 : gv s p (a + k + c) / 2 ^ c = gv s p (a + k) := by
    rw [h1, Nat.mul_comm, Nat.mul_add_div (Nat.two_pow_pos _), Nat.div_eq_of_lt h2, Nat.add_zero]
  rw [e1, h3, Nat.mul_comm, Nat.mul_add_mod, Nat.mod_eq_of_lt h4]
theorem u32_and (x : Nat) (k : Nat) (hk : k ≤ 31) (m : Int) (hm : m = (2 ^ k : Nat) - 1) (hx : x < 4294967296) : bits .and .u32 (x : Int) m = ((x % 2 ^ k : Nat) : Int) := by
  subst hm
  have h2 : 2 ^ k ≤ 2 ^ 31 := Nat.pow_le_pow_right (by decide) hk
  have h1 : 1 ≤ 2 ^ k := Nat.one_le_two_pow
  have e : ((2 ^ k : Nat) : Int) - 1 = ((2 ^ k - 1 : Nat) : Int) := by omega
  rw [e]
  have hm : (BitVec.ofInt 32 ((2 ^ k - 1 : Nat) : Int)).toNat = 2 ^ k - 1 := by
    rw [BitVec.toNat_ofInt]; omega
  have hx' : (BitVec.ofInt 32 (x : Int)).toNat = x := by
    rw [BitVec.toNat_ofInt]; omega
  have key : (BitVec.ofInt 32 (x : Int) &&& BitVec.ofInt 32 ((2 ^ k - 1 : Nat) : Int)).toNat = x % 2 ^ k := by
    rw [BitVec.toNat_and, hm, hx', Nat.and_two_pow_sub_one_eq_mod]
  show IntKind.u32.wrap ((BitVec.ofInt 32 (x : Int) &&& BitVec.ofInt 32 ((2 ^ k - 1 : Nat) : Int)).toNat : Nat) = _
  rw [key, IntKind.wrap_u32]
  have : x % 2 ^ k < 2 ^ k := Nat.mod_lt _ (by omega)
  omega
theorem rsigned24_any (v : Nat) (h : v < 16777216) (w : World) : Calls Try.prog 42 #[.int .u32 (v : Int), .int .i64 24] w fun e w' => e = .returned (.int .i64 (sg v 24)) ∧ w' = w := by
  by_cases h1 : (8388608 : Int) ≤ v
  · have e1 : sg v 24 = (v : Int) - 16777216 := by unfold sg; simp only [Nat.reducePow, Nat.reduceSub]; rw [if_neg (by omega)]; rfl
    rw [e1]
    go_enter Try.func42, Try.ntmps42
    go_wp2
    go_ret
    exact ⟨rfl, rfl⟩
  · have e1 : sg v 24 = (v : Int) := by unfold sg; simp only [Nat.reducePow, Nat.reduceSub]; rw [if_pos (by omega)]
    rw [e1]
    go_enter Try.func42, Try.ntmps42
    go_wp2
    go_ret
    exact ⟨rfl, rfl⟩
theorem rsigned16_any (v : Nat) (h : v < 65536) (w : World) : Calls Try.prog 42 #[.int .u32 (v : Int), .int .i64 16] w fun e w' => e = .returned (.int .i64 (sg v 16)) ∧ w' = w := by
  by_cases h1 : (32768 : Int) ≤ v
  · have e1 : sg v 16 = (v : Int) - 65536 := by unfold sg; simp only [Nat.reducePow, Nat.reduceSub]; rw [if_neg (by omega)]; rfl
    rw [e1]
    go_enter Try.func42, Try.ntmps42
    go_wp2
    go_ret
    exact ⟨rfl, rfl⟩
  · have e1 : sg v 16 = (v : Int) := by unfold sg; simp only [Nat.reducePow, Nat.reduceSub]; rw [if_pos (by omega)]
    rw [e1]
    go_enter Try.func42, Try.ntmps42
    go_wp2
    go_ret
    exact ⟨rfl, rfl⟩
/-- What the reference's chunk leaves behind. -/
def RcPost (o : Option (List Int)) (w : World) (e : Ending) (w' : World) : Prop :=
  ((∃ (l : List Int) (a : Option Addr) (c : Nat), o = some l ∧ e = .returned (.tuple #[.slice a l.length c, .int .i64 0]) ∧ SrcN w' 1 (.slice a l.length c) l.length (IC l)) ∨ (o = none ∧ e = .returned (.tuple #[.slice none 0 0, .int .i64 100]))) ∧ Below w.heap.size w w'
theorem own_srcn {w : World} {B : Nat} {v : Value} {n : Nat} {l : List Int} (h : w.ownsRow B 3 1 v n (IC l)) : SrcN w 1 v n (IC l) := by
  rcases h.2 with ⟨rfl, rfl⟩ | ⟨g, cap, cur, rfl, _, hg, hn, hc, _, ht⟩
  · have hl : l.length = 0 := by have := h.1; simpa using this
    obtain rfl := List.eq_nil_of_length_eq_zero hl
    exact .inl ⟨0, rfl, rfl, rfl⟩
  · refine .inr ⟨⟨g, 0, none⟩, cap, rfl, h.1, fun j u hj => ?_⟩
    rw [addr0, cell_of_row w g j cur 3 _ hg]
    rw [← ht, List.getElem?_take] at hj
    split at hj
    · rw [← Array.getElem?_toList]; exact hj
    · cases hj
set_option maxRecDepth 100000 in
set_option maxHeartbeats 1000000 in
theorem rchunk_run (s : ByteArray) (p n : Nat) (hn : 0 < n) (hn4 : n ≤ 4096) (h0 : gv s p 1 = 0) (w : World) :
    Calls Try.prog 44 #[.int .u32 (gv s p 16 : Int), .int .i64 (n : Int)] w (RcPost (ckD s p n) w) := by
  obtain ⟨o, HO⟩ : ∃ o, Hid (ckD s p n = o) := ⟨_, rfl⟩
  rw [HO.out]
  obtain ⟨v, HV⟩ : ∃ v, Hid (gv s p 16 = v) := ⟨_, rfl⟩
  have hv := gv_lt s p 16
  have g0 := gv_sub s p 0 1 15
  have g1 := gv_sub s p 1 2 13
  have g2 := gv_sub s p 3 13 0
  simp only [Nat.zero_add, Nat.add_zero, Nat.reduceAdd, Nat.reducePow, Nat.div_one] at g0 g1 g2 hv
  rw [HV.out] at g0 g1 g2 hv ⊢
  obtain ⟨y, HY⟩ : ∃ y, Hid (gv s (p + 1) 2 = y) := ⟨_, rfl⟩
  obtain ⟨t, HT⟩ : ∃ t, Hid (gv s (p + 3) 13 = t) := ⟨_, rfl⟩
  rw [HY.out] at g1
  rw [HT.out] at g2
  rw [h0] at g0
  have hy : (y : Int) ≤ 3 := by omega
  have ht : (t : Int) ≤ 8191 := by omega
  have e0 : (v : Int) / 32768 = 0 := by omega
  have e1 : bits .and .u32 ((v : Int) / 8192) 3 = (y : Int) := by
    have : (v : Int) / 8192 = ((v / 8192 : Nat) : Int) := by omega
    rw [this, u32_and (v / 8192) 2 (by omega) 3 (by decide) (by omega)]
    simp only [Nat.reducePow]
    omega
  have e2 : bits .and .u32 (v : Int) 8191 = (t : Int) := by
    rw [u32_and v 13 (by omega) 8191 (by decide) (by omega)]
    simp only [Nat.reducePow]
    omega
  have HN := mkHid (show y = 3 ∨ t = 0 → o = none by intro h; rw [← HO.out]; unfold ckD runD; rw [h0, if_pos rfl, HY.out, show p + 1 + 2 = p + 3 from rfl, HT.out, if_pos h])
  have HSO := mkHid (show ¬ (y = 3 ∨ t = 0) → o = some (List.replicate (min t n) (y : Int)) by intro h; rw [← HO.out]; unfold ckD runD; rw [h0, if_pos rfl, HY.out, show p + 1 + 2 = p + 3 from rfl, HT.out, if_neg h])
  obtain ⟨i0, hi, hz0, hz1, hz2⟩ := info3'
  clear h0 g0 g1 g2
  by_cases h3 : y = 3
  · subst h3
    have HNN := mkHid (HN.out (.inl rfl))
    have e1' : bits .and .u32 ((v : Int) / 8192) 3 = 3 := e1
    clear e1
    go_enter Try.func44, Try.ntmps44
    go_wp2
    go_ret2
    exact ⟨.inr ⟨HNN.out, rfl⟩, Below.refl _ _⟩
  · have h3' : ((y : Int) == 3) = false := by simp; omega
    by_cases h4 : t = 0
    · subst h4
      have HNN := mkHid (HN.out (.inr rfl))
      have e2' : bits .and .u32 (v : Int) 8191 = 0 := e2
      clear e2
      go_enter Try.func44, Try.ntmps44
      go_wp2
      go_ret2
      exact ⟨.inr ⟨HNN.out, rfl⟩, Below.refl _ _⟩
    · have HSS := mkHid (HSO.out (by omega))
      have h4' : ((t : Int) == 0) = false := by simp; omega
      obtain ⟨m, HM⟩ : ∃ m, Hid (min t n = m) := ⟨_, rfl⟩
      rw [HM.out] at HSS
      have HMB := mkHid (show m ≤ t ∧ m ≤ n ∧ (m = t ∨ m = n) by have := HM.out; omega)
      have B0 := mkHid (Below.refl w.heap.size w)
      go_enter Try.func44, Try.ntmps44
      go_wp2
      go_loopw [6, 9] (fun x i wr => ∃ (k : Nat), k ≤ m ∧ i = .int .i64 (k : Int) ∧ wr.ownsRow w.heap.size 3 1 x k (IC (List.replicate k (y : Int))) ∧ Below w.heap.size w wr) (fun _ i _ => m - (intOf i).toNat)
      case atStart => exact ⟨0, Nat.zero_le _, rfl, World.ownsRow_nil _ _ _ _, Below.refl _ _⟩
      case round =>
        obtain ⟨k, hk, rfl, ho, hb⟩ := hrel
        obtain ⟨va, vc, rfl⟩ := ownsRow_slice ho
        have OW := mkHid ho
        have HB := mkHid hb
        have hzb := hb.size
        clear ho hb B0
        by_cases hlt : k < m
        · have k0 : (0 : Int) ≤ k := by omega
          have k1 : (k : Int) < t := by have := HMB.out; omega
          have k2 : (k : Int) < n := by have := HMB.out; omega
          go_wp2_with (at_builtin; refine wpList_append_own2 _ rfl (.tmp 40) (.tmp 42) 23 rfl w.heap.size 3 i0 (.int .i64 0) 1 8 Try.underlying23 hi hz0 hz1 hz2 rfl (by decide) (.slice va k vc) k (IC (List.replicate k (y : Int))) rfl (OW.out.alloc _) ⟨wr.heap.size, 0, none⟩ 1 1 [.int .i64 (y : Int)] rfl rfl (cell_one_new _ _ _) (by intro u hu; simp at hu; subst hu; rfl) (by unfold maxLen; omega) (by omega) (by simp; omega) ?_; intro v4 w4 hown4 hgrow4 _; have OW4 := mkHid hown4; have GR4 := mkHid hgrow4; clear hown4 hgrow4)
          go_roundw
          case rel =>
            refine ⟨k + 1, by omega, by go_num, ?_, ?_⟩
            · have e : IC (List.replicate (k + 1) (y : Int)) = IC (List.replicate k (y : Int)) ++ [.int .i64 (y : Int)] := by rw [List.replicate_succ', IC_app]; rfl
              rw [e]; exact OW4.out
            · exact ((HB.out.alloc hzb _).grown GR4.out (by simp; omega) (fun j e => (OW.out.lt j e).1))
          case measure => simp [intOf]; omega
        · obtain rfl : k = m := by omega
          have hstop : (t : Int) ≤ k ∨ (n : Int) ≤ k := by have := HMB.out; omega
          have SR := mkHid (own_srcn OW.out)
          by_cases hs1 : (k : Int) < t
          · have hs2 : (n : Int) ≤ k := by omega
            go_wp2
            go_ret2
            exact ⟨.inl ⟨_, va, vc, HSS.out, by rw [List.length_replicate]; rfl, by rw [List.length_replicate]; exact SR.out⟩, HB.out⟩
          · go_wp2
            go_ret2
            exact ⟨.inl ⟨_, va, vc, HSS.out, by rw [List.length_replicate]; rfl, by rw [List.length_replicate]; exact SR.out⟩, HB.out⟩
set_option maxRecDepth 100000 in
set_option maxHeartbeats 2000000 in
theorem rchunk_row (S k : Nat) (hS : S = 14 ∧ k = 1 ∨ S = 7 ∧ k = 2) (s : ByteArray) (p n : Nat) (hn : 0 < n) (hn4 : n ≤ 4096) (h0 : gv s p 1 = 1) (h1 : gv s (p + 1) 1 = k - 1) (w : World) :
    Calls Try.prog 44 #[.int .u32 (gv s p 16 : Int), .int .i64 (n : Int)] w (RcPost (rowD s (p + 2) k S n) w) := by
  obtain ⟨o, HO⟩ : ∃ o, Hid (rowD s (p + 2) k S n = o) := ⟨_, rfl⟩
  rw [HO.out]
  have HNO := mkHid (show ∀ j, j < S → (2 < gv s (p + 2 + k * j) k ∨ n ≤ j ∧ gv s (p + 2 + k * j) k ≠ 0) → o = none by
    intro j hj hb
    rw [← HO.out]; unfold rowD
    rw [if_neg]
    intro hr
    have := rowOk_iff.1 hr j hj
    omega)
  have HYS := mkHid (show (∀ j, j < S → gv s (p + 2 + k * j) k ≤ 2 ∧ (n ≤ j → gv s (p + 2 + k * j) k = 0)) → o = some ((rowV s (p + 2) k S).take n) by
    intro h
    rw [← HO.out]; unfold rowD
    rw [if_pos (rowOk_iff.2 h)])
  obtain ⟨v, HV⟩ : ∃ v, Hid (gv s p 16 = v) := ⟨_, rfl⟩
  have hv := gv_lt s p 16
  have g0 := gv_sub s p 0 1 15
  have g1 := gv_sub s p 1 1 14
  have HGJ := mkHid (fun j (hj : k * j + k ≤ 14) => gv_sub s p (2 + k * j) k (14 - (k * j + k)))
  simp only [Nat.zero_add, Nat.add_zero, Nat.reduceAdd, Nat.reducePow] at g0 g1 hv
  rw [HV.out] at g0 g1 hv ⊢
  rw [h0] at g0
  rw [h1] at g1
  have e0 : ((v : Int) / 32768 == 0) = false := by simp; omega
  have HSK := mkHid hS
  have HKS := mkHid (show ∀ j, j < S → k * j + k ≤ 14 by intro j hj; rcases hS with ⟨rfl, rfl⟩ | ⟨rfl, rfl⟩ <;> omega)
  have HVL := mkHid (show v < 4294967296 by omega)
  obtain ⟨i0, hi, hz0, hz1, hz2⟩ := info3'
  clear h0
  rcases hS with ⟨rfl, rfl⟩ | ⟨rfl, rfl⟩
  · have e3 : ((v : Int) / 16384 == 3) = false := by simp; omega
    clear g0 g1 h1
    go_enter Try.func44, Try.ntmps44
    go_wp2
    go_loopw [6, 12] (fun x i wr => ∃ (j : Nat), j ≤ 14 ∧ i = .int .i64 (j : Int) ∧ wr.ownsRow w.heap.size 3 1 x (min j n) (IC ((rowV s (p + 2) 1 14).take (min j n))) ∧ Below w.heap.size w wr ∧ (∀ q, q < j → gv s (p + 2 + 1 * q) 1 ≤ 2 ∧ (n ≤ q → gv s (p + 2 + 1 * q) 1 = 0))) (fun _ i _ => 14 - (intOf i).toNat)
    case atStart => exact ⟨0, Nat.zero_le _, rfl, by rw [Nat.zero_min]; exact World.ownsRow_nil _ _ _ _, Below.refl _ _, fun q hq => by omega⟩
    case round =>
      obtain ⟨j, hj, rfl, ho, hb, hall⟩ := hrel
      have HALL := mkHid hall
      obtain ⟨va, vc, rfl⟩ := ownsRow_slice ho
      have OW := mkHid ho
      have HB := mkHid hb
      have hzb := hb.size
      clear ho hb hall
      by_cases hlt : j < 14
      · have j0 : (0 : Int) ≤ j := by omega
        have j1 : (j : Int) < 14 := by omega
        have hkj := HKS.out j hlt
        have hgj := HGJ.out j hkj
        rw [show 2 + 1 * j + 1 + (14 - (1 * j + 1)) = 16 by omega, HV.out, ← Nat.add_assoc] at hgj
        obtain ⟨y, HY⟩ : ∃ y, Hid (gv s (p + 2 + 1 * j) 1 = y) := ⟨_, rfl⟩
        rw [HY.out] at hgj
        have hy : y ≤ 3 := by have := gv_lt s (p + 2 + 1 * j) 1; rw [HY.out] at this; simp at this; omega
        have ha : bits .and .u32 ((v : Int) / 2 ^ (13 - j)) 1 = (y : Int) := by
          have e : (v : Int) / 2 ^ (13 - j) = ((v / 2 ^ (14 - (1 * j + 1)) : Nat) : Int) := by
            rw [Int.natCast_ediv, Int.natCast_pow]; congr 2 <;> omega
          rw [e, u32_and _ 1 (by omega) 1 (by decide) (by have := Nat.div_le_self v (2 ^ (14 - (1 * j + 1))); have := HVL.out; omega), hgj]
        have hat : (rowV s (p + 2) 1 14)[j]? = some (y : Int) := by rw [rowV_at hlt, HY.out]
        have HAT := mkHid hat
        have HNX := mkHid (show y ≤ 2 → (n ≤ j → y = 0) → ∀ q, q < j + 1 → gv s (p + 2 + 1 * q) 1 ≤ 2 ∧ (n ≤ q → gv s (p + 2 + 1 * q) 1 = 0) by
          intro h1 h2 q hq
          by_cases e : q = j
          · subst e; rw [HY.out]; exact ⟨h1, h2⟩
          · exact HALL.out q (by omega))
        have HB3 := mkHid (show 2 < y ∨ n ≤ j ∧ y ≠ 0 → o = none by
          intro h; exact HNO.out j hlt (by rw [HY.out]; exact h))
        have hyi : (y : Int) ≤ 3 := by omega
        clear hgj hat hy
        by_cases y3 : y = 3
        · subst y3
          have HF := mkHid (HB3.out (.inl (by omega)))
          have ha' : bits .and .u32 ((v : Int) / 2 ^ (13 - j)) 1 = 3 := ha
          clear ha
          go_wp2
          go_ret2
          exact ⟨.inr ⟨HF.out, rfl⟩, HB.out⟩
        · have hy3 : ((y : Int) == 3) = false := by simp; omega
          by_cases hnj : n ≤ j
          · have hnj' : (n : Int) ≤ j := by omega
            have emin : min j n = n := by omega
            have emin2 : min (j + 1) n = n := by omega
            rw [emin] at OW
            by_cases y0 : y = 0
            · subst y0
              have ha' : bits .and .u32 ((v : Int) / 2 ^ (13 - j)) 1 = 0 := ha
              clear ha
              go_wp2
              go_roundw
              case rel => exact ⟨j + 1, by omega, by go_num, by rw [emin2, emin]; exact OW.out, HB.out, HNX.out (by omega) (fun _ => rfl)⟩
              case measure => simp [intOf]; omega
            · have HF := mkHid (HB3.out (.inr ⟨hnj, y0⟩))
              have hy0 : ((y : Int) != 0) = true := by simp; omega
              go_wp2
              go_ret2
              exact ⟨.inr ⟨HF.out, rfl⟩, HB.out⟩
          · have hnj' : (j : Int) < n := by omega
            have emin : min j n = j := by omega
            have emin2 : min (j + 1) n = j + 1 := by omega
            rw [emin] at OW
            clear hnj
            go_wp2_with (at_builtin; refine wpList_append_own2 _ rfl (.tmp 81) (.tmp 83) 23 rfl w.heap.size 3 i0 (.int .i64 0) 1 8 Try.underlying23 hi hz0 hz1 hz2 rfl (by decide) _ j (IC ((rowV s (p + 2) 1 14).take j)) rfl (OW.out.alloc _) ⟨wr.heap.size, 0, none⟩ 1 1 [.int .i64 (y : Int)] rfl rfl (cell_one_new _ _ _) (by intro u hu; simp at hu; subst hu; rfl) (by unfold maxLen; omega) (by omega) (by simp; omega) ?_; intro v4 w4 hown4 hgrow4 _; have OW4 := mkHid hown4; have GR4 := mkHid hgrow4; clear hown4 hgrow4)
            go_roundw
            case rel =>
              refine ⟨j + 1, by omega, by go_num, ?_, ?_, HNX.out (by omega) (fun h => by omega)⟩
              · have e : IC ((rowV s (p + 2) 1 14).take (j + 1)) = IC ((rowV s (p + 2) 1 14).take j) ++ [.int .i64 (y : Int)] := by rw [List.take_add_one, HAT.out, IC_app]; rfl
                rw [emin2, e]; exact OW4.out
              · exact ((HB.out.alloc hzb _).grown GR4.out (by simp; omega) (fun k e => (OW.out.lt k e).1))
            case measure => simp [intOf]; omega
      · obtain rfl : j = 14 := by omega
        have HOS := mkHid (HYS.out HALL.out)
        have emin : (rowV s (p + 2) 1 14).take (min 14 n) = (rowV s (p + 2) 1 14).take n := by
          by_cases h : n ≤ 14
          · rw [Nat.min_eq_right h]
          · rw [Nat.min_eq_left (by omega), List.take_of_length_le (by simp), List.take_of_length_le (by simp; omega)]
        rw [emin] at OW
        obtain ⟨m, HM⟩ : ∃ m, Hid (min 14 n = m) := ⟨_, rfl⟩
        have HLM := mkHid (show ((rowV s (p + 2) 1 14).take n).length = m by rw [List.length_take, rowV_len, ← HM.out]; omega)
        rw [HM.out] at OW ⊢
        have SR := mkHid (own_srcn OW.out)
        clear emin
        go_wp2
        go_ret2
        exact ⟨.inl ⟨_, va, vc, HOS.out, by rw [HLM.out]; rfl, by rw [HLM.out]; exact SR.out⟩, HB.out⟩
  · have e3 : (v : Int) / 16384 = 3 := by omega
    clear g0 g1 h1
    go_enter Try.func44, Try.ntmps44
    go_wp2
    go_loopw [6, 12] (fun x i wr => ∃ (j : Nat), j ≤ 7 ∧ i = .int .i64 (j : Int) ∧ wr.ownsRow w.heap.size 3 1 x (min j n) (IC ((rowV s (p + 2) 2 7).take (min j n))) ∧ Below w.heap.size w wr ∧ (∀ q, q < j → gv s (p + 2 + 2 * q) 2 ≤ 2 ∧ (n ≤ q → gv s (p + 2 + 2 * q) 2 = 0))) (fun _ i _ => 7 - (intOf i).toNat)
    case atStart => exact ⟨0, Nat.zero_le _, rfl, by rw [Nat.zero_min]; exact World.ownsRow_nil _ _ _ _, Below.refl _ _, fun q hq => by omega⟩
    case round =>
      obtain ⟨j, hj, rfl, ho, hb, hall⟩ := hrel
      have HALL := mkHid hall
      obtain ⟨va, vc, rfl⟩ := ownsRow_slice ho
      have OW := mkHid ho
      have HB := mkHid hb
      have hzb := hb.size
      clear ho hb hall
      by_cases hlt : j < 7
      · have j0 : (0 : Int) ≤ j := by omega
        have j1 : (j : Int) < 7 := by omega
        have hkj := HKS.out j hlt
        have hgj := HGJ.out j hkj
        rw [show 2 + 2 * j + 2 + (14 - (2 * j + 2)) = 16 by omega, HV.out, ← Nat.add_assoc] at hgj
        obtain ⟨y, HY⟩ : ∃ y, Hid (gv s (p + 2 + 2 * j) 2 = y) := ⟨_, rfl⟩
        rw [HY.out] at hgj
        have hy : y ≤ 3 := by have := gv_lt s (p + 2 + 2 * j) 2; rw [HY.out] at this; simp at this; omega
        have ha : bits .and .u32 ((v : Int) / 2 ^ (14 - 2 * (j + 1))) 3 = (y : Int) := by
          have e : (v : Int) / 2 ^ (14 - 2 * (j + 1)) = ((v / 2 ^ (14 - (2 * j + 2)) : Nat) : Int) := by
            rw [Int.natCast_ediv, Int.natCast_pow]; congr 2 <;> omega
          rw [e, u32_and _ 2 (by omega) 3 (by decide) (by have := Nat.div_le_self v (2 ^ (14 - (2 * j + 2))); have := HVL.out; omega), hgj]
        have hat : (rowV s (p + 2) 2 7)[j]? = some (y : Int) := by rw [rowV_at hlt, HY.out]
        have HAT := mkHid hat
        have HNX := mkHid (show y ≤ 2 → (n ≤ j → y = 0) → ∀ q, q < j + 1 → gv s (p + 2 + 2 * q) 2 ≤ 2 ∧ (n ≤ q → gv s (p + 2 + 2 * q) 2 = 0) by
          intro h1 h2 q hq
          by_cases e : q = j
          · subst e; rw [HY.out]; exact ⟨h1, h2⟩
          · exact HALL.out q (by omega))
        have HB3 := mkHid (show 2 < y ∨ n ≤ j ∧ y ≠ 0 → o = none by
          intro h; exact HNO.out j hlt (by rw [HY.out]; exact h))
        have hyi : (y : Int) ≤ 3 := by omega
        clear hgj hat hy
        by_cases y3 : y = 3
        · subst y3
          have HF := mkHid (HB3.out (.inl (by omega)))
          have ha' : bits .and .u32 ((v : Int) / 2 ^ (14 - 2 * (j + 1))) 3 = 3 := ha
          clear ha
          go_wp2
          go_ret2
          exact ⟨.inr ⟨HF.out, rfl⟩, HB.out⟩
        · have hy3 : ((y : Int) == 3) = false := by simp; omega
          by_cases hnj : n ≤ j
          · have hnj' : (n : Int) ≤ j := by omega
            have emin : min j n = n := by omega
            have emin2 : min (j + 1) n = n := by omega
            rw [emin] at OW
            by_cases y0 : y = 0
            · subst y0
              have ha' : bits .and .u32 ((v : Int) / 2 ^ (14 - 2 * (j + 1))) 3 = 0 := ha
              clear ha
              go_wp2
              go_roundw
              case rel => exact ⟨j + 1, by omega, by go_num, by rw [emin2, emin]; exact OW.out, HB.out, HNX.out (by omega) (fun _ => rfl)⟩
              case measure => simp [intOf]; omega
            · have HF := mkHid (HB3.out (.inr ⟨hnj, y0⟩))
              have hy0 : ((y : Int) != 0) = true := by simp; omega
              go_wp2
              go_ret2
              exact ⟨.inr ⟨HF.out, rfl⟩, HB.out⟩
          · have hnj' : (j : Int) < n := by omega
            have emin : min j n = j := by omega
            have emin2 : min (j + 1) n = j + 1 := by omega
            rw [emin] at OW
            clear hnj
            go_wp2_with (at_builtin; refine wpList_append_own2 _ rfl (.tmp 81) (.tmp 83) 23 rfl w.heap.size 3 i0 (.int .i64 0) 1 8 Try.underlying23 hi hz0 hz1 hz2 rfl (by decide) _ j (IC ((rowV s (p + 2) 2 7).take j)) rfl (OW.out.alloc _) ⟨wr.heap.size, 0, none⟩ 1 1 [.int .i64 (y : Int)] rfl rfl (cell_one_new _ _ _) (by intro u hu; simp at hu; subst hu; rfl) (by unfold maxLen; omega) (by omega) (by simp; omega) ?_; intro v4 w4 hown4 hgrow4 _; have OW4 := mkHid hown4; have GR4 := mkHid hgrow4; clear hown4 hgrow4)
            go_roundw
            case rel =>
              refine ⟨j + 1, by omega, by go_num, ?_, ?_, HNX.out (by omega) (fun h => by omega)⟩
              · have e : IC ((rowV s (p + 2) 2 7).take (j + 1)) = IC ((rowV s (p + 2) 2 7).take j) ++ [.int .i64 (y : Int)] := by rw [List.take_add_one, HAT.out, IC_app]; rfl
                rw [emin2, e]; exact OW4.out
              · exact ((HB.out.alloc hzb _).grown GR4.out (by simp; omega) (fun k e => (OW.out.lt k e).1))
            case measure => simp [intOf]; omega
      · obtain rfl : j = 7 := by omega
        have HOS := mkHid (HYS.out HALL.out)
        have emin : (rowV s (p + 2) 2 7).take (min 7 n) = (rowV s (p + 2) 2 7).take n := by
          by_cases h : n ≤ 7
          · rw [Nat.min_eq_right h]
          · rw [Nat.min_eq_left (by omega), List.take_of_length_le (by simp), List.take_of_length_le (by simp; omega)]
        rw [emin] at OW
        obtain ⟨m, HM⟩ : ∃ m, Hid (min 7 n = m) := ⟨_, rfl⟩
        have HLM := mkHid (show ((rowV s (p + 2) 2 7).take n).length = m by rw [List.length_take, rowV_len, ← HM.out]; omega)
        rw [HM.out] at OW ⊢
        have SR := mkHid (own_srcn OW.out)
        clear emin
        go_wp2
        go_ret2
        exact ⟨.inl ⟨_, va, vc, HOS.out, by rw [HLM.out]; rfl, by rw [HLM.out]; exact SR.out⟩, HB.out⟩
end Go.Proofs.Ytcbehpocnnkkeaa
