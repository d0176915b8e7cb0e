/-
  What the reference's Encode hands back.
-/
import Derived.Test.YtcbehpocnnkkeaaTwB
import Derived.Test.YtcbehpocnnkkeaaTwE
import Derived.Test.YtcbehpocnnkkeaaTwC
import Derived.Test.YtcbehpocnnkkeaaTwQ
import Derived.Test.YtcbehpocnnkkeaaBiZ
import Derived.Deep.RegionHeld3
namespace Go.Proofs.Ytcbehpocnnkkeaa
open Go.RowKit

theorem rput_fit (b : Nat) (v : Value) (l : List Bool) (x n : Int) (X m : Nat) (eX : x = X) (e : n = m) (x1 : X < 4294967296) (hm : m ≤ 32) (hl : l.length + m ≤ 524288) (w : World) (h : Wr 82 w b v l) :
    Calls Try.prog 25 #[.pointer (some ⟨b, 0, none⟩), .int .u32 x, .int .i64 n] w fun e w' => e = .returned (.tuple #[]) ∧ ∃ v', Wr 82 w' b v' (l ++ bitsOf X m) ∧ Tch b v v' w w' := by
  subst e eX
  exact rput_in b v l X m (by omega) (by omega) hm hl w h
/-- Where the reference's Encode stands: the box, the writer, what was there. -/
structure Rw (w w' : World) (bx wb : Nat) (o : Obj) (v : Value) (l : List Bool) : Prop where
  x : Bx o w' bx wb v
  r : Wr 82 w' wb v l
  a : Apart (fun _ => False) w w'
  z : w.heap.size ≤ bx
  lt : bx < wb
theorem Rw.next {w w' w'' : World} {bx wb : Nat} {o : Obj} {v v' : Value} {l l' : List Bool} (h : Rw w w' bx wb o v l) (r : Wr 82 w'' wb v' l') (t : Tch wb v v' w' w'') : Rw w w'' bx wb o v' l' :=
  ⟨h.x.next t, r, h.a.trans t.ap (fun i hi e => by
    have := h.z
    have := h.lt
    rcases e with e | e
    · omega
    · have := (h.r.ownlt _ e).1; omega), h.z, h.lt⟩
theorem Rw.ap {w w' w'' : World} {bx wb : Nat} {o : Obj} {v : Value} {l : List Bool} (h : Rw w w' bx wb o v l) (a : Apart (fun _ => False) w' w'') : Rw w w'' bx wb o v l :=
  h.next (h.r.kept a (fun h => h) (fun _ _ h => h)) ⟨a.mono (fun _ _ h => h.elim), fun _ h => .inl h⟩
set_option maxRecDepth 100000 in
set_option maxHeartbeats 400000 in
theorem ralike_any (B at_ c : Nat) (a : Option Addr) (l : List Int) (hat : at_ < l.length) (hl4 : l.length ≤ 4096) (w : World) (hB : B ≤ w.heap.size) (h : IA B w a c l) :
    Calls Try.prog 26 #[.slice a l.length c, .int .i64 (at_ : Int)] w fun e w' => e = .returned (.int .i64 (alk (l.drop at_) : Int)) ∧ Apart (fun _ => False) w w' := by
  have H := mkHid h
  obtain ⟨b, off, s0, rfl, _, hs, c0⟩ := h.at at_ hat
  have e0 : (l.drop at_).getD 0 0 = s0 := by rw [drop_at hs]; rfl
  unfold alk
  rw [e0]
  obtain ⟨n, HN⟩ : ∃ n, Hid (l.length = n) := ⟨_, rfl⟩
  obtain ⟨r, HR⟩ : ∃ r, Hid (cnt s0 (l.drop at_) = r) := ⟨_, rfl⟩
  rw [HN.out] at hat hl4 ⊢
  rw [HR.out]
  have n4 : (n : Int) ≤ 4096 := by omega
  have at0 : (0 : Int) ≤ at_ := by omega
  have at1 : (at_ : Int) < n := by omega
  have C0 := mkHid c0
  have HSO := mkHid hs
  clear h hs e0 c0
  go_enter Try.func26, Try.ntmps26
  go_wp2
  go_loopw [5] (fun i wr => ∃ k : Nat, at_ + k ≤ n ∧ i = .int .i64 (k : Int) ∧ r = k + cnt s0 (l.drop (at_ + k)) ∧ Apart (fun _ => False) w wr) (fun i _ => n - (intOf i).toNat)
  case atStart => exact ⟨0, by omega, rfl, by rw [Nat.add_zero, HR.out]; omega, Apart.refl _ _⟩
  case round =>
    obtain ⟨k, hk, rfl, hr, hap⟩ := hrel
    have HRR := mkHid hr
    have HAP := mkHid hap
    have d0 := (HAP.out.cell (p := ⟨b, off + at_, none⟩) (by have := World.block_lt_of_cell? w _ C0.out; exact this) (fun h => h)).trans C0.out
    clear hr hap
    have k0 : (0 : Int) ≤ k := by omega
    by_cases hlt : at_ + k < n
    · obtain ⟨b', off', x, e1, _, hx, c1⟩ := (H.out.kept (HAP.out.belowF B hB)).at (at_ + k) (by rw [HN.out]; exact hlt)
      simp only [Option.some.injEq, Addr.mk.injEq, and_true] at e1
      obtain ⟨rfl, rfl⟩ := e1
      have HX := mkHid (cnt_at (s := s0) hx)
      have hg : decide ((at_ : Int) + k < n) = true := decide_eq_true (by omega)
      have hg2 : (at_ : Int) + k < n := by omega
      clear hx
      by_cases h0 : x = s0
      · subst h0
        rw [if_pos rfl] at HX
        go_wp2_with fail
        go_quiet (fail)
        go_wp2
        go_roundw
        case rel => exact ⟨k + 1, by omega, by go_num, by have := HRR.out; rw [HX.out] at this; rw [show at_ + (k + 1) = at_ + k + 1 from rfl]; omega, HAP.out.drewN _⟩
        case measure => simp [intOf]; omega
      · rw [if_neg h0] at HX
        have h0' : (x == s0) = false := by simpa using h0
        go_wp2_with fail
        go_quiet (fail)
        go_wp2
        go_ret
        exact ⟨ret_i (by rw [HRR.out, HX.out]; rfl), HAP.out.drewN _⟩
    · have hg : decide ((at_ : Int) + k < n) = false := decide_eq_false (by omega)
      have HE := mkHid (show r = k by rw [HRR.out, List.drop_of_length_le (by rw [HN.out]; omega)]; rfl)
      go_wp2_with fail
      go_quiet (fail)
      go_wp2
      go_ret
      exact ⟨ret_i (by rw [HE.out]), HAP.out.drewN _⟩
set_option maxRecDepth 100000 in
set_option maxHeartbeats 1000000 in
theorem rrow_any (S k : Nat) (hS : S = 14 ∧ k = 1 ∨ S = 7 ∧ k = 2) (b : Nat) (v : Value) (L : List Bool) (a : Option Addr) (c : Nat) (l : List Int) (h2 : ∀ s ∈ l, 0 ≤ s ∧ s ≤ 2) (hl : L.length + 14 ≤ 524288) (w : World) (h : Wr 82 w b v L) (hi : IA b w a c l) :
    Calls Try.prog 27 #[.pointer (some ⟨b, 0, none⟩), .slice a l.length c, .int .i64 (S : Int), .int .i64 (k : Int)] w fun e w' => e = .returned (.tuple #[]) ∧ ∃ v', Wr 82 w' b v' (L ++ rowB k (l.take S) ++ bitsOf 0 (14 - k * min S l.length)) ∧ Tch b v v' w w' := by
  have H := mkHid h
  have HI := mkHid hi
  have HL := mkHid hl
  have H2 := mkHid h2
  have HS := mkHid hS
  have m1 := hi.len
  have HKS := mkHid (show k * S = 14 by rcases hS with ⟨rfl, rfl⟩ | ⟨rfl, rfl⟩ <;> rfl)
  have hk2 : k ≤ 2 := by omega
  obtain ⟨n, HN⟩ : ∃ n, Hid (l.length = n) := ⟨_, rfl⟩
  rw [HN.out] at m1 ⊢
  have hs14 : (S : Int) ≤ 14 := by omega
  clear h hi hl h2 hS
  go_enter Try.func27, Try.ntmps27
  go_wp2
  go_loopw [8] (fun i wr => ∃ (j : Nat) (vj : Value), j ≤ S ∧ i = .int .i64 (j : Int) ∧ Wr 82 wr b vj (L ++ rowB k (l.take j) ++ bitsOf 0 (k * (j - n))) ∧ Tch b v vj w wr ∧ IA b wr a c l) (fun i _ => S - (intOf i).toNat)
  case atStart => exact ⟨0, v, Nat.zero_le _, rfl, by simpa [rowB, bitsOf] using H.out, Tch.refl _ _ _, HI.out⟩
  case round =>
    obtain ⟨j, vj, hj, rfl, hw, ht, hij⟩ := hrel
    have HW := mkHid hw
    have HT := mkHid ht
    have HJ := mkHid hij
    clear hw ht hij H HI
    have j0 : (0 : Int) ≤ j := by omega
    by_cases hlt : j < S
    · have j1 : (j : Int) < S := by omega
      have HKJ := mkHid (show k * j + k ≤ 14 by rcases HS.out with ⟨rfl, rfl⟩ | ⟨rfl, rfl⟩ <;> omega)
      by_cases hjn : j < n
      · obtain ⟨bq, off, x, rfl, _, hx, c0⟩ := HJ.out.at j (by rw [HN.out]; omega)
        have HX := mkHid (rowB_take (k := k) hx)
        obtain ⟨x0, x1⟩ := H2.out x (List.mem_of_getElem? hx)
        have hjn' : (j : Int) < n := by omega
        have e1 : j - n = 0 := by omega
        have e2 : j + 1 - n = 0 := by omega
        have HE := mkHid (show (L ++ rowB k (l.take j) ++ bitsOf 0 (k * (j - n))).length = L.length + k * j by
          rw [e1, Nat.mul_zero]; simp [bitsOf]; congr 1; have := HN.out; omega)
        clear hx
        go_wp2_with fail
        refine (rput_fit b vj _ _ _ x.toNat k (by omega) rfl (by omega) (by omega) (by rw [HE.out]; have := HL.out; have := HKJ.out; omega) _ HW.out).mono ?_
        rintro e w1 ⟨rfl, v1, h1, t1⟩
        have R1 := mkHid h1
        have T1 := mkHid (HT.out.trans t1)
        have I1 := mkHid (HJ.out.kept (t1.below HW.out b (Nat.le_refl _)))
        clear h1 t1 c0 HJ HT HW
        go_wp2
        go_roundw
        case rel =>
          refine ⟨j + 1, v1, by omega, by go_num, ?_, T1.out, I1.out⟩
          have := R1.out
          rw [e1, Nat.mul_zero] at this
          rw [e2, Nat.mul_zero, HX.out]
          simpa [bitsOf] using this
        case measure => simp [intOf]; omega
      · have hjn' : (n : Int) ≤ j := by omega
        have HE := mkHid (show (L ++ rowB k (l.take j) ++ bitsOf 0 (k * (j - n))).length = L.length + k * j by
          have e : k * j = k * n + k * (j - n) := by rw [← Nat.mul_add]; congr 1; omega
          rw [List.length_append, List.length_append, rowB_len, bitsOf_len, List.length_take, HN.out, Nat.min_eq_right (by omega)]; omega)
        go_wp2_with fail
        refine (rput_fit b vj _ _ _ 0 k rfl rfl (by omega) (by omega) (by rw [HE.out]; have := HL.out; have := HKJ.out; omega) _ HW.out).mono ?_
        rintro e w1 ⟨rfl, v1, h1, t1⟩
        have R1 := mkHid h1
        have T1 := mkHid (HT.out.trans t1)
        have I1 := mkHid (HJ.out.kept (t1.below HW.out b (Nat.le_refl _)))
        clear h1 t1 HJ HT HW
        go_wp2
        go_roundw
        case rel =>
          refine ⟨j + 1, v1, by omega, by go_num, ?_, T1.out, I1.out⟩
          have := R1.out
          have e : k * (j + 1 - n) = k * (j - n) + k := by rw [show j + 1 - n = (j - n) + 1 by omega, Nat.mul_add, Nat.mul_one]
          have e3 : bitsOf 0 (k * (j - n) + k) = bitsOf 0 (k * (j - n)) ++ bitsOf 0 k := by rw [bitsOf_zero, bitsOf_zero, bitsOf_zero, List.replicate_append_replicate]
          rw [e, e3, List.take_of_length_le (by rw [HN.out]; omega)]
          rw [List.take_of_length_le (by rw [HN.out]; omega)] at this
          simp only [List.append_assoc] at this ⊢
          exact this
        case measure => simp [intOf]; omega
    · obtain rfl : j = S := by omega
      have HE := mkHid (show k * (j - n) = 14 - k * min j n by
        have e : k * j = k * min j n + k * (j - n) := by rw [← Nat.mul_add]; congr 1; omega
        rw [← HKS.out, e]; omega)
      go_wp2
      go_returns
      refine ⟨rfl, vj, ?_, HT.out⟩
      have := HW.out
      rw [HE.out] at this
      exact this
end Go.Proofs.Ytcbehpocnnkkeaa
