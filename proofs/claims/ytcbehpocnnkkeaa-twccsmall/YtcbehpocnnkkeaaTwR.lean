/-
  What slices.Repeat and the function that reads a run hand back.
-/
import Derived.Test.YtcbehpocnnkkeaaTwM
import Derived.Laws.CopyOwn
import Derived.Deep.OwnRows
import Derived.Deep.RegionHeld3
namespace Go.Proofs.Ytcbehpocnnkkeaa
open Go.RowKit

/-- Numbers as cells. -/
def IC (l : List Int) : List Value := l.map fun x => .int .i64 x
@[simp] theorem IC_len (l : List Int) : (IC l).length = l.length := by simp [IC]
theorem IC_app (l r : List Int) : IC (l ++ r) = IC l ++ IC r := by simp [IC]
theorem IC_one {l : List Int} : ∀ u ∈ IC l, u.oneCell' = true := by
  intro u hu
  obtain ⟨x, _, rfl⟩ := List.mem_map.1 hu
  rfl
theorem info3 : (Try.prog.info? 3).map (fun i => (i.zero, i.size, i.bytes)) = some (some (.int .i64 0), 1, 8) := by kernel_rfl
theorem size3 : (Try.prog.info? 3).map (·.size) = some 1 := by kernel_rfl
theorem u64_and32 (n : Int) : bits .and .u64 n 4294967295 = n % 4294967296 := by
  have hm : (BitVec.ofInt 64 4294967295).toNat = 2 ^ 32 - 1 := by decide
  have key : (BitVec.ofInt 64 n &&& BitVec.ofInt 64 4294967295).toNat = (n % ((2 ^ 64 : Nat) : Int)).toNat % 2 ^ 32 := by
    rw [BitVec.toNat_and, BitVec.toNat_ofInt, hm, Nat.and_two_pow_sub_one_eq_mod]
  show IntKind.u64.wrap ((BitVec.ofInt 64 n &&& BitVec.ofInt 64 4294967295).toNat : Nat) = n % 4294967296
  rw [key, IntKind.wrap_u64]
  omega
set_option maxHeartbeats 400000 in
theorem mul64_one (y : Int) (h0 : 0 ≤ y) (h1 : y ≤ 65535) (w : World) :
    Calls Try.prog 72 #[.int .u64 1, .int .u64 y] w fun e w' => e = .returned (.tuple #[.int .u64 0, .int .u64 y]) ∧ w' = w := by
  have a0 : bits .and .u64 (1 : Int) 4294967295 = 1 := by rw [u64_and32]; rfl
  have a1 : bits .and .u64 y 4294967295 = y := by rw [u64_and32]; omega
  have a2 : bits .and .u64 (0 : Int) 4294967295 = 0 := by rw [u64_and32]; rfl
  have d0 : y / 4294967296 = 0 := by omega
  have d1 : IntKind.u64.wrap y = y := by rw [IntKind.wrap_u64]; omega
  go_enter Try.func72, Try.ntmps72
  go_wp2
  go_ret2
  exact ⟨rfl, rfl⟩
theorem mul_one' (y : Int) (h0 : 0 ≤ y) (h1 : y ≤ 65535) (w : World) :
    Calls Try.prog 70 #[.int .u64 1, .int .u64 y] w fun e w' => e = .returned (.tuple #[.int .u64 0, .int .u64 y]) ∧ w' = w := by
  have M := mkHid (mul64_one y h0 h1)
  go_enter Try.func70, Try.ntmps70
  go_wp2_with fail
  refine (M.out _).mono ?_
  rintro e w1 ⟨rfl, rfl⟩
  go_wp2
  go_ret2
  exact ⟨rfl, rfl⟩
theorem splice_head (v : Value) (cur : List Value) : splice cur 0 [v] = List.replicate 1 v ++ cur.drop 1 := by
  simp [splice]
theorem splice_more (v : Value) (R : List Value) (k m : Nat) : splice (List.replicate k v ++ R) k (List.replicate m v) = List.replicate (k + m) v ++ R.drop m := by
  unfold splice
  rw [List.take_append_of_le_length (by simp), List.take_of_length_le (by simp), List.length_replicate, List.drop_append, List.drop_of_length_le (by simp), ← List.append_assoc, List.replicate_append_replicate]
  simp
/-- A row that is known whole. -/
def RW (w : World) (g : Nat) (l : List Value) : Prop := w.heap[g]? = some (.cells l.toArray 3 (0, 0))
theorem RW.at {w : World} {g : Nat} {l : List Value} (h : RW w g l) (j : Nat) (u : Value) (hj : l[j]? = some u) : w.cell? ⟨g, j, none⟩ = some u := by
  rw [cell_of_row w g j l.toArray 3 _ h]
  simpa using hj
set_option maxRecDepth 100000 in
set_option maxHeartbeats 1000000 in
theorem repeat_any (s : Int) (bs c : Nat) (h0 : 1 ≤ c) (h1 : c ≤ 8191) (w : World) (hb : bs < w.heap.size) (hc : w.cell? ⟨bs, 0, none⟩ = some (.int .i64 s)) :
    Calls Try.prog 69 #[.slice (some ⟨bs, 0, none⟩) 1 1, .int .i64 (c : Int)] w fun e w' => e = .returned (.slice (some ⟨w.heap.size, 0, none⟩) c c) ∧ RW w' w.heap.size (IC (List.replicate c s)) ∧ Below w.heap.size w w' := by
  have MU := mkHid (mul_one' (c : Int) (by omega) (by omega))
  have hmk := run_make_row' (P := Try.prog) 23 3 (.int .i64 0) 8 Try.underlying23 info3 rfl .i64 .i64 c (by omega) (by omega)
  obtain ⟨z, HZ⟩ : ∃ z : List Value, Hid (madeCells #[.int .i64 0] c = z.toArray) := ⟨(madeCells #[.int .i64 0] c).toList, by simp [Hid]⟩
  have HZL := mkHid (show z.length = c by have := congrArg Array.size HZ.out; simp [size_madeCells] at this; exact this.symm)
  rw [HZ.out] at hmk
  have G0 := mkHid (show RW (w.alloc (.cells z.toArray 3)) w.heap.size z from heap_alloc_new _ _)
  have B0 := mkHid ((Below.refl w.heap.size w).alloc (Nat.le_refl _) (.cells z.toArray 3))
  have C0 := mkHid (B0.out.cell (p := ⟨bs, 0, none⟩) hb)
  rw [hc] at C0
  obtain ⟨g, HG⟩ : ∃ g, Hid (w.heap.size = g) := ⟨_, rfl⟩
  rw [HG.out] at G0 B0 hb ⊢
  have c0 : (0 : Int) ≤ c := by omega
  have c1 : (c : Int) ≤ 8191 := by omega
  have c2 : (1 : Int) ≤ c := by omega
  have c3 : Nat.min 1 c = 1 := Nat.min_eq_left (by omega)
  go_enter Try.func69, Try.ntmps69
  go_wp2_with fail
  refine (MU.out _).mono ?_
  rintro e w1 ⟨rfl, rfl⟩
  go_wp2_with (refine wpList_copy_splice rfl (.tmp 31) (.tmp 32) 23 23 rfl 3 Try.underlying23 size3 (some ⟨w1.heap.size, 0, none⟩) (some ⟨bs, 0, none⟩) c c 1 1 rfl rfl g 0 z 3 G0.out [.int .i64 s] c3.symm (fun _ => ⟨by rw [HG.out], _, rfl, by intro j v hj; cases j with | zero => (simp at hj; subst hj; exact C0.out) | succ j => simp at hj⟩) (by rw [HZL.out]; simp; omega) (by intro v hv; simp at hv; subst hv; rfl) g w1 B0.out (Nat.le_refl _) ?_; intro w2 hg2 hb2; rw [splice_head] at hg2; have G2 := mkHid (show RW w2 g (List.replicate 1 (.int .i64 s) ++ z.drop 1) from hg2.out); have B2 := mkHid hb2; clear hg2 hb2)
  clear hc C0 B0 G0 hmk
  rw [HG.out]
  go_loopw [8] (fun i wr => ∃ (k : Nat) (R : List Value), 1 ≤ k ∧ k ≤ c ∧ i = .int .i64 (k : Int) ∧ R.length = c - k ∧ RW wr g (List.replicate k (.int .i64 s) ++ R) ∧ Below g w1 wr) (fun i _ => c - (intOf i).toNat)
  case atStart => exact ⟨1, z.drop 1, Nat.le_refl _, h0, rfl, by rw [List.length_drop, HZL.out], G2.out, B2.out⟩
  case round =>
    obtain ⟨k, R, k0, k1, rfl, hR, hG, hB⟩ := hrel
    have HR := mkHid hR
    have HGR := mkHid hG
    have HBR := mkHid hB
    clear hR hG hB G2 B2
    by_cases hlt : k < c
    · have k0' : (1 : Int) ≤ k := by omega
      have k1' : (k : Int) < c := by omega
      have kn : ¬ c = k := by omega
      obtain ⟨m, HM⟩ : ∃ m, Hid (min k (c - k) = m) := ⟨_, rfl⟩
      have HMB := mkHid (show 1 ≤ m ∧ m ≤ k ∧ k + m ≤ c by have := HM.out; omega)
      obtain ⟨cur, HCU⟩ : ∃ cur : List Value, Hid (List.replicate k (Value.int .i64 s) ++ R = cur) := ⟨_, rfl⟩
      obtain ⟨rs, HRS⟩ : ∃ rs : List Value, Hid (List.replicate m (Value.int .i64 s) = rs) := ⟨_, rfl⟩
      have HRL := mkHid (show rs.length = m by rw [← HRS.out, List.length_replicate])
      have HCL := mkHid (show cur.length = c by rw [← HCU.out]; have := HR.out; simp; omega)
      have HCC := mkHid (show ∀ j v, rs[j]? = some v → wr.drew.cell? ((⟨g, 0, none⟩ : Addr).add j) = some v by
        intro j v hj
        rw [← HRS.out] at hj
        have hjm := (List.getElem?_eq_some_iff.1 hj).1
        simp at hjm
        rw [List.getElem?_replicate, if_pos hjm] at hj
        obtain rfl := Option.some.inj hj
        have e : (⟨g, 0, none⟩ : Addr).add j = ⟨g, j, none⟩ := by simp [Addr.add, Nat.zero_add]; intro h; exact h.symm
        rw [e]
        exact HGR.out.at j _ (by rw [List.getElem?_append_left (by simp; have := HMB.out; omega), List.getElem?_replicate, if_pos (by have := HMB.out; omega)]))
      have HG1 := mkHid (show wr.drew.heap[g]? = some (.cells cur.toArray 3 (0, 0)) from by rw [← HCU.out]; exact HGR.out)
      have HON := mkHid (show ∀ v ∈ rs, v.oneCell' = true by intro v hv; rw [← HRS.out] at hv; obtain rfl := (List.mem_replicate.1 hv).2; rfl)
      have HBD := mkHid (show Below g w1 wr.drew from HBR.out.drew)
      go_wp2_with fail
      go_region_law (refine step_copy_splice (by rfl) (.tmp 41) (.tmp 44) 23 23 (by rfl) 3 Try.underlying23 size3 (some ⟨g, k, none⟩) (some ⟨g, 0, none⟩) (c - k) (c - k) k c (by kernel_rfl) (by kernel_rfl) g k cur 3 HG1.out rs (HRL.out.trans HM.out.symm) (fun _ => ⟨rfl, _, rfl, HCC.out⟩) (by rw [HRL.out, HCL.out]; have := HMB.out; omega) HON.out g w1 HBD.out (Nat.le_refl _) ?_; intro w4 hg4 hb4)
      have hrl : rs.length = m := HRL.out
      have hmb : (k : Int) + m ≤ c := by have := HMB.out; omega
      have hm0 : (1 : Int) ≤ m := by have := HMB.out; omega
      have G4 := mkHid (show RW w4 g (List.replicate (k + m) (.int .i64 s) ++ R.drop m) from by
        have := hg4.out
        rw [← HCU.out, ← HRS.out, splice_more] at this
        exact this)
      have B4 := mkHid hb4
      have hw : IntKind.i64.wrap ((k : Int) + (m : Int)) = (k : Int) + (m : Int) := by rw [IntKind.wrap_i64]; omega
      clear hg4 hb4
      go_simp
      go_roundw
      case rel => exact ⟨_, _, _, _, _, _, _, _, _, _, _, _, _, _, ⟨k + m, R.drop m, by omega, by omega, by go_num, by rw [List.length_drop, HR.out]; omega, G4.out, B4.out⟩, rfl⟩
      case measure => simp [intOf]; omega
    · obtain rfl : k = c := by omega
      obtain rfl := List.eq_nil_of_length_eq_zero (show R.length = 0 by rw [HR.out]; omega)
      go_wp2
      go_ret
      refine ⟨rfl, ?_, HBR.out⟩
      have := HGR.out
      rw [List.append_nil] at this
      unfold IC
      rw [List.map_replicate]
      exact this
end Go.Proofs.Ytcbehpocnnkkeaa
