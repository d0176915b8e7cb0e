/-
  SatParts answers true for every two lists of int32: the sum of two lists is the sum of their sums where all fits, and a list that is turned round has the same sum. No condition.
-/
import Derived.Test.YtjahpfdpdkhedaaRows
import Derived.WalkKit
import Derived.ProofKit
import Derived.OpenShut
import Derived.ShutString
import Derived.ChangeOld
import Derived.Below
import Derived.Test.YtjahpfdpdkhedaaSrc
namespace Go.Proofs.Ytjahpfdpdkhedaa.satParts
open Go.ChangeShapes Go.WideShapes Go.ChangeAt Go.RowKit
open Go.ChangeMaps (open_string shut_string)
set_option linter.unusedVariables false

theorem own : ownKnob Try.prog.godebug = none := by kernel_rfl
theorem laidOut : laidOutB Try.prog = true := by kernel_rfl

/-- A slice of integers that came in: nil, or a row of cap cells that hold zs; the first len are its elements. -/
def IsRow (k : IntKind) (w : World) (a : Option Addr) (len cap : Nat) (zs : List Int) : Prop :=
  (a = none ∧ len = 0 ∧ cap = 0 ∧ zs = []) ∨
  ∃ x, a = some x ∧ len ≤ cap ∧ cap ≤ maxLen ∧ zs.length = cap ∧ (∀ i, i < zs.length → w.cell? (x.add i) = some (.int k (zs.getD i 0))) ∧ ∀ n ∈ zs, (Lit.int k n).wf = true

theorem info2 : (Try.prog.info? 2).map (fun i => (i.zero, i.size, i.bytes)) = some (some (.int .i64 0), 1, 8) := by kernel_rfl

theorem vone (zs : List Int) : ∀ u ∈ V64 zs, u.oneCell' = true := by
  intro u hu; unfold V64 at hu; obtain ⟨_, _, rfl⟩ := List.mem_map.1 hu; rfl
theorem V64_app (xs ys : List Int) : V64 (xs ++ ys) = V64 xs ++ V64 ys := by simp [V64]
theorem V64_len (xs : List Int) : (V64 xs).length = xs.length := by simp [V64]
/-- The first k numbers, each times 2^20. -/
def tw (zs : List Int) (k : Nat) : List Int := (zs.take k).map (· * 1048576)
theorem tw_len (zs : List Int) (k : Nat) (h : k ≤ zs.length) : (tw zs k).length = k := by simp [tw]; omega
theorem tw_succ (zs : List Int) (k : Nat) (h : k < zs.length) : V64 (tw zs (k + 1)) = V64 (tw zs k) ++ [.int .i64 (zs.getD k 0 * 1048576)] := by
  have e : tw zs (k + 1) = tw zs k ++ [zs.getD k 0 * 1048576] := by
    unfold tw
    rw [List.take_succ_eq_append_getElem h, List.map_append]
    simp [h]
  rw [e, V64_app]; rfl
/-- All but the first p, turned round. -/
def rv (al : List Int) (p : Nat) : List Int := (al.drop p).reverse
theorem rv_step (al : List Int) (q : Nat) (h : q < al.length) : V64 (rv al q) = V64 (rv al (q + 1)) ++ [.int .i64 (al.getD q 0)] := by
  have e : rv al q = rv al (q + 1) ++ [al.getD q 0] := by
    unfold rv
    rw [List.drop_eq_getElem_cons h, List.reverse_cons]
    simp [h]
  rw [e, V64_app]; rfl
theorem sum_rev (l : List Int) : l.reverse.sum = l.sum := by
  induction l with
  | nil => rfl
  | cons a l ih => rw [List.reverse_cons, List.sum_append, ih]; simp; omega
/-- Each number is within 2^51. -/
def B51 (zs : List Int) : Prop := ∀ z ∈ zs, -2251799813685248 ≤ z ∧ z ≤ 2251799813685248
theorem B51_sum (zs : List Int) (h : B51 zs) : -2251799813685248 * (zs.length : Int) ≤ zs.sum ∧ zs.sum ≤ 2251799813685248 * (zs.length : Int) := by
  induction zs with
  | nil => simp
  | cons a l ih =>
    have h1 := h a (by simp)
    have h2 := ih (fun z hz => h z (by simp [hz]))
    simp only [List.sum_cons, List.length_cons, Int.natCast_add, Int.cast_ofNat_Int]
    omega
theorem B51_64 {zs : List Int} (h : B51 zs) : I64s zs := fun z hz => by have := h z hz; omega
theorem tw_B51 (zs : List Int) (k : Nat) (h : ∀ z ∈ zs, -2147483648 ≤ z ∧ z ≤ 2147483647) : B51 (tw zs k) := by
  intro z hz
  unfold tw at hz
  obtain ⟨y, hy, rfl⟩ := List.mem_map.1 hz
  have := h y (List.mem_of_mem_take hy)
  show _ ≤ y * 1048576 ∧ y * 1048576 ≤ _
  omega
theorem parts_eq (xs ys : List Int) (hx : B51 xs) (hy : B51 ys) (lx : xs.length ≤ 1000) (ly : ys.length ≤ 1000) : satH (satH xs.sum + satH ys.sum) = satH (xs ++ ys).sum := by
  have h1 := B51_sum xs hx
  have h2 := B51_sum ys hy
  rw [satH_in xs.sum (by omega) (by omega), satH_in ys.sum (by omega) (by omega), List.sum_append]
/-- The growth of a row of the call's own keeps what was below. -/
theorem below_grow {B : Nat} {w wr w1 : World} {v : Value} {n : Nat} {xs : List Value} {o : Obj} (hb : Below B w wr) (hB : B ≤ wr.heap.size) (hown : wr.ownsRow B 2 1 v n xs) (hg : (wr.alloc o).grownBy w1 v.ownBlock) : Below B w w1 :=
  Below.grown (hb.alloc hB _) hg (by simp; omega) (fun k hk => (hown.lt k hk).1)
theorem below_grow0 {B : Nat} {w wr w1 : World} {v : Value} {n : Nat} {xs : List Value} (hb : Below B w wr) (hB : B ≤ wr.heap.size) (hown : wr.ownsRow B 2 1 v n xs) (hg : wr.grownBy w1 v.ownBlock) : Below B w w1 :=
  Below.grown hb hg hB (fun k hk => (hown.lt k hk).1)

/-- A slice value of int32: nil or empty, or at a plain address with its cells. -/
theorem row32 {w : World} {a : Option Addr} {len cap : Nat} {zs : List Int} (h : IsRow .i32 w a len cap zs) : len ≤ zs.length ∧ len ≤ maxLen ∧ (∀ z ∈ zs, -2147483648 ≤ z ∧ z ≤ 2147483647) ∧ ∃ b off, (len ≠ 0 → a = some ⟨b, off, none⟩) ∧ ∀ i, i < len → w.cell? ⟨b, off + i, none⟩ = some (.int .i32 (zs.getD i 0)) := by
  rcases h with ⟨rfl, rfl, rfl, rfl⟩ | ⟨x, rfl, hl, hm, hz, hc, hw⟩
  · exact ⟨by simp, by unfold maxLen; omega, by simp, 0, 0, by simp, by simp⟩
  · refine ⟨by omega, by omega, fun z hz => wf32 (hw z hz), ?_⟩
    by_cases h0 : len = 0
    · exact ⟨0, 0, fun h => (h h0).elim, fun i hi => by omega⟩
    · obtain ⟨b, off, spot⟩ := x
      have h1 := hc 0 (by omega)
      have hspot : spot = none := by simpa [Addr.add] using World.cell?_spot h1
      subst hspot
      refine ⟨b, off, fun _ => rfl, fun i hi => ?_⟩
      have h2 := hc i (by omega)
      rwa [Addr.add_lit] at h2
theorem bd32 {zs : List Int} (h : ∀ z ∈ zs, -2147483648 ≤ z ∧ z ≤ 2147483647) (i : Nat) : -2147483648 ≤ zs.getD i 0 ∧ zs.getD i 0 ≤ 2147483647 := by
  by_cases hi : i < zs.length
  · simpa [hi] using h zs[i] (List.getElem_mem hi)
  · simp [hi]

theorem own_shape {w : World} {base : Nat} {e : TypeId} {v : Value} {n : Nat} {xs : List Value} (h : w.ownsRow base e 1 v n xs) : ∃ a c, v = .slice a n c := by
  rcases h.2 with ⟨rfl, rfl⟩ | ⟨g, cap, cur, rfl, _⟩
  · exact ⟨_, _, rfl⟩
  · exact ⟨_, _, rfl⟩
theorem own_join {w : World} {base : Nat} {v : Value} {k m N : Nat} {X Y Z : List Int} (h : w.ownsRow base 2 1 v (0 + k + m) ([] ++ V64 X ++ V64 Y)) (hN : N = k + m) (hZ : Z = X ++ Y) : w.ownsRow base 2 1 v N (V64 Z) := by
  rw [hN, hZ, V64_app]; simpa using h
theorem src_at {w : World} {a : Option Addr} {n c : Nat} {zs : List Int} (h : SrcL w (.slice a n c) n (V64 zs)) (hn : n ≠ 0) : ∃ b off, a = some ⟨b, off, none⟩ ∧ ∀ i, i < n → w.cell? ⟨b, off + i, none⟩ = some (.int .i64 (zs.getD i 0)) := by
  obtain ⟨_, ⟨e, _⟩ | ⟨b, off, cap, e, _, hc⟩⟩ := src_cases h
  · exact (hn e).elim
  · injection e with e1 _ _
    exact ⟨b, off, e1, hc⟩
theorem rv_zero (al : List Int) : (rv al 0).sum = al.sum := by unfold rv; rw [List.drop_zero, sum_rev]
theorem rv_end (al : List Int) : V64 (rv al al.length) = [] := by simp [rv, V64]
theorem rv_B51 {al : List Int} (h : B51 al) (p : Nat) : B51 (rv al p) := fun z hz => h z (List.mem_of_mem_drop (List.mem_reverse.1 hz))
theorem B51_app {X Y : List Int} (hx : B51 X) (hy : B51 Y) : B51 (X ++ Y) := fun z hz => (List.mem_append.1 hz).elim (hx z) (hy z)

set_option maxHeartbeats 4000000 in
theorem walk_lists (a0 : Option Addr) (b0 off0 : Nat) (len0 cap0 : Nat) (z0 : List Int) (a1 : Option Addr) (b1 off1 : Nat) (len1 cap1 : Nat) (z1 : List Int) (w : World)
    (hl0 : len0 ≤ 1000) (hl1 : len1 ≤ 1000) (hz0 : len0 ≤ z0.length) (ha : len0 ≠ 0 → a0 = some ⟨b0, off0, none⟩) (hc0 : ∀ i, i < len0 → w.cell? ⟨b0, off0 + i, none⟩ = some (.int .i32 (z0.getD i 0))) (hb0 : ∀ z ∈ z0, -2147483648 ≤ z ∧ z ≤ 2147483647)
    (hz1 : len1 ≤ z1.length) (ha1 : len1 ≠ 0 → a1 = some ⟨b1, off1, none⟩) (hc1 : ∀ i, i < len1 → w.cell? ⟨b1, off1 + i, none⟩ = some (.int .i32 (z1.getD i 0))) (hb1 : ∀ z ∈ z1, -2147483648 ≤ z ∧ z ≤ 2147483647) :
    Calls Try.prog 8 #[.slice a0 len0 cap0, .slice a1 len1 cap1] w fun e w' => e = .returned (.bool true) ∧ Below w.heap.size w w' := by
  obtain ⟨i0, hi, hy0, hy1, hy2⟩ := info_parts info2
  have HA1 := mkHid ha1
  have HC1 := mkHid hc1
  have HB1 := mkHid hb1
  clear ha1 hc1 hb1
  go_enter Try.func8, Try.ntmps8
  go_wp2
  go_loopw [5, 9] (fun v i wr => ∃ k : Nat, k ≤ len0 ∧ i = .int .i64 k ∧ wr.ownsRow w.heap.size 2 1 v k (V64 (tw z0 k)) ∧ Below w.heap.size w wr) (fun _ i _ => len0 - (intOf i).toNat)
  case atStart => exact ⟨0, Nat.zero_le _, rfl, World.ownsRow_nil _ _ _ _, Below.refl _ _⟩
  case round =>
    obtain ⟨k, hk, rfl, hown, hbel⟩ := hrel
    by_cases hlt : k < len0
    · have ha' := ha (by omega)
      subst ha'
      have hcx : wr.cell? ⟨b0, off0 + k, none⟩ = some (.int .i32 (z0.getD k 0)) := (hbel.cell (p := ⟨b0, off0 + k, none⟩) (World.block_lt_of_cell? w _ (hc0 k hlt))).trans (hc0 k hlt)
      obtain ⟨q1, q2⟩ := bd32 hb0 k
      have HT := mkHid (tw_succ z0 k (by omega))
      have HO := mkHid hown
      have hsz := hbel.size
      clear hc0 hb0 ha hown
      generalize z0.getD k 0 = z at *
      go_wp2_with (at_builtin; refine wpList_append_own _ rfl (.tmp 27) (.tmp 34) 28 rfl w.heap.size 2 i0 (.int .i64 0) 1 8 Try.underlying28 hi hy0 hy1 hy2 rfl (by decide) u5 k (V64 (tw z0 k)) rfl (HO.out.alloc _) ⟨wr.heap.size, 0, none⟩ 1 1 [.int .i64 (z * 1048576)] rfl rfl (cell_one_new _ _ _) (by intro u hu; simp at hu; subst hu; rfl) (by unfold maxLen; omega) (by omega) (by simp; omega) ?_; intro v1 w1 hown1 hgrow1 hnil1)
      go_roundw
      case rel => exact ⟨k + 1, by omega, by go_num, by rw [HT.out]; exact hown1, below_grow hbel hsz HO.out hgrow1⟩
      case measure => simp [intOf]; omega
    · have hk' : k = len0 := by omega
      subst hk'
      have hsz := hbel.size
      have HX := mkHid (SrcL.ofOwn hown)
      clear hc0 ha hown
      obtain ⟨wx, hwx⟩ : ∃ wx, wx = wr := ⟨_, rfl⟩
      subst hwx
      go_wp2
      go_loopw [6, 10] (fun v i ws => ∃ m : Nat, m ≤ len1 ∧ i = .int .i64 m ∧ ws.ownsRow wx.heap.size 2 1 v m (V64 (tw z1 m)) ∧ Below wx.heap.size wx ws) (fun _ i _ => len1 - (intOf i).toNat)
      case atStart => exact ⟨0, Nat.zero_le _, rfl, World.ownsRow_nil _ _ _ _, Below.refl _ _⟩
      case round =>
        obtain ⟨m, hm, rfl, hown, hbel2⟩ := hrel
        by_cases hlt1 : m < len1
        · have ha' := HA1.out (by omega)
          subst ha'
          have hbw : Below w.heap.size w wr := hbel.trans (hbel2.mono hsz)
          have hcx : wr.cell? ⟨b1, off1 + m, none⟩ = some (.int .i32 (z1.getD m 0)) := (hbw.cell (p := ⟨b1, off1 + m, none⟩) (World.block_lt_of_cell? w _ (HC1.out m hlt1))).trans (HC1.out m hlt1)
          obtain ⟨q1, q2⟩ := bd32 HB1.out m
          have HT := mkHid (tw_succ z1 m (by omega))
          have HO := mkHid hown
          have hsz2 := hbel2.size
          clear hown
          generalize z1.getD m 0 = z at *
          go_wp2_with (at_builtin; refine wpList_append_own _ rfl (.tmp 42) (.tmp 49) 28 rfl wx.heap.size 2 i0 (.int .i64 0) 1 8 Try.underlying28 hi hy0 hy1 hy2 rfl (by decide) u6 m (V64 (tw z1 m)) rfl (HO.out.alloc _) ⟨wr.heap.size, 0, none⟩ 1 1 [.int .i64 (z * 1048576)] rfl rfl (cell_one_new _ _ _) (by intro u hu; simp at hu; subst hu; rfl) (by unfold maxLen; omega) (by omega) (by simp; omega) ?_; intro v1 w1 hown1 hgrow1 hnil1)
          go_roundw
          case rel => exact ⟨m + 1, by omega, by go_num, by rw [HT.out]; exact hown1, below_grow hbel2 hsz2 HO.out hgrow1⟩
          case measure => simp [intOf]; omega
        · have hm' : m = len1 := by omega
          subst hm'
          have hsz2 := hbel2.size
          have HY := mkHid (SrcL.ofOwn hown)
          have HX2 := mkHid (src_below HX.out hbel2)
          have hbw : Below w.heap.size w wr := hbel.trans (hbel2.mono hsz)
          have HBX := mkHid (tw_B51 z0 k hb0)
          have HBY := mkHid (tw_B51 z1 m HB1.out)
          have hlx := tw_len z0 k (by omega)
          have hly := tw_len z1 m (by omega)
          have HLX := mkHid hlx
          have HLY := mkHid hly
          clear hown HX hbel hbel2 HA1 HC1 HB1 hb0 hlx hly
          obtain ⟨wy, hwy⟩ : ∃ wy, wy = wr := ⟨_, rfl⟩
          subst hwy
          generalize tw z0 k = X at *
          generalize tw z1 m = Y at *
          obtain ⟨N, hN⟩ : ∃ N, N = k + m := ⟨_, rfl⟩
          have hN2 : N ≤ 2000 := by omega
          obtain ⟨Z, hZ⟩ : ∃ Z, Z = X ++ Y := ⟨_, rfl⟩
          have HLZ : Hid (Z.length = N) := by rw [hZ, hN]; show _ = _; rw [List.length_append, HLX.out, HLY.out]
          have HBZ := mkHid (B51_app HBX.out HBY.out)
          have HEQ := mkHid (parts_eq X Y HBX.out HBY.out (by rw [HLX.out]; omega) (by rw [HLY.out]; omega))
          rw [← hZ] at HBZ HEQ
          have HN := mkHid hN
          have HZ := mkHid hZ
          clear hN hZ
          go_wp2_with (first
            | (at_builtin; refine wpList_append_onto1 _ rfl (.tmp 51) (.tmp 52) 28 rfl wy.heap.size 2 i0 (.int .i64 0) 8 Try.underlying28 hi hy0 hy1 hy2 rfl (.slice none 0 0) 0 [] rfl (World.ownsRow_nil _ _ _ _) _ k (V64 X) rfl HX2.out (vone _) (by unfold maxLen; omega) (by omega) (Nat.le_refl _) ?_; intro v1 w1 hown1 hgrow1; have HO1 := mkHid hown1; have hb1 := below_grow0 (Below.refl wy.heap.size wy) (Nat.le_refl _) (World.ownsRow_nil _ _ _ _) hgrow1; have HY1 := mkHid (src_below HY.out hb1); clear hown1 hgrow1)
            | (at_builtin; refine wpList_append_onto1 _ rfl (.tmp 53) (.tmp 54) 28 rfl wy.heap.size 2 i0 (.int .i64 0) 8 Try.underlying28 hi hy0 hy1 hy2 rfl v1 (0 + k) ([] ++ V64 X) rfl HO1.out _ m (V64 Y) rfl HY1.out (vone _) (by unfold maxLen; omega) (by omega) hb1.size ?_; intro v2 w2 hown2 hgrow2; have HO2 := mkHid (own_join hown2 HN.out HZ.out); have hb2 := below_grow0 hb1 hb1.size HO1.out hgrow2; clear hown2 hgrow2; obtain ⟨av, cv, hv⟩ := own_shape HO2.out; subst hv))
          have HZ2 := mkHid (SrcL.ofOwn HO2.out)
          clear HO1 HY1 HO2
          go_loopw [8, 11] (fun v i ws => ∃ p : Nat, p ≤ N ∧ i = .int .i64 ((p : Int) - 1) ∧ ws.ownsRow w2.heap.size 2 1 v (N - p) (V64 (rv Z p)) ∧ Below w2.heap.size w2 ws) (fun _ i _ => (intOf i + 1).toNat)
          case atStart => exact ⟨N, Nat.le_refl _, rfl, by rw [Nat.sub_self, ← HLZ.out, rv_end]; exact World.ownsRow_nil _ _ _ _, Below.refl _ _⟩
          case round =>
            obtain ⟨p, hp, rfl, hown, hbel3⟩ := hrel
            by_cases hp0 : p = 0
            · subst hp0
              rw [show (((0 : Nat) : Int) - 1) = -1 from rfl]
              have HR := mkHid (SrcL.ofOwn hown)
              have HZ3 := mkHid (src_below HZ2.out hbel3)
              have hbq : Below wy.heap.size wy wr := hb2.trans (hbel3.mono hb2.size)
              have HX3 := mkHid (src_below HX2.out hbq)
              have HY3 := mkHid (src_below HY.out hbq)
              have hbz : Below w.heap.size w wr := hbw.trans (hbq.mono hbw.size)
              clear hown HZ2 hbel3 HX2 HY hbq hb2 hb1
              obtain ⟨sx1, sx2⟩ := satH_bd X.sum
              obtain ⟨sy1, sy2⟩ := satH_bd Y.sum
              go_wp2_with fail
              refine (sumL_src HZ3.out (B51_64 HBZ.out) (by unfold maxLen; omega)).mono ?_
              rintro e w5 ⟨rfl, hb5⟩
              go_wp2_with fail
              refine (carry hb5 (sumL_src (src_below HX3.out hb5) (B51_64 HBX.out) (by unfold maxLen; omega))).mono ?_
              rintro e w6 ⟨rfl, hb6⟩
              go_wp2_with fail
              refine (carry hb6 (sumL_src (src_below HY3.out hb6) (B51_64 HBY.out) (by unfold maxLen; omega))).mono ?_
              rintro e w7 ⟨rfl, hb7⟩
              go_wp2_with fail
              refine (carry hb7 (add_any _ _ sx1 sx2 sy1 sy2 _)).mono ?_
              rintro e w8 ⟨rfl, hb8⟩
              rw [HEQ.out]
              go_wp2_with fail
              refine (carry hb8 (sumL_src (src_below HR.out hb8) (B51_64 (rv_B51 HBZ.out 0)) (by unfold maxLen; omega))).mono ?_
              rintro e w9 ⟨rfl, hb9⟩
              rw [rv_zero]
              go_wp2_with fail
              refine (carry hb9 (sumL_src (src_below HZ3.out hb9) (B51_64 HBZ.out) (by unfold maxLen; omega))).mono ?_
              rintro e w10 ⟨rfl, hb10⟩
              go_wp2_with fail
              refine (carry hb10 (wakes_any _)).mono ?_
              rintro e w11 ⟨rfl, hb11⟩
              go_wp2
              go_ret
              exact ⟨rfl, hbz.trans (hb11.mono hbz.size)⟩
            · obtain ⟨q, rfl⟩ : ∃ q, p = q + 1 := ⟨p - 1, by omega⟩
              rw [show (((q + 1 : Nat) : Int) - 1) = (q : Int) from by omega]
              obtain ⟨bz, oz, hav, hcz⟩ := src_at HZ2.out (by omega)
              subst hav
              have hcx : wr.cell? ⟨bz, oz + q, none⟩ = some (.int .i64 (Z.getD q 0)) := (hbel3.cell (p := ⟨bz, oz + q, none⟩) (World.block_lt_of_cell? w2 _ (hcz q (by omega)))).trans (hcz q (by omega))
              have HT := mkHid (rv_step Z q (by rw [HLZ.out]; omega))
              have HO := mkHid hown
              have hsz3 := hbel3.size
              clear hown hcz
              generalize Z.getD q 0 = z at *
              go_wp2_with (at_builtin; refine wpList_append_own _ rfl (.tmp 63) (.tmp 68) 28 rfl w2.heap.size 2 i0 (.int .i64 0) 1 8 Try.underlying28 hi hy0 hy1 hy2 rfl (by decide) u8 (N - (q + 1)) (V64 (rv Z (q + 1))) rfl (HO.out.alloc _) ⟨wr.heap.size, 0, none⟩ 1 1 [.int .i64 z] rfl rfl (cell_one_new _ _ _) (by intro u hu; simp at hu; subst hu; rfl) (by unfold maxLen; omega) (by omega) (by simp; omega) ?_; intro v3 w3 hown3 hgrow3 hnil3)
              go_roundw
              case rel => exact ⟨q, by omega, by go_num, by rw [HT.out, show N - q = N - (q + 1) + 1 from by omega]; exact hown3, below_grow hbel3 hsz3 HO.out hgrow3⟩
              case measure => simp [intOf]

set_option maxHeartbeats 400000 in
theorem walk_long (a0 : Option Addr) (len0 cap0 : Nat) (a1 : Option Addr) (len1 cap1 : Nat) (w : World) (hm : len0 ≤ maxLen) (hm1 : len1 ≤ maxLen) (h : 1000 < len0 ∨ 1000 < len1) :
    Calls Try.prog 8 #[.slice a0 len0 cap0, .slice a1 len1 cap1] w fun e w' => e = .returned (.bool true) ∧ Below w.heap.size w w' := by
  unfold maxLen at hm hm1
  by_cases h0 : 1000 < len0
  · go_enter Try.func8, Try.ntmps8
    go_wp2_with (go_at_call 19; refine (wakes_any _).mono ?_; rintro e w1 ⟨rfl, hb⟩)
    go_ret
    exact ⟨rfl, hb⟩
  · have h1 : 1000 < len1 := by omega
    clear h
    go_enter Try.func8, Try.ntmps8
    go_wp2_with (go_at_call 19; refine (wakes_any _).mono ?_; rintro e w1 ⟨rfl, hb⟩)
    go_ret
    exact ⟨rfl, hb⟩

theorem walk (a0 : Option Addr) (len0 cap0 : Nat) (z0 : List Int) (a1 : Option Addr) (len1 cap1 : Nat) (z1 : List Int) (w : World) (w0 : IsRow .i32 w a0 len0 cap0 z0) (w1 : IsRow .i32 w a1 len1 cap1 z1) :
    Calls Try.prog 8 #[.slice a0 len0 cap0, .slice a1 len1 cap1] w fun e w' => e = .returned (.bool true) ∧ Below w.heap.size w w' := by
  obtain ⟨p1, p2, p3, b0, off0, p4, p5⟩ := row32 w0
  obtain ⟨q1, q2, q3, b1, off1, q4, q5⟩ := row32 w1
  by_cases h : 1000 < len0 ∨ 1000 < len1
  · exact walk_long a0 len0 cap0 a1 len1 cap1 w p2 q2 h
  · exact walk_lists a0 b0 off0 len0 cap0 z0 a1 b1 off1 len1 cap1 z1 w (by omega) (by omega) p1 p4 p5 p3 q1 q4 q5 q3

set_option maxRecDepth 100000 in
theorem lifted (os : Os) (started : os.Started) (H : Type) (enc : TypeId × Value → H) :
    ReturnsInHanded {} Try.checked os 8 .any (Rows.satPartsSpec.pre6 enc Try.prog Try.f8 Rows.satPartsRow.domain false) (Rows.satPartsSpec.post enc Try.prog Try.f8 false true false false) := by
  refine returnsInHanded_of_change (C := Try.checked) own started (by kernel_rfl) Try.func8
    (ChangeSpec.witness6 (enc := enc) (C := Try.checked) false ⟨#[], #[.slice none 0 0, .slice none 0 0], []⟩ 8 (by kernel_rfl) (by kernel_rfl) (by kernel_rfl) (by kernel_rfl)) ?_
  intro W base args ds gs before hval0 hW hcnd _
  have hval : ∀ (j : Nat) t v, Try.f8.params[j]? = some t → args[j]? = some v → Value.okWide Try.prog W .any base t v := hval0
  have hW' := hW
  obtain ⟨p, q, hA0, hV, rfl, hfz, hnd⟩ := hW
  have hA : DataW.TrodAll enc Try.prog W 0 (fun _ => true) true Try.f8.params.toList args.toList ds p := hA0
  rw [Try.params8] at hA hval
  obtain ⟨v0, vs0, d0, ds0, p0, q0, hargs, rfl, rfl, h0, r0⟩ := trodAll_cons hA
  obtain ⟨v1, vs1, d1, ds1, p1, q1, rfl, rfl, rfl, h1, r1⟩ := trodAll_cons r0
  obtain ⟨rfl, rfl, rfl⟩ := trodAll_nil r1
  obtain rfl : args = #[v0, v1] := by cases args; simp_all
  obtain ⟨rfl, rfl⟩ := trodVars_none hV
  obtain ⟨a0, len0, cap0, rfl⟩ := okWide_slice Try.underlying33 (hval 0 33 v0 rfl rfl)
  have k0 := h0
  have lt0 : ∀ x ∈ p0, x.block < W.heap.size := by obtain ⟨m, hm⟩ := k0; exact DataW.trod_lt m _ _ _ hm
  obtain ⟨z0, w0⟩ : ∃ zs, IsRow .i32 W a0 len0 cap0 zs := by
    obtain ⟨fuel, hf⟩ := h0
    rcases open_ints Try.underlying33 Try.underlying21 (by kernel_rfl) hf with ⟨hcs, _⟩ | ⟨x, l, c, zs, hcs, _, hl, hm, hz, _, hcell, hwz⟩
    · simp [Value.cells] at hcs
      obtain ⟨rfl, rfl, rfl⟩ := hcs
      exact ⟨[], .inl ⟨rfl, rfl, rfl, rfl⟩⟩
    · simp [Value.cells] at hcs
      obtain ⟨rfl, rfl, rfl⟩ := hcs
      exact ⟨zs, .inr ⟨_, rfl, hl, hm, by simpa using hz, hcell, hwz⟩⟩
  obtain ⟨a1, len1, cap1, rfl⟩ := okWide_slice Try.underlying33 (hval 1 33 v1 rfl rfl)
  have k1 := h1
  have lt1 : ∀ x ∈ p1, x.block < W.heap.size := by obtain ⟨m, hm⟩ := k1; exact DataW.trod_lt m _ _ _ hm
  obtain ⟨z1, w1⟩ : ∃ zs, IsRow .i32 W a1 len1 cap1 zs := by
    obtain ⟨fuel, hf⟩ := h1
    rcases open_ints Try.underlying33 Try.underlying21 (by kernel_rfl) hf with ⟨hcs, _⟩ | ⟨x, l, c, zs, hcs, _, hl, hm, hz, _, hcell, hwz⟩
    · simp [Value.cells] at hcs
      obtain ⟨rfl, rfl, rfl⟩ := hcs
      exact ⟨[], .inl ⟨rfl, rfl, rfl, rfl⟩⟩
    · simp [Value.cells] at hcs
      obtain ⟨rfl, rfl, rfl⟩ := hcs
      exact ⟨zs, .inr ⟨_, rfl, hl, hm, by simpa using hz, hcell, hwz⟩⟩
  clear hA0 hval0
  refine (walk a0 len0 cap0 z0 a1 len1 cap1 z1 W w0 w1).mono fun e W' ⟨he, bel⟩ => ?_
  subst he
  exact ⟨_, rfl, _, _, _, [], _, [], hW', trodAll_mk1 (shut_bool Try.underlying4 _), (trodAll_cons_mk (Below.trod laidOut (by kernel_rfl) (of_decide_eq_true (by kernel_rfl)) k0 bel lt0) (trodAll_cons_mk (Below.trod laidOut (by kernel_rfl) (of_decide_eq_true (by kernel_rfl)) k1 bel lt1) trodAll_mk0)), rfl, bel.frame _, fun h => by cases h⟩

theorem over : Rows.satPartsRow.holds Try.pinned (OpenSpec.ofChange Rows.satPartsSpec) :=
  OpenClaim.holds_of_wide 8 Try.f8 rfl rfl rfl rfl rfl rfl rfl ⟨rfl, rfl, rfl, rfl, rfl⟩ rfl rfl rfl rfl rfl (by kernel_rfl) Try.func8 (by kernel_rfl)
    (of_decide_eq_true (by kernel_rfl)) (by unfold Func.isWrapper; first | (rw [if_pos (by decide +kernel)]; kernel_rfl) | (rw [if_neg (by decide +kernel)]; exact ⟨rfl, rfl⟩))
    (fun os started H enc _ => lifted os started H enc)
end Go.Proofs.Ytjahpfdpdkhedaa.satParts
namespace Go.Proofs.Ytjahpfdpdkhedaa
/-- The statement. -/
theorem satParts_holds : Rows.SatPartsSaid := satParts.over
#print axioms satParts_holds
end Go.Proofs.Ytjahpfdpdkhedaa
