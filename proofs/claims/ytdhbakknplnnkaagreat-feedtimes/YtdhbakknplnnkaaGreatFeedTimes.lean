/-
  FeedTimes: a report of the first kind tells when a packet came to a 1024th of a second, near its own time.
-/
import Derived.Test.YtdhbakknplnnkaaGreatRows
import Derived.WalkKit
import Derived.ProofKit
import Derived.OpenShut
import Derived.ShutString
import Derived.ChangeOld
import Derived.Below
import Derived.Deep.Slices
import Derived.Test.YtdhbakknplnnkaaGreatFdTs
import Derived.Test.YtdhbakknplnnkaaGreatArr
import Derived.BigQuiet
import Derived.Deep.DeepCutAuto
import Derived.Deep.RegionHeld3
namespace Go.Proofs.YtdhbakknplnnkaaGreat.feedTimes
open Go.ChangeShapes Go.WideShapes Go.ChangeAt Go.RowKit
open Go.ChangeMaps (open_string shut_string)
set_option linter.unusedVariables false

theorem own : ownKnob Tryz.prog.godebug = none := by kernel_rfl
theorem laidOut : laidOutB Tryz.prog = true := by kernel_rfl

open Go.Proofs.YtdhbakknplnnkaaGreat.Fd Go.Proofs.YtdhbakknplnnkaaGreat.Nk
theorem cells42 : Tryz.prog.cellsOf 42 = 1 := by kernel_rfl
theorem cells43 : Tryz.prog.cellsOf 43 = 2 := by kernel_rfl
set_option maxRecDepth 100000 in
theorem open1 {H : Type} {enc : TypeId × Value → H} {W : World} {r : Reach} {b0 : Nat} {v : Value} {d : DataW H} {p : List MemPlace} (hv : Value.okWide Tryz.prog W r b0 43 v)
    (h : DataW.Trod enc Tryz.prog W 0 (fun _ => true) true 43 v d p) : ∃ x y, v = .agg #[.int .u16 x, .int .u16 y] ∧ (0 ≤ x ∧ x ≤ 65535) ∧ 0 ≤ y ∧ y ≤ 65535 := by
  obtain ⟨zs, hl, rfl, _, _, hw⟩ := open_ints (n := 2) (k := .u16) Tryz.underlying43 Tryz.underlying42 cells42 cells43 hv h
  obtain ⟨x, y, rfl⟩ : ∃ x y, zs = [x, y] := by
    match zs, hl with
    | [x, y], _ => exact ⟨x, y, rfl⟩
  have h1 := bounds_u16 (hw x (by simp))
  have h2 := bounds_u16 (hw y (by simp))
  exact ⟨x, y, by simp, by omega, by omega⟩
theorem tm40 (n : Int) : -1099511627776 < n.tmod 1099511627776 ∧ n.tmod 1099511627776 < 1099511627776 := by
  have h1 := Int.tmod_lt_of_pos n (show (0 : Int) < 1099511627776 by omega)
  have h2 := Int.lt_tmod_of_pos n (show (0 : Int) < 1099511627776 by omega)
  omega
theorem ed3_0 (W : World) (q : Int) (g : Bool) (t : Int) (la ec : Bool) (o2 o3 : Obj) : Fd.Ed ((((W.alloc (.cells #[.int .i64 q, .bool g, .int .i64 t, .bool la, .bool ec] 58)).alloc o2).alloc o3).drew) W.heap.size ⟨q, g, t, la, ec⟩ := by
  have h : (W.alloc (.cells #[.int .i64 q, .bool g, .int .i64 t, .bool la, .bool ec] 58)).heap[W.heap.size]? = _ := heap_alloc_new W _
  exact (((Apart.refl (fun _ => False) _).alloc _).alloc _).heap h (fun h => h)
theorem ed3_1 (W : World) (q : Int) (g : Bool) (t : Int) (la ec : Bool) (o1 o3 : Obj) : Fd.Ed ((((W.alloc o1).alloc (.cells #[.int .i64 q, .bool g, .int .i64 t, .bool la, .bool ec] 58)).alloc o3).drew) (W.heap.size + 1) ⟨q, g, t, la, ec⟩ := by
  have h := heap_alloc_new (W.alloc o1) (.cells #[.int .i64 q, .bool g, .int .i64 t, .bool la, .bool ec] 58)
  rw [World.size_alloc] at h
  exact ((Apart.refl (fun _ => False) _).alloc _).heap h (fun h => h)
theorem ed3_2 (W : World) (q : Int) (g : Bool) (t : Int) (la ec : Bool) (o1 o2 : Obj) : Fd.Ed ((((W.alloc o1).alloc o2).alloc (.cells #[.int .i64 q, .bool g, .int .i64 t, .bool la, .bool ec] 58)).drew) (W.heap.size + 1 + 1) ⟨q, g, t, la, ec⟩ := by
  have h := heap_alloc_new ((W.alloc o1).alloc o2) (.cells #[.int .i64 q, .bool g, .int .i64 t, .bool la, .bool ec] 58)
  rw [World.size_alloc, World.size_alloc] at h
  exact h
set_option maxRecDepth 100000 in
set_option maxHeartbeats 8000000 in
theorem walk (a0 : Int) (x y : Int) (a2 : Int) (w : World) (w0 : (Lit.int .i64 a0).wf = true) (w1 : (0 ≤ x ∧ x ≤ 65535) ∧ 0 ≤ y ∧ y ≤ 65535) (w2 : (Lit.int .i32 a2).wf = true) : Calls Tryz.prog 5 #[.int .i64 a0, .agg #[.int .u16 x, .int .u16 y], .int .i32 a2] w fun e w' => e = .returned (.bool true) ∧ Below w.heap.size w w' := by
  obtain ⟨⟨x0, x1⟩, y0, y1⟩ := w1
  obtain ⟨z0, z1⟩ := bounds_i32 w2
  clear w2
  have K := tm40 a0
  obtain ⟨m, HM⟩ : ∃ m, Hid (a0.tmod 1099511627776 = m) := ⟨_, rfl⟩
  rw [HM.out] at K
  have N0 := mkHid (heap_alloc_new w (.cells #[.int .u16 x, .int .u16 y] 43))
  have B0 := mkHid (al_below w (.cells #[.int .u16 x, .int .u16 y] 43))
  obtain ⟨W, HW⟩ : ∃ W, Hid (w.alloc (.cells #[.int .u16 x, .int .u16 y] 43) = W) := ⟨_, rfl⟩
  rw [HW.out] at N0 B0
  obtain ⟨bn, HBN⟩ : ∃ b, Hid (w.heap.size = b) := ⟨_, rfl⟩
  rw [HBN.out] at N0
  obtain ⟨⟨n0, n1⟩, -⟩ := Fd.cells2 N0.out
  go_enter Tryz.func5, Tryz.ntmps5
  go_upto_region 1 with fail
  rw [HW.out, HBN.out]
  go_quiet (fail)
  go_upto_if 29 with fail
  have N1 := mkHid (show (W.drewN nq).heap[bn]? = some (.cells #[.int .u16 x, .int .u16 y] 43 (0, 0)) from N0.out)
  have B1 := mkHid (B0.out.trans (Below.mono (below_drewN (Below.refl _ W) nq) B0.out.size))
  obtain ⟨X, HX⟩ : ∃ V, Hid (W.drewN nq = V) := ⟨_, rfl⟩
  rw [HX.out] at N1 B1 ⊢
  clear n0 n1
  go_cut [9] (fun t wc => ∃ T : Int, t = .int .i64 T ∧ 0 ≤ T ∧ T < 1099511627776 ∧ wc = X)
  case first =>
    rw [HM.out]
    by_cases hm : m < 0
    · go_wp2
      go_meet
      case rel => exact ⟨-m, by go_num, by omega, by omega, rfl⟩
    · go_wp2
      go_meet
      case rel => exact ⟨m, by go_num, by omega, by omega, rfl⟩
  case rest =>
    obtain ⟨T0, rfl, t0, t1, rfl⟩ := hcut
    obtain ⟨T, HT⟩ : ∃ T, Hid (T0 + 1073741824 = T) := ⟨_, rfl⟩
    have u0 : 1073741824 ≤ T := by have := HT.out; omega
    have u1 : T < 1100585369600 := by have := HT.out; omega
    obtain ⟨k, HK⟩ : ∃ k, Hid (x % 8190 = k) := ⟨_, rfl⟩
    have k0 : 0 ≤ k := by have := HK.out; omega
    have k1 : k < 8190 := by have := HK.out; omega
    have ek : x.tmod 8190 = x % 8190 := Int.tmod_eq_emod_of_nonneg x0
    have SC := mkHid (stampT_any T (by omega) (by omega))
    obtain ⟨st, HST⟩ : ∃ st, Hid (T * 65536 / 1000000 % 4294967296 = st) := ⟨_, rfl⟩
    have s0 : 0 ≤ st := by have := HST.out; omega
    have s1 : st < 4294967296 := by have := HST.out; omega
    rw [HST.out] at SC
    have he := tm_enc y0 y1 k0 (by omega : k ≤ 8191)
    have HSZ := mkHid (tm_size (st := st) he)
    obtain ⟨nr, HNR⟩ : ∃ nr, Hid (T + a2.tdiv 2 = nr) := ⟨_, rfl⟩
    have hd : -1073741824 ≤ a2.tdiv 2 ∧ a2.tdiv 2 ≤ 1073741824 := by
      have h1 := Int.tmod_lt_of_pos a2 (show (0 : Int) < 2 by omega)
      have h2 := Int.lt_tmod_of_pos a2 (show (0 : Int) < 2 by omega)
      have h3 := Int.mul_tdiv_add_tmod a2 2
      omega
    have nr0 : 0 ≤ nr := by have := HNR.out; omega
    have nr1 : nr ≤ 1101659111424 := by have := HNR.out; omega
    have HRD := mkHid (tm_reads (q := y) (k := k) (st := st) (near := nr) y0 y1 k0 k1 s0 s1 nr0 (by omega))
    have HAG := mkHid (tm_again T nr nr0 (by omega) (by have := HNR.out; omega) (by have := HNR.out; omega))
    rw [HST.out] at HAG
    obtain ⟨g, HG⟩ : ∃ g, Hid (Un.frV st nr = g) := ⟨_, rfl⟩
    rw [HG.out] at HAG HRD
    obtain ⟨kk, HKK⟩ : ∃ g, Hid (k * 1000000 / 1024 = g) := ⟨_, rfl⟩
    rw [HKK.out] at HRD
    have hk0 : 0 ≤ kk := by have := HKK.out; omega
    have hk1 : kk ≤ 8000000 := by have := HKK.out; omega
    have hg0 := HAG.out.1
    have hg1 := HAG.out.2
    have ew : wrap64 (g - kk) = g - kk := by unfold wrap64; omega
    rw [ew] at HRD
    have EC := mkHid (fun (v : World) (b1 b2 : Nat) (h1 : v.heap[b1]? = some (.cells #[.bool true, .int .i64 0, .int .i64 k, .bool true, .int .i64 3, .int .i64 8191, .bool false, .int .i64 0, .int .i64 0] 45 (0, 0))) (h2 : v.heap[b2]? = some (.cells #[.int .u32 0, .int .i64 y, .slice (some ⟨b1, 0, none⟩) 3 3] 49 (0, 0))) => Cc.renc_any 0 st (some ⟨b2, 0, none⟩) 1 (tmL y k) v (tm_ba h1 h2) (by omega) (by omega) s0 s1)
    unfold Cc.rv at EC
    rw [he] at EC
    have HJE := mkHid (tm_join (c := 11) (by omega) (by omega) HSZ.out.1 HSZ.out.2)
    obtain ⟨S, HS⟩ : ∃ S, Hid (Cc.encS 0 (tmL y k) st = S) := ⟨_, rfl⟩
    rw [HS.out] at EC HRD HSZ HJE
    have JC := mkHid (fun (v : World) => Rc.rjoin_any (some ⟨v.heap.size, 0, none⟩) 1 [⟨11, 205, S⟩] (by simp) (Nat.le_trans (sz_one ⟨11, 205, S⟩ HSZ.out.1) (by decide)) _ (pa_one v S 11 205 (Nat.le_trans HSZ.out.1 (by unfold maxLen; omega))))
    rw [HJE.out] at JC
    have HTZ := mkHid (show (Rc.jS [⟨11, 205, S⟩]).size ≤ 1000000 from Nat.le_trans (Rc.rE_zero (Rc.back HJE.out).1).1 (by decide))
    obtain ⟨U, HU⟩ : ∃ V, Hid (Rc.jS [⟨11, 205, S⟩] = V) := ⟨_, rfl⟩
    rw [HU.out] at JC HRD HTZ
    have RC := mkHid (Fd.read_any U HTZ.out nr)
    unfold RdPost fv at RC
    rw [HRD.out.1, HRD.out.2] at RC
    clear he ew hd
    go_upto_region 7 with fail
    rw [HT.out, HK.out]
    go_wp2_with fail
    refine (SC.out _).mono ?_
    rintro e w1 ⟨rfl, hw1⟩
    have M1 := mkHid (show w1.heap[wc.heap.size]? = some (.cells #[.bool true, .int .i64 0, .int .i64 k, .bool true, .int .i64 3, .int .i64 8191, .bool false, .int .i64 0, .int .i64 0] 45 (0, 0)) by
      rw [hw1]; exact ((Apart.refl (fun _ => False) _).alloc _).heap (heap_alloc_new wc _) (fun h => h))
    have M2 := mkHid (show w1.heap[wc.heap.size + 1]? = some (.cells #[.int .u32 0, .int .i64 y, .slice (some ⟨wc.heap.size, 0, none⟩) 3 3] 49 (0, 0)) by
      rw [hw1]
      have := heap_alloc_new (wc.alloc (.cells #[.bool true, .int .i64 0, .int .i64 k, .bool true, .int .i64 3, .int .i64 8191, .bool false, .int .i64 0, .int .i64 0] 45)) (.cells #[.int .u32 0, .int .i64 y, .slice (some ⟨wc.heap.size, 0, none⟩) 3 3] 49)
      rw [World.size_alloc] at this
      exact this)
    have BW1 := mkHid (show Below w.heap.size w w1 by
      rw [hw1]; exact B1.out.trans ((((al_below wc _).alloc (by simp) _)).mono B1.out.size))
    clear hw1
    have AL := mkHid (al_below w1 (.cells #[.int .u32 0, .slice (some ⟨wc.heap.size + 1, 0, none⟩) 1 1, .int .u32 st] 53))
    have N2 := mkHid (heap_alloc_new w1 (.cells #[.int .u32 0, .slice (some ⟨wc.heap.size + 1, 0, none⟩) 1 1, .int .u32 st] 53))
    have M3 := mkHid ((below_apart AL.out).heap M1.out (fun h => h))
    have M4 := mkHid ((below_apart AL.out).heap M2.out (fun h => h))
    have BW2 := mkHid (BW1.out.trans (AL.out.mono BW1.out.size))
    obtain ⟨b1, HB1⟩ : ∃ b, Hid (wc.heap.size = b) := ⟨_, rfl⟩
    rw [HB1.out] at AL N2 M3 M4 BW2 M1 M2
    obtain ⟨b3, HB3⟩ : ∃ b, Hid (w1.heap.size = b) := ⟨_, rfl⟩
    obtain ⟨W2, HW2⟩ : ∃ V, Hid (w1.alloc (.cells #[.int .u32 0, .slice (some ⟨b1 + 1, 0, none⟩) 1 1, .int .u32 st] 53) = V) := ⟨_, rfl⟩
    rw [HW2.out] at N2 M3 M4 BW2
    rw [HB3.out] at N2
    have EC2 := mkHid (EC.out W2 b1 (b1 + 1) M3.out M4.out)
    obtain ⟨c0, c1, c2, -⟩ := cells3 N2.out
    go_upto_region 8 with fail
    rw [HB1.out, HW2.out, HB3.out]
    go_wp2_with fail
    refine (EC2.out).mono ?_
    rintro e w3 ⟨rfl, b3'⟩
    have BW3 := mkHid (BW2.out.trans (b3'.mono BW2.out.size))
    clear b3' c0 c1 c2 EC EC2 SC
    go_wp2_with fail
    refine (JC.out _).mono ?_
    rintro e w4 ⟨rfl, b4⟩
    have BW4 := mkHid ((BW3.out.trans ((al_below w3 _).mono BW3.out.size)).trans (b4.mono (Nat.le_trans BW3.out.size (al_below w3 _).size)))
    clear b4 JC
    have HE2 := HNR.out
    go_wp2_with fail
    refine (RC.out _).mono ?_
    rintro e w5 ⟨⟨ra, rc, ra', rc', rfl, rr, ri⟩, b5⟩
    obtain ⟨q1, HQ1⟩ : ∃ q, Hid ((y + 1) % 65536 = q) := ⟨_, rfl⟩
    obtain ⟨q2, HQ2⟩ : ∃ q, Hid ((y + 2) % 65536 = q) := ⟨_, rfl⟩
    obtain ⟨at0, HAT⟩ : ∃ q, Hid (g - kk = q) := ⟨_, rfl⟩
    rw [HQ1.out, HQ2.out, HAT.out] at rr ⊢
    have hat0 : at0 ≤ T - kk + 1 := by have := HAT.out; omega
    have hat1 : T - kk - at0 ≤ 17 := by have := HAT.out; omega
    obtain ⟨br, off, r0, ha, hbr, hr0, x0'⟩ := rr.at 0 (by simp)
    subst ha
    obtain ⟨br', off', r1, ha1, _, hr1, x1'⟩ := rr.at 1 (by simp)
    obtain ⟨br'', off'', r2, ha2, _, hr2, x2'⟩ := rr.at 2 (by simp)
    simp only [Option.some.injEq, Addr.mk.injEq, and_true] at ha1 ha2
    obtain ⟨rfl, rfl⟩ := ha1
    obtain ⟨rfl, rfl⟩ := ha2
    simp only [List.getElem?_cons_zero, List.getElem?_cons_succ, Option.some.injEq] at hr0 hr1 hr2
    subst hr0 hr1 hr2
    simp only [List.length_cons, List.length_nil, Nat.zero_add, Nat.reduceAdd]
    obtain ⟨mA, HMA⟩ : ∃ n, Hid ((fdA U nr).length = n) := ⟨_, rfl⟩
    rw [HMA.out]
    have AL5 := mkHid (al_below w5 (.cells #[.slice (some ⟨br, off, none⟩) 3 rc, .slice ra' mA rc'] 26))
    have E5 := mkHid (heap_alloc_new w5 (.cells #[.slice (some ⟨br, off, none⟩) 3 rc, .slice ra' mA rc'] 26))
    have X0 := mkHid (rcell_kept x0' AL5.out hbr)
    have X1 := mkHid (rcell_kept x1' AL5.out hbr)
    have X2 := mkHid (rcell_kept x2' AL5.out hbr)
    have K6 := mkHid (BW4.out.trans ((b5.trans (AL5.out.mono b5.size)).mono BW4.out.size))
    obtain ⟨bz, HBZ⟩ : ∃ b, Hid (w5.heap.size = b) := ⟨_, rfl⟩
    have hbz : br < bz := by rw [← HBZ.out]; exact hbr
    obtain ⟨W6, HW6⟩ : ∃ V, Hid (w5.alloc (.cells #[.slice (some ⟨br, off, none⟩) 3 rc, .slice ra' mA rc'] 26) = V) := ⟨_, rfl⟩
    have HZ6 := mkHid (show W6.heap.size = bz + 1 by rw [← HW6.out, ← HBZ.out]; simp)
    rw [HW6.out] at E5 X0 X1 X2 K6
    rw [HBZ.out] at E5
    obtain ⟨B6, HB6⟩ : ∃ b, Hid (W6.heap.size = b) := ⟨_, rfl⟩
    have hb6 : br < B6 ∧ bz < B6 := by have := HB6.out; have := HZ6.out; omega
    have HS := mkHid (fun (v : World) (hb : Below B6 W6 v) => (show v.cell? ⟨br, off, none⟩ = some (.int .i64 y) ∧ v.cell? ⟨br, off + 1, none⟩ = some (.bool true) ∧ v.cell? ⟨br, off + 2, none⟩ = some (.int .i64 at0) ∧ v.cell? ⟨br, off + 3, none⟩ = some (.bool false) ∧ v.cell? ⟨br, off + 4, none⟩ = some (.bool false) ∧ v.cell? ⟨br, off + 5, none⟩ = some (.int .i64 q1) ∧ v.cell? ⟨br, off + 5 + 1, none⟩ = some (.bool true) ∧ v.cell? ⟨br, off + 5 + 2, none⟩ = some (.int .i64 0) ∧ v.cell? ⟨br, off + 5 + 3, none⟩ = some (.bool true) ∧ v.cell? ⟨br, off + 5 + 4, none⟩ = some (.bool true) ∧ v.cell? ⟨br, off + 10, none⟩ = some (.int .i64 q2) ∧ v.cell? ⟨br, off + 10 + 1, none⟩ = some (.bool false) ∧ v.cell? ⟨br, off + 10 + 2, none⟩ = some (.int .i64 0) ∧ v.cell? ⟨br, off + 10 + 3, none⟩ = some (.bool false) ∧ v.cell? ⟨br, off + 10 + 4, none⟩ = some (.bool false) ∧ v.cell? ⟨bz, 0, none⟩ = some (.slice (some ⟨br, off, none⟩) 3 rc) ∧ Below B6 W6 v from by
      obtain ⟨a0', a1', a2', a3', a4'⟩ := rcell_kept X0.out hb hb6.1
      obtain ⟨b0', b1', b2', b3', b4'⟩ := rcell_kept X1.out hb hb6.1
      obtain ⟨c0', c1', c2', c3', c4'⟩ := rcell_kept X2.out hb hb6.1
      obtain ⟨⟨d0', d1'⟩, -⟩ := Fd.cells2 (heap_below hb E5.out hb6.2)
      simp only [Nat.zero_mul, Nat.one_mul, Nat.add_zero, Nat.reduceMul] at a0' a1' a2' a3' a4' b0' b1' b2' b3' b4' c0' c1' c2' c3' c4'
      exact ⟨a0', a1', a2', a3', a4', b0', b1', b2', b3', b4', c0', c1', c2', c3', c4', d0', hb⟩))
    have HNA := mkHid (fun (v : World) (o : Obj) (h : v.cell? ⟨br, off, none⟩ = some (.int .i64 y) ∧ v.cell? ⟨br, off + 1, none⟩ = some (.bool true) ∧ v.cell? ⟨br, off + 2, none⟩ = some (.int .i64 at0) ∧ v.cell? ⟨br, off + 3, none⟩ = some (.bool false) ∧ v.cell? ⟨br, off + 4, none⟩ = some (.bool false) ∧ v.cell? ⟨br, off + 5, none⟩ = some (.int .i64 q1) ∧ v.cell? ⟨br, off + 5 + 1, none⟩ = some (.bool true) ∧ v.cell? ⟨br, off + 5 + 2, none⟩ = some (.int .i64 0) ∧ v.cell? ⟨br, off + 5 + 3, none⟩ = some (.bool true) ∧ v.cell? ⟨br, off + 5 + 4, none⟩ = some (.bool true) ∧ v.cell? ⟨br, off + 10, none⟩ = some (.int .i64 q2) ∧ v.cell? ⟨br, off + 10 + 1, none⟩ = some (.bool false) ∧ v.cell? ⟨br, off + 10 + 2, none⟩ = some (.int .i64 0) ∧ v.cell? ⟨br, off + 10 + 3, none⟩ = some (.bool false) ∧ v.cell? ⟨br, off + 10 + 4, none⟩ = some (.bool false) ∧ v.cell? ⟨bz, 0, none⟩ = some (.slice (some ⟨br, off, none⟩) 3 rc) ∧ Below B6 W6 v) => HS.out (v.alloc o) (h.2.2.2.2.2.2.2.2.2.2.2.2.2.2.2.2.alloc (by have := h.2.2.2.2.2.2.2.2.2.2.2.2.2.2.2.2.size; rw [HB6.out] at this; exact this) o))
    have HNS := mkHid (fun (v : World) (p : Addr) (u : Value) (hp : B6 ≤ p.block) (h : v.cell? ⟨br, off, none⟩ = some (.int .i64 y) ∧ v.cell? ⟨br, off + 1, none⟩ = some (.bool true) ∧ v.cell? ⟨br, off + 2, none⟩ = some (.int .i64 at0) ∧ v.cell? ⟨br, off + 3, none⟩ = some (.bool false) ∧ v.cell? ⟨br, off + 4, none⟩ = some (.bool false) ∧ v.cell? ⟨br, off + 5, none⟩ = some (.int .i64 q1) ∧ v.cell? ⟨br, off + 5 + 1, none⟩ = some (.bool true) ∧ v.cell? ⟨br, off + 5 + 2, none⟩ = some (.int .i64 0) ∧ v.cell? ⟨br, off + 5 + 3, none⟩ = some (.bool true) ∧ v.cell? ⟨br, off + 5 + 4, none⟩ = some (.bool true) ∧ v.cell? ⟨br, off + 10, none⟩ = some (.int .i64 q2) ∧ v.cell? ⟨br, off + 10 + 1, none⟩ = some (.bool false) ∧ v.cell? ⟨br, off + 10 + 2, none⟩ = some (.int .i64 0) ∧ v.cell? ⟨br, off + 10 + 3, none⟩ = some (.bool false) ∧ v.cell? ⟨br, off + 10 + 4, none⟩ = some (.bool false) ∧ v.cell? ⟨bz, 0, none⟩ = some (.slice (some ⟨br, off, none⟩) 3 rc) ∧ Below B6 W6 v) => HS.out (v.setCell p u) (h.2.2.2.2.2.2.2.2.2.2.2.2.2.2.2.2.setCell (p := p) hp u))
    have HN3 := mkHid (fun (o1 o2 o3 : Obj) => HS.out ((((W6.alloc o1).alloc o2).alloc o3).drew) (((((Below.refl B6 W6).alloc (by rw [HB6.out]; exact Nat.le_refl _) o1).alloc (by simp; have := HB6.out; omega) o2).alloc (by simp; have := HB6.out; omega) o3).drew))
    clear rr ri b5 x0' x1' x2'
    obtain ⟨a0', a1', a2', a3', a4', b0', b1', b2', b3', b4', c0', c1', c2', c3', c4', d0', -⟩ := HS.out W6 (Below.refl _ _)
    go_upto_region 13 with fail
    rw [HW6.out, HBZ.out]
    go_cut [18, 19, 20] (fun a b c wc => ∃ e0 e1 e2 : Nat, a = .pointer (some ⟨e0, 0, none⟩) ∧ b = .pointer (some ⟨e1, 0, none⟩) ∧ c = .pointer (some ⟨e2, 0, none⟩) ∧ Fd.Ed wc e0 ⟨y, true, at0, false, false⟩ ∧ Fd.Ed wc e1 ⟨q1, true, 0, true, true⟩ ∧ Fd.Ed wc e2 ⟨q2, false, 0, false, false⟩ ∧ Below B6 W6 wc)
    case first =>
        clear a0' a1' a2' a3' a4' b0' b1' b2' b3' b4' c0' c1' c2' c3' c4' d0'
        go_region_held3 (fun w' => w'.cell? ⟨br, off, none⟩ = some (.int .i64 y) ∧ w'.cell? ⟨br, off + 1, none⟩ = some (.bool true) ∧ w'.cell? ⟨br, off + 2, none⟩ = some (.int .i64 at0) ∧ w'.cell? ⟨br, off + 3, none⟩ = some (.bool false) ∧ w'.cell? ⟨br, off + 4, none⟩ = some (.bool false) ∧ w'.cell? ⟨br, off + 5, none⟩ = some (.int .i64 q1) ∧ w'.cell? ⟨br, off + 5 + 1, none⟩ = some (.bool true) ∧ w'.cell? ⟨br, off + 5 + 2, none⟩ = some (.int .i64 0) ∧ w'.cell? ⟨br, off + 5 + 3, none⟩ = some (.bool true) ∧ w'.cell? ⟨br, off + 5 + 4, none⟩ = some (.bool true) ∧ w'.cell? ⟨br, off + 10, none⟩ = some (.int .i64 q2) ∧ w'.cell? ⟨br, off + 10 + 1, none⟩ = some (.bool false) ∧ w'.cell? ⟨br, off + 10 + 2, none⟩ = some (.int .i64 0) ∧ w'.cell? ⟨br, off + 10 + 3, none⟩ = some (.bool false) ∧ w'.cell? ⟨br, off + 10 + 4, none⟩ = some (.bool false) ∧ w'.cell? ⟨bz, 0, none⟩ = some (.slice (some ⟨br, off, none⟩) 3 rc) ∧ Below B6 W6 w')
          (first | exact HS.out _ (Below.refl _ _) | exact HS.out _ ((Below.refl _ _).drew) | exact HNA.out _ _ (by assumption) | exact HN3.out _ _ _ | exact HNS.out _ _ _ (by simp; omega) (by assumption))
          (fail)
        all_goals
          go_wp2_with fail
          go_meet
          case rel => exact ⟨_, _, _, rfl, rfl, rfl, by first | exact ed3_0 .. | exact ed3_1 .. | exact ed3_2 .., by first | exact ed3_0 .. | exact ed3_1 .. | exact ed3_2 .., by first | exact ed3_0 .. | exact ed3_1 .. | exact ed3_2 .., (HN3.out _ _ _).2.2.2.2.2.2.2.2.2.2.2.2.2.2.2.2⟩
    case rest =>
      obtain ⟨e0, e1, e2, rfl, rfl, rfl, E0, E1, E2, BX⟩ := hcut
      obtain ⟨c00, c01, c02, c03, c04⟩ := E0.c
      obtain ⟨c10, c11, c12, c13, c14⟩ := E1.c
      obtain ⟨c20, c21, c22, c23, c24⟩ := E2.c
      have BWC := mkHid (K6.out.trans (BX.mono (by rw [← HB6.out]; exact K6.out.size)))
      clear BX
      have hkk : (k * 1000000).tdiv 1024 = kk := by rw [Int.tdiv_eq_ediv_of_nonneg (by omega)]; exact HKK.out
      have hat2 : wrap64 (T - kk - at0) = T - kk - at0 := by have := HAT.out; unfold wrap64; omega
      have hq : wrap64 (IntKind.u16.wrap (y + 2)) = q2 := by
        have := HQ2.out
        rw [IntKind.wrap_u16]; unfold wrap64; omega
      go_wp2_with fail
      refine (Fd.wakes_any _).mono ?_
      rintro e w9 ⟨rfl, p9⟩
      go_wp2
      go_ret
      exact ⟨rfl, BWC.out.trans (p9.mono BWC.out.size)⟩

set_option maxRecDepth 100000 in
theorem lifted (os : Os) (started : os.Started) (H : Type) (enc : TypeId × Value → H) :
    ReturnsInHanded {} Tryz.checked os 5 .any (Rows.feedTimesSpec.pre6 enc Tryz.prog Tryz.f5 Rows.feedTimesRow.domain false) (Rows.feedTimesSpec.post enc Tryz.prog Tryz.f5 false true false false) := by
  refine returnsInHanded_of_change (C := Tryz.checked) own started (by kernel_rfl) Tryz.func5
    (ChangeSpec.witness6 (enc := enc) (C := Tryz.checked) false ⟨#[], #[.int .i64 0, .agg #[.int .u16 0, .int .u16 0], .int .i32 0], []⟩ 8 (by kernel_rfl) (by kernel_rfl) (by kernel_rfl) (by kernel_rfl)) ?_
  intro W base args ds gs before hval0 hW hcnd _
  have hval : ∀ (j : Nat) t v, Tryz.f5.params[j]? = some t → args[j]? = some v → Value.okWide Tryz.prog W .any base t v := hval0
  have hW' := hW
  obtain ⟨p, q, hA0, hV, rfl, hfz, hnd⟩ := hW
  have hA : DataW.TrodAll enc Tryz.prog W 0 (fun _ => true) true Tryz.f5.params.toList args.toList ds p := hA0
  rw [Tryz.params5] at hA hval
  obtain ⟨v0, vs0, d0, ds0, p0, q0, hargs, rfl, rfl, h0, r0⟩ := trodAll_cons hA
  obtain ⟨v1, vs1, d1, ds1, p1, q1, rfl, rfl, rfl, h1, r1⟩ := trodAll_cons r0
  obtain ⟨v2, vs2, d2, ds2, p2, q2, rfl, rfl, rfl, h2, r2⟩ := trodAll_cons r1
  obtain ⟨rfl, rfl, rfl⟩ := trodAll_nil r2
  obtain rfl : args = #[v0, v1, v2] := by cases args; simp_all
  obtain ⟨rfl, rfl⟩ := trodVars_none hV
  obtain ⟨a0, rfl, rfl, rfl, w0⟩ := open_int Tryz.underlying2 (hval 0 2 v0 rfl rfl) h0
  have k1 := h1
  have lt1 : ∀ x ∈ p1, x.block < W.heap.size := by obtain ⟨m, hm⟩ := k1; exact DataW.trod_lt m _ _ _ hm
  obtain ⟨x, y, rfl, w1⟩ := open1 (hval 1 43 v1 rfl rfl) h1
  obtain ⟨a2, rfl, rfl, rfl, w2⟩ := open_int Tryz.underlying21 (hval 2 21 v2 rfl rfl) h2
  clear hA0 hval0
  refine (walk a0 x y a2 W w0 w1 w2).mono fun e W' ⟨he, bel⟩ => ?_
  subst he
  exact ⟨_, rfl, _, _, _, [], _, [], hW', trodAll_mk1 (shut_bool Tryz.underlying4 _), (trodAll_cons_mk (shut_int Tryz.underlying2 w0) (trodAll_cons_mk (Below.trod laidOut (by kernel_rfl) (of_decide_eq_true (by kernel_rfl)) k1 bel lt1) (trodAll_cons_mk (shut_int Tryz.underlying21 w2) trodAll_mk0))), rfl, bel.frame _, fun h => by cases h⟩

theorem over : Rows.feedTimesRow.holds Tryz.pinned (OpenSpec.ofChange Rows.feedTimesSpec) :=
  OpenClaim.holds_of_wide 5 Tryz.f5 rfl rfl rfl rfl rfl rfl rfl ⟨rfl, rfl, rfl, rfl, rfl⟩ rfl rfl rfl rfl rfl (by kernel_rfl) Tryz.func5 (by kernel_rfl)
    (of_decide_eq_true (by kernel_rfl)) (by unfold Func.isWrapper; first | (rw [if_pos (by decide +kernel)]; kernel_rfl) | (rw [if_neg (by decide +kernel)]; exact ⟨rfl, rfl⟩))
    (fun os started H enc _ => lifted os started H enc)
end Go.Proofs.YtdhbakknplnnkaaGreat.feedTimes
namespace Go.Proofs.YtdhbakknplnnkaaGreat
/-- The statement. -/
theorem feedTimes_holds : Rows.FeedTimesSaid := feedTimes.over
#print axioms feedTimes_holds
end Go.Proofs.YtdhbakknplnnkaaGreat
