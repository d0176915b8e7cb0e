/-
  What the program makes of one packet of a report of the first kind.
-/
import Derived.Test.YtdhbakknplnnkaaGreatFdA
import Derived.Test.YtdhbakknplnnkaaGreatUn3
import Derived.Test.YtdhbakknplnnkaaGreatNk2
namespace Go.Proofs.YtdhbakknplnnkaaGreat.Fd
open Go.RowKit Go.Proofs.YtdhbakknplnnkaaGreat.Nk

/-- A report as a value. -/
def rV (r : Rt) : Value := .agg #[.int .i64 r.q, .bool r.g, .int .i64 r.t, .bool r.la, .bool r.ec]
/-- What a metric tells of packet q, in a report that was written at a. -/
def mr (q a : Int) (m : Cc.Mt) : Rt :=
  if m.g = true then (if 8190 ≤ m.a then ⟨q, true, 0, true, m.e == 3⟩ else ⟨q, true, wrap64 (a - Un.mdV m.a 1000000 1024 1), false, m.e == 3⟩) else ⟨q, false, 0, false, false⟩
theorem r1_mr (a f : Int) (i : Nat) (m : Cc.Mt) : r1 a f i m = mr ((f + i) % 65536) a m := rfl
/-- Five cells stored one behind the other. -/
def put5 (w : World) (b : Nat) (r : Rt) : World := ((((w.setCell ⟨b, 0, none⟩ (.int .i64 r.q)).setCell ⟨b, 1, none⟩ (.bool r.g)).setCell ⟨b, 2, none⟩ (.int .i64 r.t)).setCell ⟨b, 3, none⟩ (.bool r.la)).setCell ⟨b, 4, none⟩ (.bool r.ec)
theorem put5_ap (w : World) (b : Nat) (r : Rt) : Apart (· = b) w (put5 w b r) :=
  ((((ap_set w b 0 _).trans (ap_set _ b 1 _) (fun _ _ h => h)).trans (ap_set _ b 2 _) (fun _ _ h => h)).trans (ap_set _ b 3 _) (fun _ _ h => h)).trans (ap_set _ b 4 _) (fun _ _ h => h)
theorem put5_is {w : World} {b : Nat} {u : Rt} (h : Ed w b u) (r : Rt) : Ed (put5 w b r) b r := by
  have h0 := heap_setCell_same _ b 0 _ 58 (.int .i64 r.q) h
  have h1 := heap_setCell_same _ b 1 _ 58 (.bool r.g) h0
  have h2 := heap_setCell_same _ b 2 _ 58 (.int .i64 r.t) h1
  have h3 := heap_setCell_same _ b 3 _ 58 (.bool r.la) h2
  have h4 := heap_setCell_same _ b 4 _ 58 (.bool r.ec) h3
  unfold put5 Ed
  rw [h4]; rfl
theorem res127 {W : World} {bx : Nat} {r : Rt} (tmps : Array Value) (h2 : tmps.getD 6 undef = .pointer (some ⟨bx, 0, none⟩)) (hd : Ed W bx r) :
    (results Tryz.f127 tmps).run Tryz.prog W = .ok (rV r) W := by
  obtain ⟨c0, c1, c2, c3, c4⟩ := hd.c
  clear hd
  have h2' : tmps[6]?.getD undef = .pointer (some ⟨bx, 0, none⟩) := by rw [← h2]; simp
  unfold rV
  simp [results, Tryz.results127, h2', c0, c1, c2, c3, c4, go_sem]
theorem seq_any (f : Int) (i : Nat) (f0 : 0 ≤ f) (f1 : f ≤ 65535) (i1 : i ≤ 65536) (w : World) :
    Calls Tryz.prog 128 #[.int .i64 f, .int .i64 (i : Int)] w fun e w' => e = .returned (.int .i64 ((f + i) % 65536)) ∧ w' = w := by
  have C := mkHid (crop16 (f + i))
  obtain ⟨y, HY⟩ : ∃ y, Hid ((f + i) % 65536 = y) := ⟨_, rfl⟩
  rw [HY.out] at C ⊢
  go_enter Tryz.func128, Tryz.ntmps128
  go_wp2_with fail
  refine (C.out _).mono ?_
  rintro e w1 ⟨rfl, rfl⟩
  go_wp2
  go_ret
  exact ⟨rfl, rfl⟩
set_option maxHeartbeats 2000000 in
theorem metric_any (q a : Int) (m : Cc.Mt) (m0 : 0 ≤ m.a) (m1 : m.a ≤ 65535) (w : World) :
    Calls Tryz.prog 127 #[.int .i64 q, .agg #[.bool m.g, .int .i64 m.e, .int .i64 m.a], .int .i64 a] w fun e w' => e = .returned (rV (mr q a m)) ∧ Below w.heap.size w w' := by
  obtain ⟨mg, me, mt⟩ := m
  simp only at m0 m1 ⊢
  have N0 := mkHid (heap_alloc_new w (.cells #[.bool mg, .int .i64 me, .int .i64 mt] 45))
  have A0 := mkHid ((Apart.refl (fun _ => False) w).alloc (.cells #[.bool mg, .int .i64 me, .int .i64 mt] 45))
  obtain ⟨W0, HW0⟩ : ∃ W, Hid (w.alloc (.cells #[.bool mg, .int .i64 me, .int .i64 mt] 45) = W) := ⟨_, rfl⟩
  have Z0 := mkHid (show W0.heap.size = w.heap.size + 1 by rw [← HW0.out]; simp)
  rw [HW0.out] at N0 A0
  have E1 := mkHid (Ed.box W0 ⟨0, false, 0, false, false⟩)
  have P1 := mkHid ((Apart.refl (fun _ => False) W0).alloc (.cells #[.int .i64 0, .bool false, .int .i64 0, .bool false, .bool false] 58))
  obtain ⟨W1, HW1⟩ : ∃ W, Hid (W0.alloc (.cells #[.int .i64 0, .bool false, .int .i64 0, .bool false, .bool false] 58) = W) := ⟨_, rfl⟩
  have Z1 := mkHid (show W1.heap.size = w.heap.size + 1 + 1 by rw [← HW1.out]; simp; have := Z0.out; omega)
  rw [HW1.out] at P1
  rw [HW1.out, Z0.out] at E1
  have N1 := mkHid (P1.out.heap N0.out (fun h => h))
  have A1 := mkHid (A0.out.zz P1.out)
  have E2 := mkHid (Ed.box W1 ⟨q, false, 0, false, false⟩)
  have P2 := mkHid ((Apart.refl (fun _ => False) W1).alloc (.cells #[.int .i64 q, .bool false, .int .i64 0, .bool false, .bool false] 58))
  obtain ⟨W2, HW2⟩ : ∃ W, Hid (W1.alloc (.cells #[.int .i64 q, .bool false, .int .i64 0, .bool false, .bool false] 58) = W) := ⟨_, rfl⟩
  have Z2 := mkHid (show W2.heap.size = w.heap.size + 3 by rw [← HW2.out]; simp; have := Z1.out; omega)
  rw [HW2.out] at P2
  rw [HW2.out, Z1.out] at E2
  have N2 := mkHid (P2.out.heap N1.out (fun h => h))
  have R2 := mkHid (E1.out.kept P2.out (fun h => h))
  have A2 := mkHid (A1.out.zz P2.out)
  obtain ⟨bm, HBM⟩ : ∃ b, Hid (w.heap.size = b) := ⟨_, rfl⟩
  obtain ⟨br, HBR⟩ : ∃ b, Hid (w.heap.size + 1 = b) := ⟨_, rfl⟩
  obtain ⟨bt, HBT⟩ : ∃ b, Hid (w.heap.size + 1 + 1 = b) := ⟨_, rfl⟩
  rw [HBM.out] at N2
  rw [HBR.out] at R2
  rw [HBT.out] at E2
  have hmr : bm < br := by have := HBM.out; have := HBR.out; omega
  have hrt : br < bt := by have := HBT.out; have := HBR.out; omega
  obtain ⟨RR, HRR⟩ : ∃ R, Hid (mr q a ⟨mg, me, mt⟩ = R) := ⟨_, rfl⟩
  have Z2' := mkHid (show W2.heap.size = bt + 1 by have := Z2.out; have := HBT.out; omega)
  rw [HRR.out]
  obtain ⟨d0, d1, d2, -⟩ := cells3 N2.out
  obtain ⟨e0, e1, e2, e3, e4⟩ := E2.out.c
  obtain ⟨g0, g1, g2, g3, g4⟩ := E2.out.f
  have Z0s := Z0.out
  have Z1s := Z1.out
  go_enter Tryz.func127, Tryz.ntmps127
  go_upto_region 2 with fail
  rw [HW0.out, HW1.out, HW2.out, HBT.out, HBR.out, HBM.out]
  have AB := mkHid (fun (W : World) (h : Apart (fun _ => False) W2 W) => (A2.out.zz h))
  have HFIN := mkHid (fun (W : World) (r : Rt) (h : Ed W br ⟨0, false, 0, false, false⟩) (ha : Apart (bt = ·) W2 W) => (show Ed (put5 W br r) br r ∧ Below w.heap.size w (put5 W br r) from
    ⟨put5_is h r, ((A2.out.trans ha (fun i hi e => by have := HBM.out; omega)).trans (put5_ap W br r) (fun i hi e => by have := HBM.out; omega)).belowZ⟩))
  clear Z0s Z1s AB
  cases mg with
  | false =>
    obtain ⟨x0, x1, x2, x3, x4⟩ := R2.out.c
    obtain ⟨y0, y1, y2, y3, y4⟩ := R2.out.f
    have HRM := mkHid (show RR = ⟨q, false, 0, false, false⟩ by rw [← HRR.out]; rfl)
    go_wp2
    show bodyPost _ _ _ _ _ (put5 W2 br ⟨q, false, 0, false, false⟩)
    obtain ⟨u1, u2⟩ := HFIN.out W2 ⟨q, false, 0, false, false⟩ R2.out (Apart.refl _ _)
    exact bodyPost_ret (res127 _ rfl u1) rfl ⟨by rw [HRM.out], u2⟩
  | true =>
    obtain ⟨ec, HEC⟩ : ∃ ec : Bool, Hid ((me == 3) = ec) := ⟨_, rfl⟩
    by_cases h8 : (8190 : Int) ≤ mt
    · have HRM := mkHid (show RR = ⟨q, true, 0, true, ec⟩ by rw [← HRR.out]; unfold mr; rw [if_pos rfl, if_pos h8, HEC.out])
      go_upto_region 6 with fail
      have E3 := mkHid ((E2.out.set1 true).set3 true)
      have P3 := mkHid ((ap_set W2 bt 1 (.bool true)).trans (ap_set (W2.setCell ⟨bt, 1, none⟩ (.bool true)) bt 3 (.bool true)) (fun _ _ h => h))
      obtain ⟨W3, HW3⟩ : ∃ W, Hid ((W2.setCell ⟨bt, 1, none⟩ (.bool true)).setCell ⟨bt, 3, none⟩ (.bool true) = W) := ⟨_, rfl⟩
      rw [HW3.out] at E3 P3 ⊢
      have N3 := mkHid (P3.out.heap N2.out (by omega))
      have R3 := mkHid (R2.out.kept P3.out (by omega))
      clear d0 d1 d2 e0 e1 e2 e3 e4 g0 g1 g2 g3 g4
      obtain ⟨d0, d1, d2, -⟩ := cells3 N3.out
      obtain ⟨e0, e1, e2, e3, e4⟩ := E3.out.c
      obtain ⟨g0, g1, g2, g3, g4⟩ := E3.out.f
      go_upto_region 9 with fail
      rw [HEC.out]
      have E4 := mkHid (E3.out.set4 ec)
      have P4 := mkHid (P3.out.trans (ap_set W3 bt 4 (.bool ec)) (fun _ _ h => h))
      obtain ⟨W4, HW4⟩ : ∃ W, Hid (W3.setCell ⟨bt, 4, none⟩ (.bool ec) = W) := ⟨_, rfl⟩
      rw [HW4.out] at E4 P4 ⊢
      have R4 := mkHid (R2.out.kept P4.out (by omega))
      clear d0 d1 d2 e0 e1 e2 e3 e4 g0 g1 g2 g3 g4
      obtain ⟨e0, e1, e2, e3, e4⟩ := E4.out.c
      obtain ⟨x0, x1, x2, x3, x4⟩ := R4.out.c
      obtain ⟨y0, y1, y2, y3, y4⟩ := R4.out.f
      go_wp2
      show bodyPost _ _ _ _ _ (put5 W4 br ⟨q, true, 0, true, ec⟩)
      obtain ⟨u1, u2⟩ := HFIN.out W4 ⟨q, true, 0, true, ec⟩ R4.out (by simpa [eq_comm] using P4.out)
      exact bodyPost_ret (res127 _ rfl u1) rfl ⟨by rw [HRM.out], u2⟩
    · obtain ⟨dv, HDV⟩ : ∃ dv, Hid (Un.mdV mt 1000000 1024 1 = dv) := ⟨_, rfl⟩
      have DC := mkHid (Un.do_any mt 1000000 1024 1 (by omega) (by omega) (by omega) (by omega) (by omega) (by omega))
      rw [HDV.out] at DC
      obtain ⟨tt, HTT⟩ : ∃ tt, Hid (wrap64 (a - dv) = tt) := ⟨_, rfl⟩
      have HRM := mkHid (show RR = ⟨q, true, tt, false, ec⟩ by rw [← HRR.out]; unfold mr; rw [if_pos rfl, if_neg h8, HEC.out, HDV.out, HTT.out])
      go_upto_region 6 with fail
      have E3 := mkHid ((E2.out.set1 true).set3 false)
      have P3 := mkHid ((ap_set W2 bt 1 (.bool true)).trans (ap_set (W2.setCell ⟨bt, 1, none⟩ (.bool true)) bt 3 (.bool false)) (fun _ _ h => h))
      obtain ⟨W3, HW3⟩ : ∃ W, Hid ((W2.setCell ⟨bt, 1, none⟩ (.bool true)).setCell ⟨bt, 3, none⟩ (.bool false) = W) := ⟨_, rfl⟩
      rw [HW3.out] at E3 P3 ⊢
      have N3 := mkHid (P3.out.heap N2.out (by omega))
      have R3 := mkHid (R2.out.kept P3.out (by omega))
      clear d0 d1 d2 e0 e1 e2 e3 e4 g0 g1 g2 g3 g4
      obtain ⟨d0, d1, d2, -⟩ := cells3 N3.out
      obtain ⟨e0, e1, e2, e3, e4⟩ := E3.out.c
      obtain ⟨g0, g1, g2, g3, g4⟩ := E3.out.f
      go_wp2_with fail
      refine (DC.out _).mono ?_
      rintro e w5 ⟨rfl, b5⟩
      have P5 := mkHid (P3.out.trans (below_apart b5) (fun _ _ h => h.elim))
      have E5 := mkHid (E3.out.kept (below_apart b5) (fun h => h))
      have N5 := mkHid (N3.out |> (below_apart b5).heap (hx := fun h => h))
      clear b5 d0 d1 d2 e0 e1 e2 e3 e4 g0 g1 g2 g3 g4
      obtain ⟨d0, d1, d2, -⟩ := cells3 N5.out
      obtain ⟨e0, e1, e2, e3, e4⟩ := E5.out.c
      obtain ⟨g0, g1, g2, g3, g4⟩ := E5.out.f
      go_upto_region 9 with fail
      rw [HEC.out, HTT.out]
      have E6 := mkHid ((E5.out.set2 tt).set4 ec)
      have P6 := mkHid ((P5.out.trans (ap_set w5 bt 2 (.int .i64 tt)) (fun _ _ h => h)).trans (ap_set (w5.setCell ⟨bt, 2, none⟩ (.int .i64 tt)) bt 4 (.bool ec)) (fun _ _ h => h))
      obtain ⟨W6, HW6⟩ : ∃ W, Hid ((w5.setCell ⟨bt, 2, none⟩ (.int .i64 tt)).setCell ⟨bt, 4, none⟩ (.bool ec) = W) := ⟨_, rfl⟩
      rw [HW6.out] at E6 P6 ⊢
      have R6 := mkHid (R2.out.kept P6.out (by omega))
      clear d0 d1 d2 e0 e1 e2 e3 e4 g0 g1 g2 g3 g4
      obtain ⟨e0, e1, e2, e3, e4⟩ := E6.out.c
      obtain ⟨x0, x1, x2, x3, x4⟩ := R6.out.c
      obtain ⟨y0, y1, y2, y3, y4⟩ := R6.out.f
      go_wp2
      show bodyPost _ _ _ _ _ (put5 W6 br ⟨q, true, tt, false, ec⟩)
      obtain ⟨u1, u2⟩ := HFIN.out W6 ⟨q, true, tt, false, ec⟩ R6.out (by simpa [eq_comm] using P6.out)
      exact bodyPost_ret (res127 _ rfl u1) rfl ⟨by rw [HRM.out], u2⟩
end Go.Proofs.YtdhbakknplnnkaaGreat.Fd
