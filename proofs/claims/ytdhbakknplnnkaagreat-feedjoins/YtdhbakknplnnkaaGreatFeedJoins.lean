/-
  FeedJoins: what two messages tell one behind the other is what they tell together.
-/
import Derived.Test.YtdhbakknplnnkaaGreatRows
import Derived.WalkKit
import Derived.ProofKit
import Derived.OpenShut
import Derived.ShutString
import Derived.ChangeOld
import Derived.Below
import Derived.Deep.Slices
import Derived.SizedLaws
import Derived.Test.YtdhbakknplnnkaaGreatFdC
import Derived.Test.YtdhbakknplnnkaaGreatNk2
import Derived.Deep.DeepCutAuto
import Derived.Deep.RegionHeld3
namespace Go.Proofs.YtdhbakknplnnkaaGreat.feedJoins
open Go.ChangeShapes Go.WideShapes Go.ChangeAt Go.RowKit
open Go.ChangeMaps (open_string shut_string)
set_option linter.unusedVariables false

theorem own : ownKnob Tryz.prog.godebug = none := by kernel_rfl
theorem laidOut : laidOutB Tryz.prog = true := by kernel_rfl

theorem str_bound {s : ByteArray} (h : s.data.toList.length ≤ reachBytes) : s.size ≤ 140737488351232 := by
  have e : s.data.toList.length = s.size := by rw [Array.length_toList]; rfl
  rw [e] at h
  simpa [reachBytes] using h
open Go.Proofs.YtdhbakknplnnkaaGreat.Fd Go.Proofs.YtdhbakknplnnkaaGreat.Nk
theorem fd_none {s : ByteArray} {near : Int} (h : ¬ fdE s near = 0) : fdR s near = [] ∧ fdA s near = [] := by
  unfold fdR fdA; rw [if_neg h, if_neg h]; exact ⟨rfl, rfl⟩
set_option maxRecDepth 100000 in
set_option maxHeartbeats 8000000 in
theorem walk (a0 : ByteArray) (a1 : ByteArray) (a2 : Int) (w : World) (w0 : a0.size ≤ 140737488351232) (w1 : a1.size ≤ 140737488351232) (w2 : (Lit.int .i64 a2).wf = true) : Calls Tryz.prog 4 #[.string a0, .string a1, .int .i64 a2] w fun e w' => e = .returned (.bool true) ∧ Below w.heap.size w w' := by
  have hw0 : (a0.size : Int) ≤ 140737488355328 := by omega
  have hw1 : (a1.size : Int) ≤ 140737488355328 := by omega
  clear w0 w1 w2
  by_cases h7 : (60000 : Int) < a0.size + a1.size
  · go_enter Tryz.func4, Tryz.ntmps4
    go_wp2_with fail
    refine (Fd.wakes_any _).mono ?_
    rintro e w9 ⟨rfl, p9⟩
    go_wp2
    go_ret
    exact ⟨rfl, p9⟩
  · have HZ := mkHid (show a0.size + a1.size ≤ 60000 by omega)
    have RP := mkHid (Fd.read_any a0 (by omega) a2)
    have RU := mkHid (Fd.read_any a1 (by omega) a2)
    unfold RdPost fv at RP RU
    obtain ⟨R, HR⟩ : ∃ R, Hid (fdR a0 a2 = R) := ⟨_, rfl⟩
    obtain ⟨A, HA⟩ : ∃ R, Hid (fdA a0 a2 = R) := ⟨_, rfl⟩
    obtain ⟨E, HE⟩ : ∃ R, Hid (fdE a0 a2 = R) := ⟨_, rfl⟩
    obtain ⟨R', HR'⟩ : ∃ R, Hid (fdR a1 a2 = R) := ⟨_, rfl⟩
    obtain ⟨A', HA'⟩ : ∃ R, Hid (fdA a1 a2 = R) := ⟨_, rfl⟩
    obtain ⟨E', HE'⟩ : ∃ R, Hid (fdE a1 a2 = R) := ⟨_, rfl⟩
    rw [HR.out, HA.out, HE.out] at RP
    rw [HR'.out, HA'.out, HE'.out] at RU
    have HNE := mkHid (fun h : ¬ E = 0 => fd_none (s := a0) (near := a2) (by rw [HE.out]; exact h))
    have HNE' := mkHid (fun h : ¬ E' = 0 => fd_none (s := a1) (near := a2) (by rw [HE'.out]; exact h))
    rw [HR.out, HA.out] at HNE
    rw [HR'.out, HA'.out] at HNE'
    go_enter Tryz.func4, Tryz.ntmps4
    go_wp2_with fail
    refine (RP.out _).mono ?_
    rintro e x1 ⟨⟨xa, xc, xa', xc', rfl, ra, ia⟩, bx1⟩
    have F1 := mkHid (Fb.new (w := w) (c := xc) 26 ra ia bx1)
    obtain ⟨bx, HBX⟩ : ∃ bx, Hid (x1.heap.size = bx) := ⟨_, rfl⟩
    obtain ⟨X1, HX1⟩ : ∃ W, Hid (x1.alloc (.cells #[.slice xa R.length xc, .slice xa' A.length xc'] 26) = W) := ⟨_, rfl⟩
    rw [HX1.out, HBX.out] at F1
    clear ra ia bx1 RP
    go_upto_region 4 with fail
    rw [HX1.out, HBX.out]
    go_wp2_with fail
    refine (RU.out _).mono ?_
    rintro e x2 ⟨⟨xb, xd, xb', xd', rfl, ra, ia⟩, bx2⟩
    have F2 := mkHid (F1.out.next bx2)
    have G2 := mkHid (Fb.new (c := xd) 26 ra ia (Below.refl _ x2))
    have F3 := mkHid (F2.out.next (al_below x2 (.cells #[.slice xb R'.length xd, .slice xb' A'.length xd'] 26)))
    obtain ⟨by_, HBY⟩ : ∃ bx, Hid (x2.heap.size = bx) := ⟨_, rfl⟩
    obtain ⟨W3, HW3⟩ : ∃ W, Hid (x2.alloc (.cells #[.slice xb R'.length xd, .slice xb' A'.length xd'] 26) = W) := ⟨_, rfl⟩
    rw [HW3.out, HBY.out] at G2
    rw [HW3.out] at F3
    clear ra ia bx2 RU F1 F2
    obtain ⟨⟨c0, c1⟩, -⟩ := Fd.cells2 F3.out.d
    obtain ⟨⟨d0, d1⟩, -⟩ := Fd.cells2 G2.out.d
    go_upto_region 5 with fail
    rw [HW3.out, HBY.out]
    by_cases hE : E = 0
    · subst hE
      by_cases hE' : E' = 0
      · subst hE'
        obtain ⟨e1, -, -, m1, m2⟩ := fd_zero HE.out
        obtain ⟨e2, -, -, m3, m4⟩ := fd_zero HE'.out
        have HJR := mkHid (fun hk h1 h2 => join_reads HE.out HE'.out hk h1 h2)
        have hz := rL_sz a0
        have hz' := rL_sz a1
        have hl := len_sz (Rc.rL a0)
        have hl' := len_sz (Rc.rL a1)
        have SP := mkHid (Rc.rsplit_own a0 (by omega))
        have SP' := mkHid (Rc.rsplit_any a1 (by omega))
        have HD := mkHid (show ∀ p ∈ Rc.rL a0 ++ Rc.rL a1, p.d.size ≤ maxLen from fun p hp => by
          rcases List.mem_append.1 hp with h | h
          · have := (rL_few a0).2 p h; unfold maxLen; omega
          · have := (rL_few a1).2 p h; unfold maxLen; omega)
        unfold Rc.SplitOwn at SP
        unfold Rc.SplitPost at SP'
        rw [HR.out, HA.out, HR'.out, HA'.out] at HJR
        obtain ⟨l, HL⟩ : ∃ l, Hid (Rc.rL a0 = l) := ⟨_, rfl⟩
        obtain ⟨l', HL'⟩ : ∃ l, Hid (Rc.rL a1 = l) := ⟨_, rfl⟩
        rw [HL.out, HL'.out] at HJR HD
        rw [HL.out, e1] at SP
        rw [HL'.out, e2] at SP'
        rw [HL.out] at hz hl
        rw [HL'.out] at hz' hl'
        obtain ⟨n, HN⟩ : ∃ n, Hid (l.length = n) := ⟨_, rfl⟩
        obtain ⟨n', HN'⟩ : ∃ n, Hid (l'.length = n) := ⟨_, rfl⟩
        rw [HN.out] at SP hl
        rw [HN'.out] at SP' hl'
        have HLL := mkHid (show n ≤ 60000 ∧ n' ≤ 60000 by have := HZ.out; omega)
        have HSZ := mkHid (show Rc.sz (l ++ l') ≤ 60000 by rw [Fd.sz_app]; have := HZ.out; omega)
        have HB4 := mkHid (show R.length ≤ 4096 ∧ A.length ≤ 4096 ∧ R'.length ≤ 4096 ∧ A'.length ≤ 4096 from ⟨by rw [← HR.out, (fd_lists HE.out).1]; exact m1, by rw [← HA.out, (fd_lists HE.out).2]; exact m2, by rw [← HR'.out, (fd_lists HE'.out).1]; exact m3, by rw [← HA'.out, (fd_lists HE'.out).2]; exact m4⟩)
        clear hz hz' hl hl' m1 m2 m3 m4
        obtain ⟨i0, hi, hz0, hz1, hz2⟩ := info56'
        go_wp2_with fail
        refine (SP.out _).mono ?_
        rintro e x3 ⟨⟨v3, rfl, ho⟩, b3⟩
        obtain ⟨ad3, cp3, rfl⟩ := ownsRow_slice ho
        have O3 := mkHid ho
        have B3 := mkHid b3
        clear ho b3 SP
        go_wp2_with fail
        refine (SP'.out _).mono ?_
        rintro e x4 ⟨⟨ax4, cp4, rfl, pa4⟩, b4⟩
        have O4 := mkHid (ownsRow_below O3.out b4 (fun k hk => (O3.out.lt k hk).2))
        have B4 := mkHid (B3.out.trans (b4.mono B3.out.size))
        have S4 := mkHid (Rc.pa_src (cap := cp4) pa4)
        rw [HN'.out] at S4
        clear pa4 b4 SP' O3 B3
        have hn1 := HLL.out.1
        have hn2 := HLL.out.2
        go_wp2_with (at_builtin; refine wpList_append_told _ rfl (.tmp 88) (.tmp 89) 36 rfl W3.heap.size 56 i0 (.agg #[.int .i64 0, .int .i64 0, .string ByteArray.empty]) 3 32 Tryz.underlying36 hi hz0 hz1 hz2 rfl (by decide) (.slice ad3 n cp3) n (Rc.pC l) rfl O4.out (.slice ax4 n' cp4) n' (Rc.pC l') rfl S4.out (Rc.pC_one _) (by unfold maxLen; omega) (by omega) B4.out.size ?_; intro v5 x5 hown hgr hxx)
        obtain ⟨ad5, cp5, rfl⟩ := ownsRow_slice hown
        have B5 := mkHid (B4.out.trans (grow_row O4.out B4.out.size hgr))
        have en : (l ++ l').length = n + n' := by rw [List.length_append, HN.out, HN'.out]
        obtain ⟨a5', c5', hv5, hp5⟩ := parts_own hown HN.out HN'.out (by omega) HD.out
        rw [en] at hv5
        simp only [Value.slice.injEq] at hv5
        obtain ⟨rfl, -, rfl⟩ := hv5
        have JC := mkHid (Rc.rjoin_any ad5 cp5 (l ++ l') (by rw [en]; omega) (by have := HSZ.out; omega) x5 hp5)
        rw [en] at JC
        clear hown hgr hp5 en hxx
        obtain ⟨J, HJ⟩ : ∃ J, Hid (Rc.jE (l ++ l') = J) := ⟨_, rfl⟩
        obtain ⟨U, HU⟩ : ∃ U, Hid (Rc.jS (l ++ l') = U) := ⟨_, rfl⟩
        rw [HJ.out, HU.out] at JC HJR
        refine (JC.out).mono ?_
        rintro e x6 ⟨rfl, b6⟩
        have F6 := mkHid (F3.out.next (B5.out.trans (b6.mono B5.out.size)))
        have G6 := mkHid (G2.out.next (B5.out.trans (b6.mono B5.out.size)))
        clear b6 JC F3 G2 B4 O4 S4 c0 c1 d0 d1
        obtain ⟨⟨c0, c1⟩, -⟩ := Fd.cells2 F6.out.d
        obtain ⟨⟨d0, d1⟩, -⟩ := Fd.cells2 G6.out.d
        go_upto_region 10 with fail
        obtain ⟨nR, HnR⟩ : ∃ n, Hid (R.length = n) := ⟨_, rfl⟩
        obtain ⟨nS, HnS⟩ : ∃ n, Hid (R'.length = n) := ⟨_, rfl⟩
        obtain ⟨mA, HmA⟩ : ∃ n, Hid (A.length = n) := ⟨_, rfl⟩
        obtain ⟨mB, HmB⟩ : ∃ n, Hid (A'.length = n) := ⟨_, rfl⟩
        rw [HnR.out, HnS.out, HmA.out, HmB.out] at HJR
        rw [HnR.out] at c0 HB4 ⊢
        rw [HmA.out] at c1 HB4 ⊢
        rw [HnS.out] at d0 HB4 ⊢
        rw [HmB.out] at d1 HB4 ⊢
        obtain ⟨b1, b2, b3, b4⟩ := HB4.out
        by_cases hJ : J = 0
        · subst hJ
          by_cases q1 : (4096 : Int) < nR + nS
          · go_wp2_with fail
            refine (Fd.wakes_any _).mono ?_
            rintro e w9 ⟨rfl, p9⟩
            have F9 := mkHid (F6.out.next p9)
            clear p9
            go_wp2
            go_ret
            exact ⟨rfl, F9.out.k⟩
          · by_cases q2 : (4096 : Int) < mA + mB
            · go_wp2_with fail
              refine (Fd.wakes_any _).mono ?_
              rintro e w9 ⟨rfl, p9⟩
              have F9 := mkHid (F6.out.next p9)
              clear p9
              go_wp2
              go_ret
              exact ⟨rfl, F9.out.k⟩
            · obtain ⟨r1, r2, r3⟩ := HJR.out rfl (by omega) (by omega)
              have HUZ := mkHid (show U.size ≤ 1000000 by rw [← HU.out]; exact Nat.le_trans (Rc.rE_zero (Rc.back HJ.out).1).1 (by decide))
              have RA := mkHid (Fd.read_any U HUZ.out a2)
              unfold RdPost fv at RA
              rw [r1, r2, r3] at RA
              have HnT : (R ++ R').length = nR + nS := by rw [List.length_append, HnR.out, HnS.out]
              have HmT : (A ++ A').length = mA + mB := by rw [List.length_append, HmA.out, HmB.out]
              clear r1 r2 r3
              go_wp2_with fail
              refine (RA.out _).mono ?_
              rintro e y0 ⟨⟨ga, gc, ga', gc', rfl, rg, ig⟩, by0⟩
              have TY := mkHid (show Tri w (y0.alloc (.cells #[.slice ga (R ++ R').length gc, .slice ga' (A ++ A').length gc'] 26)) bx by_ y0.heap.size xa xa' xb xb' ga ga' xc xc' xd xd' gc gc' R R' (R ++ R') A A' (A ++ A') from
                ⟨(F6.out.next by0).next (al_below y0 _), ⟨((G6.out.next by0).next (al_below y0 _)).d, ((G6.out.next by0).next (al_below y0 _)).r, ((G6.out.next by0).next (al_below y0 _)).i, ((F6.out.next by0).next (al_below y0 _)).k⟩, Fb.new 26 rg ig (F6.out.next by0).k⟩)
              obtain ⟨bz, HBZ⟩ : ∃ b, Hid (y0.heap.size = b) := ⟨_, rfl⟩
              obtain ⟨Y, HY⟩ : ∃ W, Hid (y0.alloc (.cells #[.slice ga (nR + nS) gc, .slice ga' (mA + mB) gc'] 26) = W) := ⟨_, rfl⟩
              rw [HnT, HmT, HY.out, HBZ.out] at TY
              clear rg ig by0 RA F6 G6 c0 c1 d0 d1
              go_upto_region 13 with fail
              rw [HY.out, HBZ.out]
              clear HY
              obtain ⟨i3, hk3, kz0, kz1, kz2⟩ := info3'
              obtain ⟨j0, hj, hz0', hz1', hz2'⟩ := info46'
              have TE := mkHid (TY.out.next ((al_below Y (.cells #[] 58)).drew))
              have OE := mkHid (show ((Y.alloc (.cells #[] 58)).drew).ownsRow Y.heap.size 58 5 (.slice (some ⟨Y.heap.size, 0, none⟩) 0 0) 0 [] from Tw.own_empty Y Y.heap.size 58 5 (Nat.le_refl _))
              have SE := mkHid (ra_srcn (cap := xc) TE.out.f.r HnR.out)
              have RS := mkHid (fun (y : World) (ad : Option Addr) (cp : Nat) (hB : Below Y.heap.size Y y) (h : Fd.RA y.heap.size y ad (R ++ R')) => reports_self y.heap.size ga gc ad cp (R ++ R') y (Nat.le_refl _) (TY.out.next hB).h.r h)
              have NS := mkHid (fun (y : World) (ad : Option Addr) (cp : Nat) (hB : Below Y.heap.size Y y) (h : IA y.heap.size y ad cp (A ++ A')) => ints_self y.heap.size ga' gc' ad cp (A ++ A') y (Nat.le_refl _) (TY.out.next hB).h.i h)
              rw [HnT] at RS
              rw [HmT] at NS
              have hq1 : nR + nS ≤ 4096 := by omega
              have hq2 : mA + mB ≤ 4096 := by omega
              obtain ⟨⟨s0, s1⟩, ⟨s2, s3⟩, ⟨s4, s5⟩⟩ := Tri.cc (TY.out.next ((Below.refl _ Y).drew)) HnR.out HnS.out HnT HmA.out HmB.out HmT
              obtain ⟨⟨t0, t1⟩, ⟨t2, t3⟩, ⟨t4, t5⟩⟩ := Tri.cc TE.out HnR.out HnS.out HnT HmA.out HmB.out HmT
              have HS := mkHid (fun (v : World) (hb : Below Y.heap.size Y v) => (show v.cell? ⟨bx, 0, none⟩ = some (.slice xa nR xc) ∧ v.cell? ⟨bx, 1, none⟩ = some (.slice xa' mA xc') ∧ v.cell? ⟨by_, 0, none⟩ = some (.slice xb nS xd) ∧ v.cell? ⟨by_, 1, none⟩ = some (.slice xb' mB xd') ∧ v.cell? ⟨bz, 0, none⟩ = some (.slice ga (nR + nS) gc) ∧ v.cell? ⟨bz, 1, none⟩ = some (.slice ga' (mA + mB) gc') ∧ Below Y.heap.size Y v from
                have t := Tri.cc (TY.out.next hb) HnR.out HnS.out HnT HmA.out HmB.out HmT
                ⟨t.1.1, t.1.2, t.2.1.1, t.2.1.2, t.2.2.1, t.2.2.2, hb⟩))
              have HNA := mkHid (fun (v : World) (o : Obj) (h : v.cell? ⟨bx, 0, none⟩ = some (.slice xa nR xc) ∧ v.cell? ⟨bx, 1, none⟩ = some (.slice xa' mA xc') ∧ v.cell? ⟨by_, 0, none⟩ = some (.slice xb nS xd) ∧ v.cell? ⟨by_, 1, none⟩ = some (.slice xb' mB xd') ∧ v.cell? ⟨bz, 0, none⟩ = some (.slice ga (nR + nS) gc) ∧ v.cell? ⟨bz, 1, none⟩ = some (.slice ga' (mA + mB) gc') ∧ Below Y.heap.size Y v) => HS.out (v.alloc o) (h.2.2.2.2.2.2.alloc h.2.2.2.2.2.2.size o))
              have HB0 := mkHid (Below.refl Y.heap.size Y)
              clear s0 s1 s2 s3 s4 s5 t0 t1 t2 t3 t4 t5
              go_region_held3 (fun w' => w'.cell? ⟨bx, 0, none⟩ = some (.slice xa nR xc) ∧ w'.cell? ⟨bx, 1, none⟩ = some (.slice xa' mA xc') ∧ w'.cell? ⟨by_, 0, none⟩ = some (.slice xb nS xd) ∧ w'.cell? ⟨by_, 1, none⟩ = some (.slice xb' mB xd') ∧ w'.cell? ⟨bz, 0, none⟩ = some (.slice ga (nR + nS) gc) ∧ w'.cell? ⟨bz, 1, none⟩ = some (.slice ga' (mA + mB) gc') ∧ Below Y.heap.size Y w')
                (first | exact HS.out _ (by assumption) | exact HS.out _ (Below.refl _ _) | exact HS.out _ ((Below.refl _ _).drew) | exact HNA.out _ _ (by assumption))
                (first
                | (refine step_append_want (by kernel_rfl) (.tmp 144) (.tmp 146) 23 (by kernel_rfl) Y.heap.size 58 j0 (.agg #[.int .i64 0, .bool false, .int .i64 0, .bool false, .bool false]) 5 32 Tryz.underlying23 hj hz0' hz1' hz2' rfl (by decide) (.slice (some ⟨Y.heap.size, 0, none⟩) 0 0) 0 [] (by kernel_rfl) ?_ (.slice xa nR xc) nR (rC R) (by kernel_rfl) ?_ (rC_one _) (by unfold maxLen; omega) (by omega) ?_ ?_; exact OE.out; exact SE.out; exact (al_below Y (.cells #[] 58)).drew.size; intro v1 y1 hown hgr hxx; rw [Nat.zero_add, List.nil_append] at hown; obtain ⟨ad1, cp1, rfl⟩ := ownsRow_slice hown; have O1 := mkHid hown; have B1 : Below Y.heap.size Y y1 := grow_below hgr (Nat.le_refl _); have S1 := mkHid (ra_srcn (cap := xd) (TY.out.next B1).g.r HnS.out); clear hown hgr hxx)
                | (refine step_append_want (by kernel_rfl) (.tmp 147) (.tmp 149) 23 (by kernel_rfl) Y.heap.size 58 j0 (.agg #[.int .i64 0, .bool false, .int .i64 0, .bool false, .bool false]) 5 32 Tryz.underlying23 hj hz0' hz1' hz2' rfl (by decide) (.slice ad1 nR cp1) nR (rC R) (by kernel_rfl) ?_ (.slice xb nS xd) nS (rC R') (by kernel_rfl) ?_ (rC_one _) (by unfold maxLen; omega) (by omega) ?_ ?_; exact O1.out; exact S1.out; exact B1.size; intro v2 y2 hown hgr hxx; obtain ⟨ad2, cp2, rfl⟩ := ownsRow_slice hown; have B2 : Below Y.heap.size Y y2 := B1.trans (grow_row O1.out B1.size hgr); have P2 := mkHid (reps_own hown HnR.out HnS.out); clear hown hgr hxx)
                | (go_at_call 10; refine (RS.out _ _ _ B2 P2.out).mono ?_; rintro e y3 ⟨rfl, b3⟩; have B3 : Below Y.heap.size Y y3 := B2.trans (b3.mono B2.size); have TF := mkHid (TY.out.next (B3.trans ((al_below y3 (.cells #[] 3)).mono B3.size))); have OF := mkHid (Tw.own_empty y3 Y.heap.size 3 1 B3.size); have SF := mkHid (ia_srcn TF.out.f.i HmA.out); clear b3 TF)
                | (refine step_append_want (by kernel_rfl) (.tmp 156) (.tmp 158) 24 (by kernel_rfl) Y.heap.size 3 i3 (.int .i64 0) 1 8 Tryz.underlying24 hk3 kz0 kz1 kz2 rfl (by decide) (.slice (some ⟨y3.heap.size, 0, none⟩) 0 0) 0 [] (by kernel_rfl) ?_ (.slice xa' mA xc') mA (IC A) (by kernel_rfl) ?_ IC_one (by unfold maxLen; omega) (by omega) ?_ ?_; exact OF.out; exact SF.out; exact (B3.trans ((al_below y3 (.cells #[] 3)).mono B3.size)).size; intro v4 y4 hown hgr hxx; rw [Nat.zero_add, List.nil_append] at hown; obtain ⟨ad4, cp4', rfl⟩ := ownsRow_slice hown; have O4 := mkHid hown; have B4 : Below Y.heap.size Y y4 := B3.trans (grow_e hgr B3.size); have S4 := mkHid (ia_srcn (TY.out.next B4).g.i HmB.out); clear hown hgr hxx)
                | (refine step_append_want (by kernel_rfl) (.tmp 159) (.tmp 161) 24 (by kernel_rfl) Y.heap.size 3 i3 (.int .i64 0) 1 8 Tryz.underlying24 hk3 kz0 kz1 kz2 rfl (by decide) (.slice ad4 mA cp4') mA (IC A) (by kernel_rfl) ?_ (.slice xb' mB xd') mB (IC A') (by kernel_rfl) ?_ IC_one (by unfold maxLen; omega) (by omega) ?_ ?_; exact O4.out; exact S4.out; exact B4.size; intro v5 y5 hown hgr hxx; obtain ⟨ad5', cp5', rfl⟩ := ownsRow_slice hown; have B5' : Below Y.heap.size Y y5 := B4.trans (grow_row O4.out B4.size hgr); have P5 := mkHid (ints_own hown HmA.out HmB.out); clear hown hgr hxx)
                | (go_at_call 11; refine (NS.out _ _ _ B5' P5.out).mono ?_; rintro e y6 ⟨rfl, a6⟩; have B6 : Below Y.heap.size Y y6 := B5'.trans (a6.belowF Y.heap.size B5'.size); clear a6)
                | (go_at_call 7; refine (Fd.wakes_any _).mono ?_; rintro e y7 ⟨rfl, p7⟩; have B7 : Below Y.heap.size Y y7 := B6.trans (p7.mono B6.size); clear p7))
              all_goals
                go_wp2
                go_ret
                exact ⟨rfl, (TY.out.next B7).f.k⟩
        · have hJb : (J != 0) = true := by simpa using hJ
          go_wp2_with fail
          refine (Fd.wakes_any _).mono ?_
          rintro e w9 ⟨rfl, p9⟩
          have F9 := mkHid (F6.out.next p9)
          clear p9
          go_wp2
          go_ret
          exact ⟨rfl, F9.out.k⟩
      · obtain ⟨r1, r2⟩ := HNE'.out hE'
        subst r1 r2
        have hEb : (E' != 0) = true := by simpa using hE'
        have hEc : (E' == 0) = false := by simpa using hE'
        simp only [List.length_nil] at d0 d1
        go_wp2_with fail
        refine (Fd.wakes_any _).mono ?_
        rintro e w9 ⟨rfl, p9⟩
        have F9 := mkHid (F3.out.next p9)
        clear p9
        go_wp2
        go_ret
        exact ⟨rfl, F9.out.k⟩
    · obtain ⟨r1, r2⟩ := HNE.out hE
      subst r1 r2
      have hEb : (E != 0) = true := by simpa using hE
      have hEc : (E == 0) = false := by simpa using hE
      simp only [List.length_nil] at c0 c1
      by_cases hE' : E' = 0
      · subst hE'
        go_wp2_with fail
        refine (Fd.wakes_any _).mono ?_
        rintro e w9 ⟨rfl, p9⟩
        have F9 := mkHid (F3.out.next p9)
        clear p9
        go_wp2
        go_ret
        exact ⟨rfl, F9.out.k⟩
      · obtain ⟨r1, r2⟩ := HNE'.out hE'
        subst r1 r2
        have hEb' : (E' != 0) = true := by simpa using hE'
        have hEc' : (E' == 0) = false := by simpa using hE'
        simp only [List.length_nil] at d0 d1
        go_wp2_with fail
        refine (Fd.wakes_any _).mono ?_
        rintro e w9 ⟨rfl, p9⟩
        have F9 := mkHid (F3.out.next p9)
        clear p9
        go_wp2
        go_ret
        exact ⟨rfl, F9.out.k⟩

set_option maxRecDepth 100000 in
theorem lifted (os : Os) (started : os.Started) (H : Type) (enc : TypeId × Value → H) :
    ReturnsInHanded {} Tryz.checked os 4 .any (Rows.feedJoinsSpec.pre6 enc Tryz.prog Tryz.f4 Rows.feedJoinsRow.domain false) (Rows.feedJoinsSpec.post enc Tryz.prog Tryz.f4 false true false false) := by
  refine returnsInHanded_of_change_sized (C := Tryz.checked) own started (by kernel_rfl) Tryz.func4
    (ChangeSpec.witness6 (enc := enc) (C := Tryz.checked) false ⟨#[], #[.string ByteArray.empty, .string ByteArray.empty, .int .i64 0], []⟩ 8 (by kernel_rfl) (by kernel_rfl) (by kernel_rfl) (by kernel_rfl)) ?_
  intro W base args ds gs before hval0 hW hcnd hsz _
  have hval : ∀ (j : Nat) t v, Tryz.f4.params[j]? = some t → args[j]? = some v → Value.okWide Tryz.prog W .any base t v := hval0
  have hW' := hW
  obtain ⟨p, q, hA0, hV, rfl, hfz, hnd⟩ := hW
  have hA : DataW.TrodAll enc Tryz.prog W 0 (fun _ => true) true Tryz.f4.params.toList args.toList ds p := hA0
  rw [Tryz.params4] at hA hval
  obtain ⟨v0, vs0, d0, ds0, p0, q0, hargs, rfl, rfl, h0, r0⟩ := trodAll_cons hA
  obtain ⟨v1, vs1, d1, ds1, p1, q1, rfl, rfl, rfl, h1, r1⟩ := trodAll_cons r0
  obtain ⟨v2, vs2, d2, ds2, p2, q2, rfl, rfl, rfl, h2, r2⟩ := trodAll_cons r1
  obtain ⟨rfl, rfl, rfl⟩ := trodAll_nil r2
  obtain rfl : args = #[v0, v1, v2] := by cases args; simp_all
  obtain ⟨rfl, rfl⟩ := trodVars_none hV
  obtain ⟨a0, rfl, rfl, rfl, w0⟩ := open_string Tryz.underlying9 (hval 0 9 v0 rfl rfl) h0
  have z0 := str_bound (sized_string hsz (j := 0) (t := 9) (by kernel_rfl) rfl)
  obtain ⟨a1, rfl, rfl, rfl, w1⟩ := open_string Tryz.underlying9 (hval 1 9 v1 rfl rfl) h1
  have z1 := str_bound (sized_string hsz (j := 1) (t := 9) (by kernel_rfl) rfl)
  obtain ⟨a2, rfl, rfl, rfl, w2⟩ := open_int Tryz.underlying2 (hval 2 2 v2 rfl rfl) h2
  clear hA0 hval0
  refine (walk a0 a1 a2 W z0 z1 w2).mono fun e W' ⟨he, bel⟩ => ?_
  subst he
  exact ⟨_, rfl, _, _, _, [], _, [], hW', trodAll_mk1 (shut_bool Tryz.underlying4 _), (trodAll_cons_mk (shut_string Tryz.underlying9 w0) (trodAll_cons_mk (shut_string Tryz.underlying9 w1) (trodAll_cons_mk (shut_int Tryz.underlying2 w2) trodAll_mk0))), rfl, bel.frame _, fun h => by cases h⟩

theorem over : Rows.feedJoinsRow.holds Tryz.pinned (OpenSpec.ofChange Rows.feedJoinsSpec) :=
  OpenClaim.holds_of_wide 4 Tryz.f4 rfl rfl rfl rfl rfl rfl rfl ⟨rfl, rfl, rfl, rfl, rfl⟩ rfl rfl rfl rfl rfl (by kernel_rfl) Tryz.func4 (by kernel_rfl)
    (of_decide_eq_true (by kernel_rfl)) (by unfold Func.isWrapper; first | (rw [if_pos (by decide +kernel)]; kernel_rfl) | (rw [if_neg (by decide +kernel)]; exact ⟨rfl, rfl⟩))
    (fun os started H enc _ => lifted os started H enc)
end Go.Proofs.YtdhbakknplnnkaaGreat.feedJoins
namespace Go.Proofs.YtdhbakknplnnkaaGreat
/-- The statement. -/
theorem feedJoins_holds : Rows.FeedJoinsSaid := feedJoins.over
#print axioms feedJoins_holds
end Go.Proofs.YtdhbakknplnnkaaGreat
