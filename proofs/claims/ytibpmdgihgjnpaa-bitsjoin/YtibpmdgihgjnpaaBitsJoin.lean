/-
  BitsJoin: so many bits and so many behind them are, read together, one number.
-/
import Derived.Test.YtibpmdgihgjnpaaRows
import Derived.WalkKit
import Derived.ProofKit
import Derived.OpenShut
import Derived.ShutString
import Derived.Test.YtibpmdgihgjnpaaBiK
import Derived.ChangeOld
import Derived.Below
namespace Go.Proofs.Ytibpmdgihgjnpaa.bitsJoin
open Go.ChangeShapes Go.WideShapes Go.ChangeAt Go.RowKit
open Go.ChangeMaps (open_string shut_string)
set_option linter.unusedVariables false

theorem own : ownKnob Try.prog.godebug = none := by kernel_rfl

theorem laidOut : laidOutB Try.prog = true := by kernel_rfl

theorem q_nat (a : Int) (m : Nat) (hm : 0 < m) : ∃ q : Nat, (IntKind.u64.wrap a).tmod m = (q : Int) ∧ q < m := by
  have h : 0 ≤ IntKind.u64.wrap a := by rw [IntKind.wrap_u64]; omega
  have h1 := Int.tmod_nonneg (m : Int) h
  have h2 := Int.tmod_lt_of_pos (IntKind.u64.wrap a) (show (0 : Int) < m by omega)
  exact ⟨((IntKind.u64.wrap a).tmod m).toNat, by omega, by omega⟩
theorem join (s : ByteArray) (n m : Nat) (h : n + m ≤ 32) : bits .or .u32 ((gv s 0 n : Int) * 2 ^ m % 4294967296) (gv s n m : Int) = (gv s 0 (n + m) : Int) := by
  have g1 := gv_lt s 0 n
  have g2 := gv_lt s n m
  have p1 : gv s 0 n * 2 ^ m < 2 ^ (n + m) := by rw [Nat.pow_add]; exact Nat.mul_lt_mul_of_pos_right g1 (Nat.two_pow_pos _)
  have p2 : 2 ^ (n + m) ≤ 2 ^ 32 := Nat.pow_le_pow_right (by decide) h
  have p3 : 2 ^ m ≤ 2 ^ 32 := Nat.pow_le_pow_right (by decide) (by omega)
  have e2 : ((gv s 0 n : Int) * 2 ^ m % 4294967296) = ((gv s 0 n * 2 ^ m : Nat) : Int) := by
    have : ((gv s 0 n : Int) * 2 ^ m) = ((gv s 0 n * 2 ^ m : Nat) : Int) := by simp
    rw [this]; omega
  rw [e2, u32_or_nat _ _ (by omega) (by omega), or_add _ _ _ g2, gv_add, Nat.zero_add]
theorem g_in (s : ByteArray) (p n : Nat) (h1 : n ≤ 32) (h2 : p + n ≤ 8 * s.size) : gval s (some p) n = (gv s p n : Int) ∧ gnext s (some p) n = some (p + n) := by
  have hc : 0 ≤ (n : Int) ∧ (n : Int) ≤ 32 ∧ (p : Int) + n ≤ 8 * s.size := by omega
  exact ⟨by simp only [gval]; rw [if_pos hc]; rfl, by simp only [gnext]; rw [if_pos hc]; rfl⟩
theorem g_out (s : ByteArray) (p n : Nat) (h2 : 8 * s.size < p + n) : gval s (some p) n = 0 ∧ gnext s (some p) n = none := by
  have hc : ¬ (0 ≤ (n : Int) ∧ (n : Int) ≤ 32 ∧ (p : Int) + n ≤ 8 * s.size) := by omega
  exact ⟨by simp only [gval]; rw [if_neg hc], by simp only [gnext]; rw [if_neg hc]⟩
set_option maxRecDepth 100000 in
set_option maxHeartbeats 1000000 in
theorem walk (a0 : ByteArray) (a1 : Int) (a2 : Int) (w0 : a0.size ≤ maxLen) (w1 : (Lit.int .i64 a1).wf = true) (w2 : (Lit.int .i64 a2).wf = true) (w : World) :
    Calls Try.prog 8 #[.string a0, .int .i64 a1, .int .i64 a2] w fun e w' => e = .returned (.bool true) ∧ Below w.heap.size w w' := by
  clear w1 w2
  unfold maxLen at w0
  by_cases hs : 70000 < a0.size
  · go_enter Try.func8, Try.ntmps8
    go_wp2_with fail
    refine (wakes_any _).mono ?_
    rintro e w2 ⟨rfl, hb⟩
    go_wp2
    go_ret
    exact ⟨rfl, hb⟩
  · have hs1 : a0.size ≤ 1000000 := by omega
    obtain ⟨n, hn, hn1⟩ := q_nat a1 17 (by decide)
    obtain ⟨m, hm, hm1⟩ := q_nat a2 16 (by decide)
    simp only [Int.cast_ofNat_Int] at hn hm
    go_enter Try.func8, Try.ntmps8
    go_wp2_with fail
    refine (read_any _ _).mono ?_
    rintro e w1 ⟨rfl, h1, p1, s1⟩
    have H1 := mkHid h1
    have B1 := mkHid (p1.belowF w.heap.size (Nat.le_refl _))
    clear h1 p1
    go_wp2_with fail
    refine (read_any _ _).mono ?_
    rintro e w2 ⟨rfl, h2, p2, s2⟩
    have H2 := mkHid h2
    have HX := mkHid (H1.out.kept p2 (fun h => h))
    have B2 := mkHid (B1.out.trans (p2.belowF w.heap.size (by omega)))
    generalize hrb : w.heap.size = rb at *
    generalize hqb : w1.heap.size = qb at *
    have hne : rb < qb := by omega
    have z2 : rb ≤ w2.heap.size := by omega
    have HRB := mkHid hrb
    clear h2 p2 H1 B1 s1 s2 hrb hqb
    go_wp2_with fail
    refine (get_any _ _ hs1 _ _ _ HX.out).mono ?_
    rintro e w3 ⟨rfl, h3, p3⟩
    have H3 := mkHid h3
    have HY := mkHid (H2.out.kept p3 (by omega))
    have B3 := mkHid (B2.out.trans (p3.belowE rb z2 (Nat.le_refl _)))
    have z3 : rb ≤ w3.heap.size := by have := p3.size; omega
    clear h3 p3
    go_wp2_with fail
    refine (get_any _ _ hs1 _ _ _ H3.out).mono ?_
    rintro e w4 ⟨rfl, h4, p4⟩
    have H4 := mkHid h4
    have HZ := mkHid (HY.out.kept p4 (by omega))
    have B4 := mkHid (B3.out.trans (p4.belowE rb z3 (Nat.le_refl _)))
    have z4 : rb ≤ w4.heap.size := by have := p4.size; omega
    clear h4 p4
    go_wp2_with fail
    refine (get_any _ _ hs1 _ _ _ HZ.out).mono ?_
    rintro e w5 ⟨rfl, h5, p5⟩
    have H5 := mkHid h5
    have HR := mkHid (H4.out.kept p5 (by omega))
    have B5 := mkHid (B4.out.trans (p5.belowE rb z4 (by omega)))
    have z5 : rb ≤ w5.heap.size := by have := p5.size; omega
    clear h5 p5 HX HY HZ H3 H4 B2 B3 B4 H2
    by_cases hlt : 8 * a0.size < n + m
    · have h8 : 8 * (a0.size : Int) < (n : Int) + m := by omega
      obtain ⟨g1, g2⟩ := g_out a0 0 (n + m) (by omega)
      simp only [Int.natCast_add] at g1 g2
      have hbad := H5.out
      rw [g2] at hbad
      rw [g1]
      have HB := mkHid hbad
      clear H5 HR hbad g1 g2
      generalize gval a0 (some 0) n = X
      generalize gval a0 (gnext a0 (some 0) n) m = Y
      go_wp2_with fail
      refine (bad_any _ _ _ _ HB.out).mono ?_
      rintro e w6 ⟨rfl, rfl⟩
      unfold gbad
      go_wp2_with fail
      refine (wakes_any _).mono ?_
      rintro e w7 ⟨rfl, hb7⟩
      go_wp2
      go_ret
      exact ⟨rfl, by rw [HRB.out]; exact B5.out.trans (hb7.mono z5)⟩
    · have h8 : ¬ 8 * (a0.size : Int) < (n : Int) + m := by omega
      obtain ⟨g1, g2⟩ := g_in a0 0 n (by omega) (by omega)
      obtain ⟨g3, g4⟩ := g_in a0 n m (by omega) (by omega)
      obtain ⟨g5, g6⟩ := g_in a0 0 (n + m) (by omega) (by omega)
      simp only [Int.natCast_add, Nat.zero_add] at g2 g5 g6
      have hR := HR.out
      rw [g2, g4] at hR
      have hQ := H5.out
      rw [g6] at hQ
      rw [g1, g2, g3, g5]
      have HJ := mkHid (join a0 n m (by omega))
      have HRR := mkHid hR
      have HQQ := mkHid hQ
      clear H5 HR hR hQ g1 g2 g3 g4 g5 g6
      rw [← HJ.out]
      go_wp2_with fail
      refine (left_any _ _ hs1 _ _ HRR.out).mono ?_
      rintro e w6 ⟨rfl, n6, rfl⟩
      go_wp2_with fail
      refine (left_any _ _ hs1 _ _ (drew_rd n6 HQQ.out)).mono ?_
      rintro e w7 ⟨rfl, n7, rfl⟩
      go_wp2_with fail
      refine (wakes_any _).mono ?_
      rintro e w8 ⟨rfl, hb8⟩
      go_wp2
      go_ret
      exact ⟨rfl, by rw [HRB.out]; exact B5.out.trans ((((Apart.refl (fun _ => False) w5).drewN (n6 + n7)).belowF rb z5).trans (hb8.mono z5))⟩

set_option maxRecDepth 100000 in
theorem lifted (os : Os) (started : os.Started) (H : Type) (enc : TypeId × Value → H) :
    ReturnsInHanded {} Try.checked os 8 .any (Rows.bitsJoinSpec.pre6 enc Try.prog Try.f8 Rows.bitsJoinRow.domain false) (Rows.bitsJoinSpec.post enc Try.prog Try.f8 false true false false) := by
  refine returnsInHanded_of_change (C := Try.checked) own started (by kernel_rfl) Try.func8
    (ChangeSpec.witness6 (enc := enc) (C := Try.checked) false ⟨#[], #[.string ByteArray.empty, .int .i64 0, .int .i64 0], []⟩ 8 (by kernel_rfl) (by kernel_rfl) (by kernel_rfl) (by kernel_rfl)) ?_
  intro W base args ds gs before hval0 hW hcnd _
  have hval : ∀ (j : Nat) t v, Try.f8.params[j]? = some t → args[j]? = some v → Value.okWide Try.prog W .any base t v := hval0
  have hW' := hW
  obtain ⟨p, q, hA0, hV, rfl, hfz, hnd⟩ := hW
  have hA : DataW.TrodAll enc Try.prog W 0 (fun _ => true) true Try.f8.params.toList args.toList ds p := hA0
  rw [Try.params8] at hA hval
  obtain ⟨v0, vs0, d0, ds0, p0, q0, hargs, rfl, rfl, h0, r0⟩ := trodAll_cons hA
  obtain ⟨v1, vs1, d1, ds1, p1, q1, rfl, rfl, rfl, h1, r1⟩ := trodAll_cons r0
  obtain ⟨v2, vs2, d2, ds2, p2, q2, rfl, rfl, rfl, h2, r2⟩ := trodAll_cons r1
  obtain ⟨rfl, rfl, rfl⟩ := trodAll_nil r2
  obtain rfl : args = #[v0, v1, v2] := by cases args; simp_all
  obtain ⟨rfl, rfl⟩ := trodVars_none hV
  obtain ⟨a0, rfl, rfl, rfl, w0⟩ := open_string Try.underlying9 (hval 0 9 v0 rfl rfl) h0
  obtain ⟨a1, rfl, rfl, rfl, w1⟩ := open_int Try.underlying3 (hval 1 3 v1 rfl rfl) h1
  obtain ⟨a2, rfl, rfl, rfl, w2⟩ := open_int Try.underlying3 (hval 2 3 v2 rfl rfl) h2
  clear hA0 hval0
  refine (walk a0 a1 a2 w0 w1 w2 W).mono fun e W' ⟨he, bel⟩ => ?_
  subst he
  exact ⟨_, rfl, _, _, _, [], _, [], hW', trodAll_mk1 (shut_bool Try.underlying4 _), (trodAll_cons_mk (shut_string Try.underlying9 w0) (trodAll_cons_mk (shut_int Try.underlying3 w1) (trodAll_cons_mk (shut_int Try.underlying3 w2) trodAll_mk0))), rfl, bel.frame _, fun h => by cases h⟩

theorem over : Rows.bitsJoinRow.holds Try.pinned (OpenSpec.ofChange Rows.bitsJoinSpec) :=
  OpenClaim.holds_of_wide 8 Try.f8 rfl rfl rfl rfl rfl rfl rfl ⟨rfl, rfl, rfl, rfl, rfl⟩ rfl rfl rfl rfl rfl (by kernel_rfl) Try.func8 (by kernel_rfl)
    (of_decide_eq_true (by kernel_rfl)) (by unfold Func.isWrapper; first | (rw [if_pos (by decide +kernel)]; kernel_rfl) | (rw [if_neg (by decide +kernel)]; exact ⟨rfl, rfl⟩))
    (fun os started H enc _ => lifted os started H enc)
end Go.Proofs.Ytibpmdgihgjnpaa.bitsJoin
namespace Go.Proofs.Ytibpmdgihgjnpaa
/-- The statement. -/
theorem bitsJoin_holds : Rows.BitsJoinSaid := bitsJoin.over
#print axioms bitsJoin_holds
end Go.Proofs.Ytibpmdgihgjnpaa
