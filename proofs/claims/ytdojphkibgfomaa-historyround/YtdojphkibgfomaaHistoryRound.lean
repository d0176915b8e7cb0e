/-
  HistoryRound: a packet is found by its lower 16 bits, however many were sent ahead of it.
-/
import Derived.Test.YtdojphkibgfomaaRows
import Derived.WalkKit
import Derived.ProofKit
import Derived.OpenShut
import Derived.ShutString
import Derived.ChangeOld
import Derived.Below
import Derived.Deep.Slices
import Derived.Test.YtdojphkibgfomaaHiX
namespace Go.Proofs.Ytdojphkibgfomaa.historyRound
open Go.ChangeShapes Go.WideShapes Go.ChangeAt Go.RowKit
open Go.ChangeMaps (open_string shut_string)
set_option linter.unusedVariables false

theorem own : ownKnob Try.prog.godebug = none := by kernel_rfl
theorem laidOut : laidOutB Try.prog = true := by kernel_rfl

set_option maxRecDepth 100000 in
set_option maxHeartbeats 4000000 in
theorem walk (a0 : Int) (a1 : Int) (w : World) (w0 : (Lit.int .u16 a0).wf = true) (w1 : (Lit.int .u16 a1).wf = true) : Calls Try.prog 5 #[.int .u16 a0, .int .u16 a1] w fun e w' => e = .returned (.bool true) ∧ Below w.heap.size w w' := by
  have b0 := bounds_u16 w0
  have b1 := bounds_u16 w1
  clear w0 w1
  have N := mkHid (new_any 10 (by omega) (by omega))
  have WK := mkHid wakes_any
  obtain ⟨B, HB⟩ : ∃ B, Hid (w.heap.size = B) := ⟨_, rfl⟩
  rw [HB.out]
  obtain ⟨n, HN⟩ : ∃ n : Nat, Hid ((65000 + a0 % 2000) = (n : Int) ∧ 65000 ≤ n ∧ n < 67000) := ⟨(65000 + a0 % 2000).toNat, by omega, by omega, by omega⟩
  obtain ⟨d, HD⟩ : ∃ d : Int, Hid (a1 % 10 = d ∧ 0 ≤ d ∧ d < 10) := ⟨_, rfl, by omega, by omega⟩
  obtain ⟨hn1, hn2⟩ := HN.out.2
  obtain ⟨hd1, hd2⟩ := HD.out.2
  have hn1' : (65000 : Int) ≤ n := by omega
  have hn2' : (n : Int) < 67000 := by omega
  have HNE := mkHid HN.out.1
  have HDE := mkHid HD.out.1
  go_enter Try.func5, Try.ntmps5
  go_wp2_with fail
  refine (N.out _).mono ?_
  rintro e v1 ⟨⟨hb, mb, rfl, h1, hb0, mb0⟩, a1'⟩
  rw [HB.out] at hb0 mb0
  have A1 := mkHid (a1'.mono (Y := fun k => k = hb ∨ k = mb) (fun _ _ h => h.elim))
  have R0 := mkHid (show Hs v1 hb mb 10 ((0 : Nat) : Int) 0 (RL 0) ∧ Ok ((0 : Nat) : Int) 0 (RL 0) from ⟨h1, Ok.nil (by omega) (by omega) (by omega)⟩)
  clear a1' h1
  go_wp2
  rw [HNE.out]
  go_loopw [8, 9, 10] (fun x _ _ wr => ∃ (k : Nat) (la : Int), k ≤ n ∧ x = .int .i64 (k : Int) ∧ la ≤ k ∧ Hs wr hb mb 10 (k : Int) la (RL k) ∧ Ok (k : Int) la (RL k) ∧ Apart (fun k => k = hb ∨ k = mb) w wr) (fun x _ _ _ => n - (intOf x).toNat)
  case atStart => exact ⟨0, 0, by omega, rfl, by omega, R0.out.1, R0.out.2, A1.out⟩
  case round =>
    obtain ⟨k, la, hk, rfl, hla, hs, ok, ha⟩ := hrel
    have HS := mkHid hs
    have OK := mkHid ok
    have HA := mkHid ha
    have la0 := ok.la0
    have hlen := RL_len (by omega) ok.rise
    clear hs ok ha
    by_cases hlt : k < n
    · have k0 : (0 : Int) ≤ k := by omega
      have k1 : (k : Int) < n := by omega
      have S := mkHid (send_fit HS.out OK.out 1 (k : Int) ((k : Int) % 65536) (by unfold sndE; repeat' split <;> omega) (by omega) rfl)
      have O3 := mkHid (OK.out.send 1 (k : Int) (by omega) (by omega) (by omega) (by omega) (by omega))
      clear hlen
      go_wp2_with fail
      refine S.out.mono ?_
      rintro e w3 ⟨rfl, h3, a3⟩
      have A3 := mkHid (HA.out.trans a3 (fun _ _ h => h))
      have EX := mkHid (expire_any h3 O3.out (by omega) (k : Int) (by omega) (by omega))
      clear h3 a3
      go_wp2_with fail
      refine EX.out.mono ?_
      rintro e w4 ⟨v, rfl, -, h4, a4⟩
      have H4 := mkHid h4
      have A4 := mkHid (A3.out.trans a4 (fun _ _ h => h))
      have O4 := mkHid (O3.out.filter fun s => !exB 10 (k : Int) s)
      clear h4 a4
      go_wp2
      go_roundw
      case rel => exact ⟨k + 1, k, by omega, by go_num, by omega, by rw [Int.natCast_add, Int.natCast_one]; exact H4.out, by rw [Int.natCast_add, Int.natCast_one]; exact O4.out, A4.out⟩
      case measure => simp [intOf]; omega
    · obtain rfl : k = n := by omega
      have hlt2 := HS.out.lt
      obtain ⟨q1, Hq1⟩ : ∃ q, Hid (((k : Int) - 1 - d) % 65536 = q) := ⟨_, rfl⟩
      obtain ⟨q2, Hq2⟩ : ∃ q, Hid (((k : Int) - 1 - d + 32000) % 65536 = q) := ⟨_, rfl⟩
      have A4 := mkHid (HA.out.alloc (.cells #[.int .i64 q1, .bool true, .int .i64 7, .bool false, .bool false, .int .i64 q2, .bool true, .int .i64 0, .bool false, .bool false] 62))
      have H4 := mkHid (HS.out.kept ((Apart.refl (fun _ => False) wr).alloc (.cells #[.int .i64 q1, .bool true, .int .i64 7, .bool false, .bool false, .int .i64 q2, .bool true, .int .i64 0, .bool false, .bool false] 62)) (fun h => h) (fun h => h))
      have R4 := mkHid (ra_two wr hb mb ⟨q1, true, 7, false, false⟩ ⟨q2, true, 0, false, false⟩ 62 hlt2.1 hlt2.2)
      have HE := mkHid (hear_any H4.out OK.out (by omega) _ 2 [⟨q1, true, 7, false, false⟩, ⟨q2, true, 0, false, false⟩] 0 R4.out (by simp))
      obtain ⟨j, hj⟩ : ∃ j : Nat, (j : Int) = (k : Int) - 1 - d := ⟨((k : Int) - 1 - d).toNat, by omega⟩
      have f1 : fd (k : Int) (RL k) q1 = some ((j : Int), 1, (j : Int)) := by
        unfold fd
        rw [nr_low (k : Int) d hd1 (by omega) q1 Hq1.out.symm, ← hj]
        exact find_key (s := ((j : Int), 1, (j : Int))) OK.out.rise ((RL_mem k (by omega) _).2 ⟨j, by omega, by omega, rfl⟩)
      have f2 : fd (k : Int) ((RL k).filter fun u => u.1 != (j : Int)) q2 = none := by
        unfold fd
        rw [nr_high (k : Int) d hd1 (by omega) q2 Hq2.out.symm, List.find?_eq_none]
        intro s hs
        have := OK.out.num s (List.mem_filter.1 hs).1
        simp; omega
      have e1 : hrG (k : Int) (RL k) [⟨q1, true, 7, false, false⟩, ⟨q2, true, 0, false, false⟩] = [⟨((j : Int), 1, (j : Int)), 7, false, false⟩] := by
        simp only [hrG, f1, f2, if_true]; rfl
      have e2 : hrL (k : Int) (RL k) [⟨q1, true, 7, false, false⟩, ⟨q2, true, 0, false, false⟩] = [] := by
        simp only [hrL, f1, f2, if_true]
      rw [e1, e2] at HE
      clear e1 e2 f1 f2 hlen
      have i1 : IntKind.i64.wrap ((k : Int) - 1) = (k : Int) - 1 := by rw [IntKind.wrap_i64]; omega
      go_wp2_with fail
      rw [HDE.out, Hq1.out, Hq2.out, ← hj]
      clear i1 hj
      refine HE.out.mono ?_
      rintro e w6 ⟨vg, vl, rfl, h6⟩
      obtain ⟨g, gc, hv, -, c0, c1, c2, c3, -⟩ := got_at h6.og rfl (k := 0) rfl
      obtain ⟨g2, k2, hl⟩ := ownsRow_slice h6.ol
      subst hv hl
      simp only [Nat.zero_mul, Nat.zero_add] at c0 c1 c2 c3
      have NX := mkHid (next_any h6.hs)
      have A6 := mkHid (below_of (A4.out.trans h6.ap (fun _ _ h => h)) (Nat.le_of_eq HB.out.symm) hb0 mb0)
      clear h6
      go_wp2_with (first
        | (go_at_call 24; refine NX.out.mono ?_; rintro e w7 ⟨rfl, rfl⟩)
        | (go_at_call 26; refine (WK.out _).mono ?_; rintro e w8 ⟨rfl, b8⟩))
      go_ret
      exact ⟨rfl, A6.out.trans (b8.mono (by rw [← HB.out]; exact A6.out.size))⟩

set_option maxRecDepth 100000 in
theorem lifted (os : Os) (started : os.Started) (H : Type) (enc : TypeId × Value → H) :
    ReturnsInHanded {} Try.checked os 5 .any (Rows.historyRoundSpec.pre6 enc Try.prog Try.f5 Rows.historyRoundRow.domain false) (Rows.historyRoundSpec.post enc Try.prog Try.f5 false true false false) := by
  refine returnsInHanded_of_change (C := Try.checked) own started (by kernel_rfl) Try.func5
    (ChangeSpec.witness6 (enc := enc) (C := Try.checked) false ⟨#[], #[.int .u16 0, .int .u16 0], []⟩ 8 (by kernel_rfl) (by kernel_rfl) (by kernel_rfl) (by kernel_rfl)) ?_
  intro W base args ds gs before hval0 hW hcnd _
  have hval : ∀ (j : Nat) t v, Try.f5.params[j]? = some t → args[j]? = some v → Value.okWide Try.prog W .any base t v := hval0
  have hW' := hW
  obtain ⟨p, q, hA0, hV, rfl, hfz, hnd⟩ := hW
  have hA : DataW.TrodAll enc Try.prog W 0 (fun _ => true) true Try.f5.params.toList args.toList ds p := hA0
  rw [Try.params5] at hA hval
  obtain ⟨v0, vs0, d0, ds0, p0, q0, hargs, rfl, rfl, h0, r0⟩ := trodAll_cons hA
  obtain ⟨v1, vs1, d1, ds1, p1, q1, rfl, rfl, rfl, h1, r1⟩ := trodAll_cons r0
  obtain ⟨rfl, rfl, rfl⟩ := trodAll_nil r1
  obtain rfl : args = #[v0, v1] := by cases args; simp_all
  obtain ⟨rfl, rfl⟩ := trodVars_none hV
  obtain ⟨a0, rfl, rfl, rfl, w0⟩ := open_int Try.underlying60 (hval 0 60 v0 rfl rfl) h0
  obtain ⟨a1, rfl, rfl, rfl, w1⟩ := open_int Try.underlying60 (hval 1 60 v1 rfl rfl) h1
  clear hA0 hval0
  refine (walk a0 a1 W w0 w1).mono fun e W' ⟨he, bel⟩ => ?_
  subst he
  exact ⟨_, rfl, _, _, _, [], _, [], hW', trodAll_mk1 (shut_bool Try.underlying4 _), (trodAll_cons_mk (shut_int Try.underlying60 w0) (trodAll_cons_mk (shut_int Try.underlying60 w1) trodAll_mk0)), rfl, bel.frame _, fun h => by cases h⟩

theorem over : Rows.historyRoundRow.holds Try.pinned (OpenSpec.ofChange Rows.historyRoundSpec) :=
  OpenClaim.holds_of_wide 5 Try.f5 rfl rfl rfl rfl rfl rfl rfl ⟨rfl, rfl, rfl, rfl, rfl⟩ rfl rfl rfl rfl rfl (by kernel_rfl) Try.func5 (by kernel_rfl)
    (of_decide_eq_true (by kernel_rfl)) (by unfold Func.isWrapper; first | (rw [if_pos (by decide +kernel)]; kernel_rfl) | (rw [if_neg (by decide +kernel)]; exact ⟨rfl, rfl⟩))
    (fun os started H enc _ => lifted os started H enc)
end Go.Proofs.Ytdojphkibgfomaa.historyRound
namespace Go.Proofs.Ytdojphkibgfomaa
/-- The statement. -/
theorem historyRound_holds : Rows.HistoryRoundSaid := historyRound.over
#print axioms historyRound_holds
end Go.Proofs.Ytdojphkibgfomaa
