/-
  HistoryExpires: just what was sent longer ago than the timeout is given up, the oldest first; nothing twice.
-/
import Derived.Test.YtdojphkibgfomaaRows
import Derived.WalkKit
import Derived.ProofKit
import Derived.OpenShut
import Derived.ShutString
import Derived.ChangeOld
import Derived.Below
import Derived.Deep.Slices
import Derived.Test.YtdojphkibgfomaaHiY
namespace Go.Proofs.Ytdojphkibgfomaa.historyExpires
open Go.ChangeShapes Go.WideShapes Go.ChangeAt Go.RowKit
open Go.ChangeMaps (open_string shut_string)
set_option linter.unusedVariables false

theorem own : ownKnob Try.prog.godebug = none := by kernel_rfl
theorem laidOut : laidOutB Try.prog = true := by kernel_rfl

theorem open1 {H : Type} {enc : TypeId × Value → H} {W : World} {a : Option Addr} {len cap : Nat} {d : DataW H} {p : List MemPlace}
    (h : DataW.Trod enc Try.prog W 0 (fun _ => true) true 66 (.slice a len cap) d p) : By W a len := open_by h
set_option maxRecDepth 100000 in
set_option maxHeartbeats 4000000 in
theorem walk (a0 : Int) (a1 : Option Addr) (len1 cap1 : Nat) (a2 : Int) (w : World) (w0 : (Lit.int .u16 a0).wf = true) (w1 : By w a1 len1) (w2 : (Lit.int .u16 a2).wf = true) : Calls Try.prog 8 #[.int .u16 a0, .slice a1 len1 cap1, .int .u16 a2] w fun e w' => e = .returned (.bool true) ∧ Below w.heap.size w w' := by
  have b0 := bounds_u16 w0
  have b2 := bounds_u16 w2
  obtain ⟨hlen, G, hG, hrow⟩ := w1
  clear w0 w2
  have HGG := mkHid hG
  have HROW := mkHid hrow
  have hlen' : (len1 : Int) ≤ 9223372036854775807 := by unfold maxLen at hlen; omega
  clear hG hrow hlen
  have WK := mkHid wakes_any
  have N := mkHid (new_any (1 + a0) (by omega) (by omega))
  obtain ⟨i0, hi, hz0, hz1, hz2⟩ := info2
  obtain ⟨B, HB⟩ : ∃ B, Hid (w.heap.size = B) := ⟨_, rfl⟩
  rw [HB.out]
  obtain ⟨m, HM⟩ : ∃ m : Nat, Hid (m ≤ 300 ∧ m ≤ len1 ∧ (m = 300 ∨ m = len1)) := by
    by_cases h : len1 ≤ 300
    · exact ⟨len1, h, Nat.le_refl _, .inr rfl⟩
    · exact ⟨300, Nat.le_refl _, by omega, .inl rfl⟩
  obtain ⟨hm1, hm2, hm3⟩ := HM.out
  go_enter Try.func8, Try.ntmps8
  go_wp2_with fail
  refine (N.out _).mono ?_
  rintro e v1 ⟨⟨hb, mb, rfl, h1, hb0, mb0⟩, a1'⟩
  rw [HB.out] at hb0 mb0
  have A1 := mkHid a1'
  have H1 := mkHid h1
  have hlt1 := h1.lt
  have hB1 : B ≤ v1.heap.size := by rw [← HB.out]; exact a1'.size
  have R0 := mkHid (show Hs v1 hb mb (1 + a0) ((0 : Nat) : Int) (gS G 0) (XL G 0) ∧ Ok ((0 : Nat) : Int) (gS G 0) (XL G 0) from ⟨h1, Ok.nil (by omega) (by show (0 : Int) ≤ 0; omega) (by show (0 : Int) ≤ _; omega)⟩)
  clear a1' h1
  go_wp2
  go_loopw [10, 11, 12, 13, 14] (fun x v y _ _ wr => ∃ k : Nat, k ≤ m ∧ x = .int .i64 (gS G k) ∧ y = .int .i64 (k : Int) ∧ v1.heap.size ≤ wr.heap.size ∧ wr.ownsRow v1.heap.size 2 1 v k (TC G k) ∧ Hs wr hb mb (1 + a0) (k : Int) (gS G k) (XL G k) ∧ Ok (k : Int) (gS G k) (XL G k) ∧ Apart (fun k => k = hb ∨ k = mb) v1 wr) (fun _ _ y _ _ _ => m - (intOf y).toNat)
  case atStart => exact ⟨0, by omega, rfl, rfl, Nat.le_refl _, World.ownsRow_nil _ _ _ _, R0.out.1, R0.out.2, Apart.refl _ _⟩
  case round =>
    obtain ⟨k, hk, rfl, rfl, hz, ho, hs, ok, ha⟩ := hrel
    obtain ⟨ad, cp, hv⟩ := ownsRow_slice ho
    subst hv
    have HZ := mkHid hz
    have HO := mkHid ho
    have HS := mkHid hs
    have OK := mkHid ok
    have HA := mkHid ha
    have gb := gS_bd G HGG.out k
    have gb2 := HGG.out k
    clear hz ho hs ok ha
    by_cases hlt : k < m
    · have k0 : (0 : Int) ≤ k := by omega
      have k1 : (k : Int) < len1 := by omega
      have k2 : (k : Int) < 300 := by omega
      obtain ⟨b, off, rfl, hb', hc⟩ : ∃ b off, a1 = some ⟨b, off, none⟩ ∧ b < w.heap.size ∧ ∀ i, i < len1 → w.cell? ⟨b, off + i, none⟩ = some (.int .u8 (G i)) := by
        rcases HROW.out with h | h
        · omega
        · exact h
      have c0 : wr.cell? ⟨b, off + k, none⟩ = some (.int .u8 (G k)) := by
        rw [HA.out.cell (p := ⟨b, off + k, none⟩) (by have := A1.out.size; simp only; omega) (by rintro (e | e) <;> (simp only at e; rw [HB.out] at hb'; omega)), A1.out.cell (p := ⟨b, off + k, none⟩) hb' (fun h => h)]
        exact hc k (by omega)
      obtain ⟨g1, HG1⟩ : ∃ x, Hid (gS G k = x) := ⟨_, rfl⟩
      obtain ⟨gk, HGK⟩ : ∃ x, Hid (G k = x) := ⟨_, rfl⟩
      have HG2 := mkHid (show gS G (k + 1) = g1 + gk by rw [← HG1.out, ← HGK.out]; rfl)
      have S := mkHid (send_fit HS.out OK.out 1 (g1 + gk) (k : Int) (by rw [XL_len, HG1.out]; unfold sndE; rw [HG1.out] at gb; rw [HGK.out] at gb2; repeat' split <;> omega) (by omega) (by omega))
      have O3 := mkHid (OK.out.send 1 (g1 + gk) (by omega) (by omega) (by rw [HG1.out]; rw [HGK.out] at gb2; omega) (by rw [HG1.out] at gb; rw [HGK.out] at gb2; omega) (by rw [XL_len]; omega))
      rw [HG1.out] at gb ⊢
      rw [HGK.out] at gb2 c0
      clear hc
      go_wp2_with fail
      refine S.out.mono ?_
      rintro e w3 ⟨rfl, h3, a3⟩
      have A3 := mkHid (HA.out.trans a3 (fun _ _ h => h))
      have H3 := mkHid (h3.kept ((Apart.refl (fun _ => False) w3).alloc (.cells #[.int .i64 (g1 + gk)] 2)) (fun h => h) (fun h => h))
      have O5 := mkHid (ownsRow_apart2 (ownsRow_apart2 HO.out a3 (fun k hk e => by have := (HO.out.lt k hk).1; omega)) ((Apart.refl (fun _ => False) w3).alloc (.cells #[.int .i64 (g1 + gk)] 2)) (fun _ _ h => h))
      have hsz := Nat.le_trans HZ.out a3.size
      clear h3 a3 c0
      go_wp2_with (at_builtin; refine wpList_append_told _ rfl (.tmp 54) (.tmp 56) 67 rfl v1.heap.size 2 i0 _ 1 8 Try.underlying67 hi hz0 hz1 hz2 rfl (by decide) _ k (TC G k) rfl O5.out (.slice (some ⟨w3.heap.size, 0, none⟩) 1 1) 1 [.int .i64 (g1 + gk)] rfl (src_new w3 [.int .i64 (g1 + gk)] 2 1 rfl) (by intro u hu; rw [List.mem_singleton] at hu; subst hu; rfl) (by unfold maxLen; omega) (by omega) (by simp; omega) ?_; intro v6 w6 hown hgr hx; have O6 := mkHid hown; have G6 := mkHid hgr; clear hown hgr hx)
      have B6 := mkHid (show Apart (fun k => v1.heap.size ≤ k) w3 w6 from ((Apart.refl (fun k => v1.heap.size ≤ k) w3).alloc (.cells #[.int .i64 (g1 + gk)] 2)).grown G6.out (fun k hk e => (HO.out.lt k e).1))
      have H6 := mkHid (H3.out.kept (grown_apart' G6.out) (fun e => by have := (HO.out.lt _ e).1; omega) (fun e => by have := (HO.out.lt _ e).1; omega))
      go_roundw
      case rel =>
        have q1 := H6.out
        have q2 := O3.out
        rw [← HG2.out] at q1 q2
        refine ⟨k + 1, by omega, by rw [HG2.out], by go_num, Nat.le_trans hsz B6.out.size, ?_, by rw [Int.natCast_add, Int.natCast_one]; exact q1, by rw [Int.natCast_add, Int.natCast_one]; exact q2, A3.out.trans B6.out (fun i hi e => by omega)⟩
        simp only [TC, HG2.out]
        exact O6.out
      case measure => simp [intOf]; omega
    · obtain rfl : k = m := by omega
      have FL := mkHid hm3
      go_wp2_with fail
      all_goals
        obtain ⟨t, HT⟩ : ∃ t, Hid (gS G k + a2 = t) := ⟨_, rfl⟩
        rw [HT.out]
        have ht0 : 0 ≤ t := by have := HT.out; omega
        have ht1 : t ≤ 1000000 := by have := HT.out; omega
        have EX := mkHid (expire_any HS.out OK.out (by omega) t (by omega) (by omega))
        refine EX.out.mono ?_
        rintro e w3 ⟨v, rfl, ho3, h3, a3⟩
        obtain ⟨ad3, cp3, hv3⟩ := ownsRow_slice ho3
        subst hv3
        have OS := mkHid (show w3.ownsRow v1.heap.size 2 1 (.slice ad k cp) k (TC G k) from ownsRow_apart2 HO.out a3 (fun j hj e => by have := (HO.out.lt j hj).1; omega))
        have O3 := mkHid ho3
        have H3 := mkHid h3
        have A3 := mkHid (HA.out.trans a3 (fun _ _ h => h))
        have K3 := mkHid (OK.out.filter fun s => !exB (1 + a0) t s)
        obtain ⟨q, HQ⟩ : ∃ q, Hid ((exO (1 + a0) t (XL G k)).length = q) := ⟨_, rfl⟩
        rw [HQ.out] at O3 ⊢
        have hsz3 := Nat.le_trans HZ.out a3.size
        clear ho3 h3 a3 EX
        go_wp2
        go_loopw [17] (fun x wr => ∃ n : Nat, n ≤ k ∧ x = .int .i64 (n : Int) ∧ wr = w3 ∧ ∀ j, j < n → 1 + a0 < t - gS G (j + 1)) (fun x _ => k - (intOf x).toNat)
        case atStart => exact ⟨0, Nat.zero_le _, rfl, rfl, fun j hj => by omega⟩
        case round =>
          obtain ⟨n, hn, rfl, hwr, hall⟩ := hrel
          obtain rfl := hwr.symm
          have HALL := mkHid hall
          clear hall
          have n0 : (0 : Int) ≤ n := by omega
          by_cases hc : n < k ∧ 1 + a0 < t - gS G (n + 1)
          · obtain ⟨hnk, hy⟩ := hc
            have n1 : (n : Int) < k := by omega
            obtain ⟨g, cap, hv, -, d0⟩ := row_at OS.out (TC_get G hnk)
            obtain ⟨rfl, rfl⟩ : ad = some ⟨g, 0, none⟩ ∧ cp = cap := by simpa using hv
            have HA2 := mkHid (show ∀ j, j < n + 1 → 1 + a0 < t - gS G (j + 1) from fun j hj => by
              by_cases e : j < n
              · exact HALL.out j e
              · obtain rfl : j = n := by omega
                exact hy)
            have gy := gS_bd G HGG.out (n + 1)
            obtain ⟨y, HY⟩ : ∃ y, Hid (gS G (n + 1) = y) := ⟨_, rfl⟩
            rw [HY.out] at d0 hy gy
            clear hv
            go_wp2
            go_roundw
            case rel => exact ⟨n + 1, by omega, by go_num, by first | exact trivial | rfl, HA2.out⟩
            case measure => simp [intOf]; omega
          · have HC := mkHid hc
            have HXO := mkHid (XL_out G HGG.out (1 + a0) t ht0 ht1 hm1 hn HALL.out (fun h h2 => hc ⟨h, h2⟩))
            have hqn : q = n := by rw [← HQ.out, HXO.out, XL_len]
            have HQN := mkHid hqn
            clear hc hqn
            by_cases hnk : n < k
            case' pos =>
              have n1 : (n : Int) < k := by omega
              obtain ⟨g, cap, hv, -, d0⟩ := row_at OS.out (TC_get G hnk)
              obtain ⟨rfl, rfl⟩ : ad = some ⟨g, 0, none⟩ ∧ cp = cap := by simpa using hv
              have hy : ¬ 1 + a0 < t - gS G (n + 1) := fun h => HC.out ⟨hnk, h⟩
              have gy := gS_bd G HGG.out (n + 1)
              obtain ⟨y, HY⟩ : ∃ y, Hid (gS G (n + 1) = y) := ⟨_, rfl⟩
              rw [HY.out] at d0 hy gy
              clear hv
              rw [HQN.out]
              go_wp2
              clear d0
            case' neg =>
              rw [HQN.out]
              go_wp2
            all_goals
              rw [HQN.out] at O3
              go_loopw [18] (fun x wr => ∃ i : Nat, i ≤ n ∧ x = .int .i64 (i : Int) ∧ Apart (fun _ => False) w3 wr) (fun x _ => n - (intOf x).toNat)
              case atStart => exact ⟨0, Nat.zero_le _, rfl, Apart.refl _ _⟩
              case round =>
                obtain ⟨i, hin, rfl, ha⟩ := hrel
                have HA4 := mkHid ha
                clear ha
                by_cases hlt : i < n
                · have i0 : (0 : Int) ≤ i := by omega
                  have i1 : (i : Int) < n := by omega
                  have i2 : (i : Int) < k := by omega
                  obtain ⟨g1, cap1', hv1, -, p0⟩ := row_at (ownsRow_apart2 OS.out HA4.out (fun _ _ h => h)) (TC_get G (show i < k by omega))
                  obtain ⟨g2, cap2', hv2, -, q0, q1, q2⟩ := own_at (ownsRow_apart2 O3.out HA4.out (fun _ _ h => h)) (HQN.out.symm.trans HQ.out.symm) (show (exO (1 + a0) t (XL G k))[i]? = some ((i : Int), 1, gS G (i + 1)) by rw [HXO.out]; exact XL_get G hlt)
                  simp at hv1 hv2
                  obtain ⟨rfl, rfl⟩ := hv1
                  obtain ⟨rfl, rfl⟩ := hv2
                  simp only at q0 q1 q2
                  obtain ⟨y, HY⟩ : ∃ y, Hid (gS G (i + 1) = y) := ⟨_, rfl⟩
                  rw [HY.out] at p0 q2
                  go_upto_region 25 with fail
                  go_quiet (fail)
                  go_wp2
                  exact ⟨⟨i + 1, by omega, by go_num, HA4.out.drewN _⟩, by simp [intOf]; omega⟩
                · obtain rfl : n = i := by omega
                  have E2 := mkHid (expire_any (H3.out.kept HA4.out (fun h => h) (fun h => h)) K3.out (by omega) t (by omega) (by omega))
                  have HXO2 := mkHid (show exO (1 + a0) t (exR (1 + a0) t (XL G k)) = [] from exO_rest _ _ _)
                  have HXR2 := mkHid (show exR (1 + a0) t (exR (1 + a0) t (XL G k)) = exR (1 + a0) t (XL G k) from exR_rest _ _ _)
                  have HLR := mkHid (show ((exR (1 + a0) t (XL G k)).length : Int) = (k : Int) - n by
                    have := ex_len (1 + a0) t (XL G k)
                    rw [HQ.out, XL_len, HQN.out] at this
                    omega)
                  have hwk : IntKind.i64.wrap ((k : Int) - n) = (k : Int) - n := by rw [IntKind.wrap_i64]; omega
                  go_wp2_with fail
                  refine E2.out.mono ?_
                  rintro e w5 ⟨v5, rfl, h5, k5, a5⟩
                  rw [HXO2.out] at h5
                  rw [HXR2.out] at k5
                  obtain ⟨ad5, cp5, hv5⟩ := ownsRow_slice h5
                  subst hv5
                  have CN := mkHid (count_any k5)
                  rw [HLR.out] at CN
                  have A5 := mkHid (below_of (((((A1.out.mono (Y := fun k => k = hb ∨ k = mb) (fun _ _ h => h.elim)).trans A3.out (fun _ _ h => h)).trans HA4.out (fun _ _ h => h.elim)).trans a5 (fun _ _ h => h))) (Nat.le_of_eq HB.out.symm) hb0 mb0)
                  clear h5 k5 a5
                  go_wp2_with (first
                    | (go_at_call 22; refine CN.out.mono ?_; rintro e w6 ⟨rfl, rfl⟩)
                    | (go_at_call 26; refine (WK.out _).mono ?_; rintro e w8 ⟨rfl, b8⟩))
                  go_ret
                  exact ⟨rfl, A5.out.trans (b8.mono (by rw [← HB.out]; exact A5.out.size))⟩

set_option maxRecDepth 100000 in
theorem lifted (os : Os) (started : os.Started) (H : Type) (enc : TypeId × Value → H) :
    ReturnsInHanded {} Try.checked os 8 .any (Rows.historyExpiresSpec.pre6 enc Try.prog Try.f8 Rows.historyExpiresRow.domain false) (Rows.historyExpiresSpec.post enc Try.prog Try.f8 false true false false) := by
  refine returnsInHanded_of_change (C := Try.checked) own started (by kernel_rfl) Try.func8
    (ChangeSpec.witness6 (enc := enc) (C := Try.checked) false ⟨#[], #[.int .u16 0, .slice none 0 0, .int .u16 0], []⟩ 8 (by kernel_rfl) (by kernel_rfl) (by kernel_rfl) (by kernel_rfl)) ?_
  intro W base args ds gs before hval0 hW hcnd _
  have hval : ∀ (j : Nat) t v, Try.f8.params[j]? = some t → args[j]? = some v → Value.okWide Try.prog W .any base t v := hval0
  have hW' := hW
  obtain ⟨p, q, hA0, hV, rfl, hfz, hnd⟩ := hW
  have hA : DataW.TrodAll enc Try.prog W 0 (fun _ => true) true Try.f8.params.toList args.toList ds p := hA0
  rw [Try.params8] at hA hval
  obtain ⟨v0, vs0, d0, ds0, p0, q0, hargs, rfl, rfl, h0, r0⟩ := trodAll_cons hA
  obtain ⟨v1, vs1, d1, ds1, p1, q1, rfl, rfl, rfl, h1, r1⟩ := trodAll_cons r0
  obtain ⟨v2, vs2, d2, ds2, p2, q2, rfl, rfl, rfl, h2, r2⟩ := trodAll_cons r1
  obtain ⟨rfl, rfl, rfl⟩ := trodAll_nil r2
  obtain rfl : args = #[v0, v1, v2] := by cases args; simp_all
  obtain ⟨rfl, rfl⟩ := trodVars_none hV
  obtain ⟨a0, rfl, rfl, rfl, w0⟩ := open_int Try.underlying60 (hval 0 60 v0 rfl rfl) h0
  obtain ⟨a1, len1, cap1, rfl⟩ := okWide_slice Try.underlying66 (hval 1 66 v1 rfl rfl)
  have k1 := h1
  have lt1 : ∀ x ∈ p1, x.block < W.heap.size := by obtain ⟨m, hm⟩ := k1; exact DataW.trod_lt m _ _ _ hm
  have w1 := open1 h1
  obtain ⟨a2, rfl, rfl, rfl, w2⟩ := open_int Try.underlying60 (hval 2 60 v2 rfl rfl) h2
  clear hA0 hval0
  refine (walk a0 a1 len1 cap1 a2 W w0 w1 w2).mono fun e W' ⟨he, bel⟩ => ?_
  subst he
  exact ⟨_, rfl, _, _, _, [], _, [], hW', trodAll_mk1 (shut_bool Try.underlying4 _), (trodAll_cons_mk (shut_int Try.underlying60 w0) (trodAll_cons_mk (Below.trod laidOut (by kernel_rfl) (of_decide_eq_true (by kernel_rfl)) k1 bel lt1) (trodAll_cons_mk (shut_int Try.underlying60 w2) trodAll_mk0))), rfl, bel.frame _, fun h => by cases h⟩

theorem over : Rows.historyExpiresRow.holds Try.pinned (OpenSpec.ofChange Rows.historyExpiresSpec) :=
  OpenClaim.holds_of_wide 8 Try.f8 rfl rfl rfl rfl rfl rfl rfl ⟨rfl, rfl, rfl, rfl, rfl⟩ rfl rfl rfl rfl rfl (by kernel_rfl) Try.func8 (by kernel_rfl)
    (of_decide_eq_true (by kernel_rfl)) (by unfold Func.isWrapper; first | (rw [if_pos (by decide +kernel)]; kernel_rfl) | (rw [if_neg (by decide +kernel)]; exact ⟨rfl, rfl⟩))
    (fun os started H enc _ => lifted os started H enc)
end Go.Proofs.Ytdojphkibgfomaa.historyExpires
namespace Go.Proofs.Ytdojphkibgfomaa
/-- The statement. -/
theorem historyExpires_holds : Rows.HistoryExpiresSaid := historyExpires.over
#print axioms historyExpires_holds
end Go.Proofs.Ytdojphkibgfomaa
