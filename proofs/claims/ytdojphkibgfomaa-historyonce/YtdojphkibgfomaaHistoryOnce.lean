/-
  HistoryOnce: each packet is told as got, as lost, or given up, once at most, whatever reports come; the rest is in flight.
-/
import Derived.Test.YtdojphkibgfomaaRows
import Derived.WalkKit
import Derived.ProofKit
import Derived.OpenShut
import Derived.ShutString
import Derived.ChangeOld
import Derived.Below
import Derived.Deep.Slices
import Derived.Test.YtdojphkibgfomaaHiZ
namespace Go.Proofs.Ytdojphkibgfomaa.historyOnce
open Go.ChangeShapes Go.WideShapes Go.ChangeAt Go.RowKit
open Go.ChangeMaps (open_string shut_string)
set_option linter.unusedVariables false

theorem own : ownKnob Try.prog.godebug = none := by kernel_rfl
theorem laidOut : laidOutB Try.prog = true := by kernel_rfl

theorem open1 {H : Type} {enc : TypeId × Value → H} {W : World} {a : Option Addr} {len cap : Nat} {d : DataW H} {p : List MemPlace}
    (h : DataW.Trod enc Try.prog W 0 (fun _ => true) true 52 (.slice a len cap) d p) : ∃ l : List (List Rp), l.length = len ∧ QA W a l := open_qa h
set_option maxRecDepth 100000 in
set_option maxHeartbeats 4000000 in
theorem walk (a0 : Int) (a1 : Option Addr) (len1 cap1 : Nat) (a2 : Int) (w : World) (w0 : (Lit.int .i64 a0).wf = true) (w1 : ∃ l : List (List Rp), l.length = len1 ∧ QA w a1 l) (w2 : (Lit.int .i64 a2).wf = true) : Calls Try.prog 4 #[.int .i64 a0, .slice a1 len1 cap1, .int .i64 a2] w fun e w' => e = .returned (.bool true) ∧ Below w.heap.size w w' := by
  obtain ⟨l, hl, hsa⟩ := w1
  have HL := mkHid hl
  have SAH := mkHid hsa
  have hlen' : (len1 : Int) ≤ 9223372036854775807 := by have := hsa.1; unfold maxLen at this; omega
  clear hl hsa w0 w2
  have WK := mkHid wakes_any
  have N := mkHid (new_any 1125899906842624 (by omega) (by omega))
  have M := mkHid (mod_any a0 300 (by omega) (by omega))
  have hz0 := Int.emod_nonneg a0 (show (300 : Int) ≠ 0 by omega)
  have hz1 := Int.emod_lt_of_pos a0 (show (0 : Int) < 300 by omega)
  obtain ⟨k, HK⟩ : ∃ k : Nat, Hid (a0 % 300 = (k : Int)) := ⟨(a0 % 300).toNat, by show a0 % 300 = _; omega⟩
  rw [HK.out] at M hz1
  have hk : k < 300 := by omega
  clear hz0
  obtain ⟨i6, hi6, hz60, hz61, hz62⟩ := info62
  obtain ⟨i3, hi3, hz30, hz31, hz32⟩ : ∃ i, Try.prog.info? 3 = some i ∧ i.zero = some (.int .i64 0) ∧ i.size = 1 ∧ i.bytes = 8 := by
    obtain ⟨i, hi, hh⟩ := Option.map_eq_some_iff.1 (show (Try.prog.info? 3).map (fun i => (i.zero, i.size, i.bytes)) = some (some (.int .i64 0), 1, 8) by kernel_rfl)
    simp only [Prod.mk.injEq] at hh
    exact ⟨i, hi, hh.1, hh.2.1, hh.2.2⟩
  have hmk : ∀ W : World, (Instr.makeSlice 54 (.int .i64 (k : Int)) (.int .i64 (k : Int))).run Try.prog W = .ok (.slice (some ⟨W.heap.size, 0, none⟩) k k) (W.alloc (.cells (tA (fun _ => 0) k) 3)) := by
    intro W
    have := run_make (P := Try.prog) W 54 3 i3 (.int .i64 0) Try.underlying54 hi3 hz30 .i64 .i64 (k : Int) (k : Int) (by omega) (by omega) (by rw [hz32]; omega) (by omega)
    rw [hz31, Nat.mul_one, Int.toNat_natCast] at this
    rw [this]
    rw [show (Value.int .i64 0).cells = #[.int .i64 0] from rfl, tA_zero]
  obtain ⟨B, HB⟩ : ∃ B, Hid (w.heap.size = B) := ⟨_, rfl⟩
  rw [HB.out]
  obtain ⟨m, HM⟩ : ∃ m : Nat, Hid (m ≤ 20 ∧ m ≤ len1 ∧ (m = 20 ∨ m = len1)) := by
    by_cases h : len1 ≤ 20
    · exact ⟨len1, h, Nat.le_refl _, .inr rfl⟩
    · exact ⟨20, Nat.le_refl _, by omega, .inl rfl⟩
  obtain ⟨hm1, hm2, hm3⟩ := HM.out
  have HMK := mkHid hmk
  clear hmk
  go_enter Try.func4, Try.ntmps4
  go_wp2_with fail
  refine (N.out _).mono ?_
  rintro e v1 ⟨⟨hb, mb, rfl, h1, hb0, mb0⟩, a1'⟩
  rw [HB.out] at hb0 mb0
  have A1 := mkHid (a1'.mono (Y := fun x => x = hb ∨ x = mb) (fun _ _ h => h.elim))
  have H1 := mkHid h1
  clear a1' h1
  go_wp2_with fail
  refine (M.out _).mono ?_
  rintro e v2 ⟨rfl, rfl⟩
  go_wp2
  go_loopw [10, 11, 12] (fun x _ _ wr => ∃ (j : Nat) (la : Int), j ≤ k ∧ x = .int .i64 (j : Int) ∧ la ≤ j ∧ Hs wr hb mb 1125899906842624 (j : Int) la (OL j) ∧ Ok (j : Int) la (OL j) ∧ Apart (fun x => x = hb ∨ x = mb) w wr) (fun x _ _ _ => k - (intOf x).toNat)
  case atStart => exact ⟨0, 0, by omega, rfl, by omega, H1.out, Ok.nil (by omega) (by omega) (by omega), A1.out⟩
  case round =>
    obtain ⟨j, la, hjk, rfl, hla, hs, ok, ha⟩ := hrel
    have HS := mkHid hs
    have OK := mkHid ok
    have HA := mkHid ha
    have la0 := ok.la0
    clear hs ok ha
    by_cases hlt : j < k
    · have j0 : (0 : Int) ≤ j := by omega
      have j1 : (j : Int) < k := by omega
      have S := mkHid (send_fit HS.out OK.out 10 (j : Int) (j : Int) (by rw [OL_len]; unfold sndE; repeat' split <;> omega) (by omega) (by omega))
      have O3 := mkHid (OK.out.send 10 (j : Int) (by omega) (by omega) (by omega) (by omega) (by rw [OL_len]; omega))
      go_wp2_with fail
      refine S.out.mono ?_
      rintro e w3 ⟨rfl, h3, a3⟩
      have H3 := mkHid h3
      have A3 := mkHid (HA.out.trans a3 (fun _ _ h => h))
      clear h3 a3
      go_wp2
      go_roundw
      case rel => exact ⟨j + 1, j, by omega, by go_num, by omega, by rw [Int.natCast_add, Int.natCast_one]; exact H3.out, by rw [Int.natCast_add, Int.natCast_one]; exact O3.out, A3.out⟩
      case measure => simp [intOf]; omega
    · obtain rfl : j = k := by omega
      have hmk := HMK.out wr
      have hlt2 := HS.out.lt
      have A2 := mkHid (HA.out.alloc (.cells (tA (fun _ => 0) j) 3))
      have H2 := mkHid (HS.out.kept ((Apart.refl (fun _ => False) wr).alloc (.cells (tA (fun _ => 0) j) 3)) (fun h => h) (fun h => h))
      have T2 := mkHid (heap_alloc_new wr (.cells (tA (fun _ => 0) j) 3))
      obtain ⟨tb, HTB⟩ : ∃ b, Hid (wr.heap.size = b) := ⟨_, rfl⟩
      obtain ⟨W2, HW2⟩ : ∃ W, Hid (wr.alloc (.cells (tA (fun _ => 0) j) 3) = W) := ⟨_, rfl⟩
      rw [HW2.out] at A2 H2 T2
      rw [HTB.out] at T2 hlt2
      have htb : B ≤ tb := by rw [← HB.out, ← HTB.out]; exact HA.out.size
      have HSUB := mkHid (show ∀ s ∈ OL j, ∃ q : Nat, q < j ∧ s = ((q : Int), 10, (q : Int)) from fun s hs => OL_mem hs)
      have HCN := mkHid (show ∀ q, q < j → 0 + cN (OL j) q = 1 from fun q hq => by rw [OL_count, if_pos hq])
      go_wp2
      rw [HW2.out, HTB.out]
      clear hmk
      go_loopw [15, 16, 17, 18, 19] (fun x _ _ _ _ wr => ∃ (i : Nat) (L : List Sn) (τ : Nat → Nat), i ≤ m ∧ x = .int .i64 (i : Int) ∧ Hs wr hb mb 1125899906842624 (j : Int) la L ∧ Ok (j : Int) la L ∧ (∀ s ∈ L, ∃ q : Nat, q < j ∧ s = ((q : Int), 10, (q : Int))) ∧ wr.heap[tb]? = some (.cells (tA τ j) 3 (0, 0)) ∧ (∀ q, q < j → τ q + cN L q = 1) ∧ Apart (fun x => x = hb ∨ x = mb ∨ x = tb) w wr) (fun x _ _ _ _ _ => m - (intOf x).toNat)
      case atStart => exact ⟨0, OL j, fun _ => 0, by omega, rfl, H2.out, OK.out, HSUB.out, T2.out, HCN.out, A2.out.mono (fun i _ h => by rcases h with h | h; exact .inl h; exact .inr (.inl h))⟩
      case round =>
        obtain ⟨i, L, τ, him, rfl, hs, ok, hsub, ht, hcn, ha⟩ := hrel
        have HS' := mkHid hs
        have OK' := mkHid ok
        have SUB := mkHid hsub
        have HT := mkHid ht
        have CN := mkHid hcn
        have HA' := mkHid ha
        clear hs ok hsub ht hcn ha
        by_cases hlt : i < m
        · have i0 : (0 : Int) ≤ i := by omega
          have i1 : (i : Int) < len1 := by omega
          have i2 : (i : Int) < 20 := by omega
          obtain ⟨b, off, li, rfl, hbw, hli, ra, rc, c0', hrl, hra⟩ := SAH.out.at i (by rw [HL.out]; omega)
          have hx : ¬ (b = hb ∨ b = mb ∨ b = tb) := by rw [HB.out] at hbw; omega
          have c0 := (HA'.out.cell (p := ⟨b, off + i, none⟩) hbw hx).trans c0'
          have RAW := mkHid (hra.kept HA'.out (fun x hx => ⟨hx, by rw [HB.out] at hx; omega⟩))
          obtain ⟨n, HNN⟩ : ∃ n, Hid (li.length = n) := ⟨_, rfl⟩
          rw [HNN.out] at c0 hrl
          unfold maxLen at hrl
          have hrl' : (n : Int) ≤ 9223372036854775807 := by omega
          have HBW := mkHid (show b < wr.heap.size from Nat.lt_of_lt_of_le hbw HA'.out.size)
          clear c0' hra hli hbw hx hrl
          by_cases h2k : 2000 < (n : Int)
          · have A9 := mkHid (HA'.out.below B (by rw [HB.out]; exact Nat.le_refl _) (fun x h => by omega))
            go_wp2_with (go_at_call 26; refine (WK.out _).mono ?_; rintro e w8 ⟨rfl, b8⟩)
            go_ret
            exact ⟨rfl, A9.out.trans (b8.mono (by rw [← HB.out]; exact A9.out.size))⟩
          · have hn2 : (n : Int) ≤ 2000 := by omega
            have A3 := mkHid ((Apart.refl (fun _ => False) wr).alloc (.cells #[] 62))
            have hwz : tb < wr.heap.size := lt_of_heap HT.out
            have c1 := (A3.out.cell (p := ⟨b, off + i, none⟩) HBW.out (fun h => h)).trans c0
            have hhs := HS'.out.lt
            have OE := mkHid (own_empty wr wr.heap.size 62 5 (Nat.le_refl _))
            have RS := mkHid (show SrcN (wr.alloc (.cells #[] 62)) 5 (.slice ra n rc) n (rC li) by
              have := ra_src (c := rc) (RAW.out.kept A3.out (fun x hx => ⟨by have := HA'.out.size; omega, fun h => h⟩))
              rw [HNN.out] at this
              exact this)
            go_wp2_with (at_builtin; refine wpList_append_told _ rfl (.tmp 68) (.tmp 72) 30 rfl wr.heap.size 62 i6 _ 5 32 Try.underlying30 hi6 hz60 hz61 hz62 rfl (by decide) _ 0 [] rfl OE.out _ n (rC li) rfl RS.out (one_rC li) (by unfold maxLen; omega) (by omega) (by simp) ?_; intro v6 w6 hown hgr hx; have O6 := mkHid hown; have G6 := mkHid hgr; clear hown hgr hx)
            obtain ⟨ad, cp, hv⟩ := ownsRow_slice O6.out
            subst hv
            rw [Nat.zero_add, List.nil_append] at O6
            have B6 := mkHid (show Apart (fun x => wr.heap.size ≤ x) wr w6 from ((Apart.refl (fun x => wr.heap.size ≤ x) wr).alloc (.cells #[] 62)).grown G6.out (fun x hx e => (OE.out.lt x e).1))
            have H6 := mkHid (HS'.out.kept B6.out (by omega) (by omega))
            have T6 := mkHid (B6.out.heap HT.out (by omega))
            have R6 := mkHid (own_ra (N := fun b => b < w6.heap.size ∧ b ≠ hb ∧ b ≠ mb) O6.out HNN.out.symm (fun x h1 h2 => ⟨h2, by omega, by omega⟩))
            have HE := mkHid (hear_any H6.out OK'.out (by omega) ad cp li a2 R6.out (by rw [HNN.out]; omega))
            rw [HNN.out] at HE
            have hz6 := B6.out.size
            clear c0 c1
            simp only [Nat.zero_add]
            refine HE.out.mono ?_
            rintro e w7 ⟨vg, vl, rfl, h7⟩
            have H7 := mkHid h7
            obtain ⟨g1, gc, hg⟩ := ownsRow_slice h7.og
            obtain ⟨g2, lc, hl⟩ := ownsRow_slice h7.ol
            subst hg hl
            have CNT := mkHid (fun q => hr_count (j : Int) q li L OK'.out.rise)
            have SB := mkHid (hr_sub (j : Int) li L)
            have GL := mkHid (hrG_len (j : Int) li L)
            have KL := mkHid (hrL_len (j : Int) li L)
            obtain ⟨G, HG⟩ : ∃ G, Hid (hrG (j : Int) L li = G) := ⟨_, rfl⟩
            obtain ⟨K, HK'⟩ : ∃ K, Hid (hrL (j : Int) L li = K) := ⟨_, rfl⟩
            obtain ⟨R, HR⟩ : ∃ R, Hid (hrR (j : Int) L li = R) := ⟨_, rfl⟩
            rw [HG.out, HK'.out, HR.out] at CNT SB H7
            rw [HG.out, HNN.out] at GL
            rw [HK'.out, HNN.out] at KL
            rw [HG.out, HK'.out]
            have T7 := mkHid (H7.out.ap.heap T6.out (fun e => by rcases e with e | e <;> omega))
            have A7 := mkHid ((HA'.out.trans B6.out (fun x hx e => by have := HA'.out.size; omega)).trans H7.out.ap (fun x hx e => by rcases e with e | e; exact .inl e; exact .inr (.inl e)))
            obtain ⟨gl, HGL⟩ : ∃ n, Hid (G.length = n) := ⟨_, rfl⟩
            obtain ⟨kl, HKL⟩ : ∃ n, Hid (K.length = n) := ⟨_, rfl⟩
            rw [HGL.out] at GL ⊢
            rw [HKL.out] at KL ⊢
            have hgl : (gl : Int) ≤ 2000 := by have := GL.out; omega
            have hkl : (kl : Int) ≤ 2000 := by have := KL.out; omega
            have htau := fun q hq => CN.out q hq
            have HTAU := mkHid (show ∀ q, q < j → τ q ≤ 1 from fun q hq => by have := htau q hq; omega)
            clear h7 htau
            go_wp2
            go_loopw [18] (fun x wr => ∃ (p : Nat) (τ' : Nat → Nat), p ≤ gl ∧ x = .int .i64 (p : Int) ∧ wr.heap[tb]? = some (.cells (tA τ' j) 3 (0, 0)) ∧ (∀ q, q < j → τ' q = τ q + gN (G.take p) q) ∧ Apart (· = tb) w7 wr) (fun x _ => gl - (intOf x).toNat)
            case atStart => exact ⟨0, τ, by omega, rfl, T7.out, fun q _ => by simp [gN], Apart.refl _ _⟩
            case round =>
              obtain ⟨p, τ', hp, rfl, ht', hcn', ha'⟩ := hrel
              have HT' := mkHid ht'
              have CN' := mkHid hcn'
              have HA3 := mkHid ha'
              clear ht' hcn' ha'
              by_cases hlt : p < gl
              · have p0 : (0 : Int) ≤ p := by omega
                have p1 : (p : Int) < gl := by omega
                obtain ⟨a, HAA⟩ : ∃ a, Hid (G[p]? = some a) := ⟨_, List.getElem?_eq_getElem (by rw [HGL.out]; exact hlt)⟩
                obtain ⟨q, hq, hqa⟩ := SUB.out _ (SB.out.1 a (List.mem_of_getElem? HAA.out))
                obtain ⟨g, cap, hv, hgB, q0, q1, q2, -⟩ := got_at (ownsRow_apart2 H7.out.og HA3.out (fun x hx e => by have := (H7.out.og.lt x hx).1; omega)) rfl HAA.out
                rw [HGL.out] at hv
                obtain ⟨rfl, rfl⟩ : g1 = some ⟨g, 0, none⟩ ∧ gc = cap := by simpa using hv
                rw [hqa] at q0 q1 q2
                simp only at q0 q1 q2
                have HQA := mkHid (show a.s.1 = (q : Int) by rw [hqa])
                have t0 := cell_of_row _ tb q _ 3 _ HT'.out
                rw [tA_get _ hq] at t0
                have f0 := frozen_of_row wr tb q _ 3 HT'.out
                have y0 : (0 : Int) ≤ q := by omega
                have y1 : (q : Int) < j := by omega
                have hb1 : (τ' q : Int) ≤ 5000 := by
                  have h1 := CN'.out q hq
                  have h2 := HTAU.out q hq
                  have h3 : gN (G.take p) q ≤ p := Nat.le_trans List.countP_le_length (by rw [List.length_take]; exact Nat.min_le_left _ _)
                  omega
                obtain ⟨y, HY⟩ : ∃ y : Int, Hid ((τ' q : Int) = y) := ⟨_, rfl⟩
                have hy0 : 0 ≤ y := by have := HY.out; omega
                rw [HY.out] at t0 hb1
                have T9 := mkHid (show (wr.setCell ⟨tb, q, none⟩ (.int .i64 (y + 1))).heap[tb]? = some (.cells (tA (fun x => τ' x + (if q = x then 1 else 0)) j) 3 (0, 0)) by
                  rw [heap_setCell_same wr tb q _ 3 (.int .i64 (y + 1)) HT'.out, tA_set τ' (y + 1) (by rw [HY.out])])
                have C9 := mkHid (show ∀ x, x < j → τ' x + (if q = x then 1 else 0) = τ x + gN (G.take (p + 1)) x from fun x hx => by
                  rw [gN_take HAA.out, HQA.out, CN'.out x hx]
                  by_cases e : q = x
                  · subst e; rw [if_pos rfl, if_pos rfl]; omega
                  · rw [if_neg e, if_neg (by omega)]; omega)
                have A9 := mkHid (HA3.out.trans (ap_set wr tb q (.int .i64 (y + 1))) (fun x _ e => e))
                have D1 : decide ((q : Int) < 0) = false := decide_eq_false (by omega)
                have D2 : decide (j ≤ q) = false := decide_eq_false (by omega)
                clear hv hqa hq
                go_upto_region 22 with fail
                go_quiet (fail)
                go_wp2
                exact ⟨⟨p + 1, _, by omega, by go_num, T9.out, C9.out, (HA3.out.drewN nq).trans (ap_set _ tb q (.int .i64 (y + 1))) (fun x _ e => e)⟩, by simp [intOf]; omega⟩
              · obtain rfl : p = gl := by omega
                have CNG := mkHid (show ∀ q, q < j → τ' q = τ q + gN G q from fun q hq => by
                  have := CN'.out q hq
                  rw [← HGL.out, List.take_length] at this
                  exact this)
                go_wp2
                go_loopw [19] (fun x w9 => ∃ (r : Nat) (τ2 : Nat → Nat), r ≤ kl ∧ x = .int .i64 (r : Int) ∧ w9.heap[tb]? = some (.cells (tA τ2 j) 3 (0, 0)) ∧ (∀ q, q < j → τ2 q = τ q + gN G q + cN (K.take r) q) ∧ Apart (· = tb) w7 w9) (fun x _ => kl - (intOf x).toNat)
                case atStart => exact ⟨0, τ', by omega, rfl, HT'.out, fun q hq => by rw [CNG.out q hq]; simp [cN], HA3.out⟩
                case round =>
                  obtain ⟨r, τ2, hp2, rfl, ht2, hcn2, ha2⟩ := hrel
                  have HT2 := mkHid ht2
                  have CN2 := mkHid hcn2
                  have HA4 := mkHid ha2
                  clear ht2 hcn2 ha2
                  by_cases hlt2 : r < kl
                  · have p0 : (0 : Int) ≤ r := by omega
                    have p1 : (r : Int) < kl := by omega
                    obtain ⟨s, HAS⟩ : ∃ a, Hid (K[r]? = some a) := ⟨_, List.getElem?_eq_getElem (by rw [HKL.out]; exact hlt2)⟩
                    obtain ⟨q, hq, hqa⟩ := SUB.out _ (SB.out.2.1 s (List.mem_of_getElem? HAS.out))
                    obtain ⟨g, cap, hv, hgB, q0, q1, q2⟩ := own_at (ownsRow_apart2 H7.out.ol HA4.out (fun x hx e => by have := (H7.out.ol.lt x hx).1; omega)) rfl HAS.out
                    rw [HKL.out] at hv
                    obtain ⟨rfl, rfl⟩ : g2 = some ⟨g, 0, none⟩ ∧ lc = cap := by simpa using hv
                    rw [hqa] at q0 q1 q2
                    simp only at q0 q1 q2
                    have HQA := mkHid (show s.1 = (q : Int) by rw [hqa])
                    have t0 := cell_of_row _ tb q _ 3 _ HT2.out
                    rw [tA_get _ hq] at t0
                    have f0 := frozen_of_row wr tb q _ 3 HT2.out
                    have y0 : (0 : Int) ≤ q := by omega
                    have y1 : (q : Int) < j := by omega
                    have hb1 : (τ2 q : Int) ≤ 9000 := by
                      have h1 := CN2.out q hq
                      have h2 := HTAU.out q hq
                      have h3 : gN G q ≤ p := by rw [← HGL.out]; exact List.countP_le_length
                      have h4 : cN (K.take r) q ≤ r := Nat.le_trans List.countP_le_length (by rw [List.length_take]; exact Nat.min_le_left _ _)
                      omega
                    obtain ⟨y, HY⟩ : ∃ y : Int, Hid ((τ2 q : Int) = y) := ⟨_, rfl⟩
                    have hy0 : 0 ≤ y := by have := HY.out; omega
                    rw [HY.out] at t0 hb1
                    have T9 := mkHid (show (wr.setCell ⟨tb, q, none⟩ (.int .i64 (y + 1))).heap[tb]? = some (.cells (tA (fun x => τ2 x + (if q = x then 1 else 0)) j) 3 (0, 0)) by
                      rw [heap_setCell_same wr tb q _ 3 (.int .i64 (y + 1)) HT2.out, tA_set τ2 (y + 1) (by rw [HY.out])])
                    have C9 := mkHid (show ∀ x, x < j → τ2 x + (if q = x then 1 else 0) = τ x + gN G x + cN (K.take (r + 1)) x from fun x hx => by
                      rw [cN_take HAS.out, HQA.out, CN2.out x hx]
                      by_cases e : q = x
                      · subst e; rw [if_pos rfl, if_pos rfl]; omega
                      · rw [if_neg e, if_neg (by omega)]; omega)
                    have D1 : decide ((q : Int) < 0) = false := decide_eq_false (by omega)
                    have D2 : decide (j ≤ q) = false := decide_eq_false (by omega)
                    clear hv hqa hq
                    go_wp2
                    go_roundw
                    case rel => exact ⟨r + 1, _, by omega, by go_num, T9.out, C9.out, HA4.out.trans (ap_set wr tb q (.int .i64 (y + 1))) (fun x _ e => e)⟩
                    case measure => simp [intOf]; omega
                  · obtain rfl : r = kl := by omega
                    have CNK := mkHid (show ∀ q, q < j → τ2 q + cN R q = 1 from fun q hq => by
                      have h1 := CN2.out q hq
                      rw [← HKL.out, List.take_length] at h1
                      have h2 := CNT.out q
                      have h3 := CN.out q hq
                      omega)
                    have SUR := mkHid (show ∀ s ∈ R, ∃ q : Nat, q < j ∧ s = ((q : Int), 10, (q : Int)) from fun s hs => SUB.out s (SB.out.2.2 s hs))
                    have H9 := mkHid (H7.out.hs.kept HA4.out (by omega) (by omega))
                    have A9 := mkHid (A7.out.trans HA4.out (fun x _ e => .inr (.inr e)))
                    go_wp2
                    go_roundw
                    case rel => exact ⟨i + 1, R, τ2, by omega, by go_num, H9.out, H7.out.ok, SUR.out, HT2.out, CNK.out, A9.out⟩
                    case measure => simp [intOf]; omega
        · obtain rfl : i = m := by omega
          have TL := mkHid (show ∀ q, q < j → τ q ≤ 1 from fun q hq => by have := CN.out q hq; omega)
          have LEN := mkHid (show L.length + sm τ j = j by
            have h1 := sm_add τ (cN L) (fun _ => 1) j CN.out
            rw [sm_one, sm_len j L SUB.out] at h1
            omega)
          have FLE := mkHid (fl_ten L (fun s hs => by obtain ⟨q, _, e⟩ := SUB.out s hs; rw [e]))
          have C22 := mkHid (count_any HS'.out)
          have C20 := mkHid (flight_any HS'.out)
          rw [FLE.out] at C20
          obtain ⟨n, HN2⟩ : ∃ n, Hid (L.length = n) := ⟨_, rfl⟩
          rw [HN2.out] at C20 C22 LEN
          have A9 := mkHid (HA'.out.below B (by rw [HB.out]; exact Nat.le_refl _) (fun x h => by omega))
          go_wp2
          all_goals
            go_loopw [14, 20] (fun x y w9 => ∃ r : Nat, r ≤ j ∧ x = .int .i64 (sm τ r : Int) ∧ sm τ r ≤ r ∧ y = .int .i64 (r : Int) ∧ w9 = wr) (fun _ y _ => j - (intOf y).toNat)
            case atStart => exact ⟨0, by omega, rfl, by simp [sm], rfl, rfl⟩
            case round =>
              obtain ⟨r, hr, rfl, hsr, rfl, hw9⟩ := hrel
              obtain rfl := hw9.symm
              by_cases hlt3 : r < j
              · have p0 : (0 : Int) ≤ r := by omega
                have p1 : (r : Int) < j := by omega
                have t0 := cell_of_row _ tb r _ 3 _ HT.out
                rw [tA_get _ hlt3] at t0
                have hle := TL.out r hlt3
                obtain ⟨y, HY⟩ : ∃ y : Int, Hid ((τ r : Int) = y) := ⟨_, rfl⟩
                have hy0 : 0 ≤ y ∧ y ≤ 1 := by have := HY.out; omega
                rw [HY.out] at t0
                obtain ⟨z, HZ⟩ : ∃ z : Int, Hid ((sm τ r : Int) = z) := ⟨_, rfl⟩
                have hz0 : 0 ≤ z ∧ z ≤ 300 := by have := HZ.out; omega
                rw [HZ.out]
                have HZ2 := mkHid (show (sm τ (r + 1) : Int) = z + y by rw [← HZ.out, ← HY.out]; simp [sm])
                have HS2 := mkHid (show sm τ (r + 1) ≤ r + 1 by simp only [sm]; omega)
                go_wp2
                go_roundw
                case rel => exact ⟨r + 1, by omega, by rw [HZ2.out], HS2.out, by go_num, by first | exact trivial | rfl⟩
                case measure => simp [intOf]; omega
              · obtain rfl : r = j := by omega
                obtain ⟨z, HZ⟩ : ∃ z : Int, Hid ((sm τ r : Int) = z) := ⟨_, rfl⟩
                obtain ⟨ri, HRI⟩ : ∃ z : Int, Hid ((r : Int) = z) := ⟨_, rfl⟩
                rw [HZ.out, HRI.out]
                have q0 : 0 ≤ z := by have := HZ.out; omega
                have q1 : z ≤ ri := by have h2 := HZ.out; have h3 := HRI.out; omega
                have q2 : ri ≤ 300 := by have h3 := HRI.out; omega
                have e1 : (n : Int) = ri - z := by have h1 := LEN.out; have h2 := HZ.out; have h3 := HRI.out; omega
                rw [e1] at C20 C22
                clear e1 hsr hlt3
                go_wp2_with (first
                  | (go_at_call 22; refine C22.out.mono ?_; rintro e w6 ⟨rfl, rfl⟩)
                  | (go_at_call 20; refine C20.out.mono ?_; rintro e w7 ⟨rfl, rfl⟩)
                  | (go_at_call 26; refine (WK.out _).mono ?_; rintro e w8 ⟨rfl, b8⟩))
                go_ret
                exact ⟨rfl, A9.out.trans (b8.mono (by rw [← HB.out]; exact A9.out.size))⟩

set_option maxRecDepth 100000 in
theorem lifted (os : Os) (started : os.Started) (H : Type) (enc : TypeId × Value → H) :
    ReturnsInHanded {} Try.checked os 4 .any (Rows.historyOnceSpec.pre6 enc Try.prog Try.f4 Rows.historyOnceRow.domain false) (Rows.historyOnceSpec.post enc Try.prog Try.f4 false true false false) := by
  refine returnsInHanded_of_change (C := Try.checked) own started (by kernel_rfl) Try.func4
    (ChangeSpec.witness6 (enc := enc) (C := Try.checked) false ⟨#[], #[.int .i64 0, .slice none 0 0, .int .i64 0], []⟩ 8 (by kernel_rfl) (by kernel_rfl) (by kernel_rfl) (by kernel_rfl)) ?_
  intro W base args ds gs before hval0 hW hcnd _
  have hval : ∀ (j : Nat) t v, Try.f4.params[j]? = some t → args[j]? = some v → Value.okWide Try.prog W .any base t v := hval0
  have hW' := hW
  obtain ⟨p, q, hA0, hV, rfl, hfz, hnd⟩ := hW
  have hA : DataW.TrodAll enc Try.prog W 0 (fun _ => true) true Try.f4.params.toList args.toList ds p := hA0
  rw [Try.params4] at hA hval
  obtain ⟨v0, vs0, d0, ds0, p0, q0, hargs, rfl, rfl, h0, r0⟩ := trodAll_cons hA
  obtain ⟨v1, vs1, d1, ds1, p1, q1, rfl, rfl, rfl, h1, r1⟩ := trodAll_cons r0
  obtain ⟨v2, vs2, d2, ds2, p2, q2, rfl, rfl, rfl, h2, r2⟩ := trodAll_cons r1
  obtain ⟨rfl, rfl, rfl⟩ := trodAll_nil r2
  obtain rfl : args = #[v0, v1, v2] := by cases args; simp_all
  obtain ⟨rfl, rfl⟩ := trodVars_none hV
  obtain ⟨a0, rfl, rfl, rfl, w0⟩ := open_int Try.underlying3 (hval 0 3 v0 rfl rfl) h0
  obtain ⟨a1, len1, cap1, rfl⟩ := okWide_slice Try.underlying52 (hval 1 52 v1 rfl rfl)
  have k1 := h1
  have lt1 : ∀ x ∈ p1, x.block < W.heap.size := by obtain ⟨m, hm⟩ := k1; exact DataW.trod_lt m _ _ _ hm
  have w1 := open1 h1
  obtain ⟨a2, rfl, rfl, rfl, w2⟩ := open_int Try.underlying2 (hval 2 2 v2 rfl rfl) h2
  clear hA0 hval0
  refine (walk a0 a1 len1 cap1 a2 W w0 w1 w2).mono fun e W' ⟨he, bel⟩ => ?_
  subst he
  exact ⟨_, rfl, _, _, _, [], _, [], hW', trodAll_mk1 (shut_bool Try.underlying4 _), (trodAll_cons_mk (shut_int Try.underlying3 w0) (trodAll_cons_mk (Below.trod laidOut (by kernel_rfl) (of_decide_eq_true (by kernel_rfl)) k1 bel lt1) (trodAll_cons_mk (shut_int Try.underlying2 w2) trodAll_mk0))), rfl, bel.frame _, fun h => by cases h⟩

theorem over : Rows.historyOnceRow.holds Try.pinned (OpenSpec.ofChange Rows.historyOnceSpec) :=
  OpenClaim.holds_of_wide 4 Try.f4 rfl rfl rfl rfl rfl rfl rfl ⟨rfl, rfl, rfl, rfl, rfl⟩ rfl rfl rfl rfl rfl (by kernel_rfl) Try.func4 (by kernel_rfl)
    (of_decide_eq_true (by kernel_rfl)) (by unfold Func.isWrapper; first | (rw [if_pos (by decide +kernel)]; kernel_rfl) | (rw [if_neg (by decide +kernel)]; exact ⟨rfl, rfl⟩))
    (fun os started H enc _ => lifted os started H enc)
end Go.Proofs.Ytdojphkibgfomaa.historyOnce
namespace Go.Proofs.Ytdojphkibgfomaa
/-- The statement. -/
theorem historyOnce_holds : Rows.HistoryOnceSaid := historyOnce.over
#print axioms historyOnce_holds
end Go.Proofs.Ytdojphkibgfomaa
