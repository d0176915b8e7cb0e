/-
  HistoryPlays: whatever is called one behind the other, the answers are the reference's.
-/
import Derived.Test.YtdojphkibgfomaaRows
import Derived.WalkKit
import Derived.ProofKit
import Derived.OpenShut
import Derived.ShutString
import Derived.ChangeOld
import Derived.Below
import Derived.Deep.Slices
import Derived.Test.YtdojphkibgfomaaHiRh
namespace Go.Proofs.Ytdojphkibgfomaa.historyPlays
open Go.ChangeShapes Go.WideShapes Go.ChangeAt Go.RowKit
open Go.ChangeMaps (open_string shut_string)
set_option linter.unusedVariables false

theorem own : ownKnob Try.prog.godebug = none := by kernel_rfl
theorem laidOut : laidOutB Try.prog = true := by kernel_rfl

theorem open1 {H : Type} {enc : TypeId × Value → H} {W : World} {a : Option Addr} {len cap : Nat} {d : DataW H} {p : List MemPlace}
    (h : DataW.Trod enc Try.prog W 0 (fun _ => true) true 22 (.slice a len cap) d p) : ∃ l : List St, l.length = len ∧ SA W a l := open_steps h
set_option maxRecDepth 100000 in
set_option maxHeartbeats 8000000 in
theorem walk (a0 : Int) (a1 : Option Addr) (len1 cap1 : Nat) (w : World) (w0 : (Lit.int .i64 a0).wf = true) (w1 : ∃ l : List St, l.length = len1 ∧ SA w a1 l) : Calls Try.prog 3 #[.int .i64 a0, .slice a1 len1 cap1] w fun e w' => e = .returned (.bool true) ∧ Below w.heap.size w w' := by
  obtain ⟨l, hl, hsa⟩ := w1
  have HL := mkHid hl
  have SAH := mkHid hsa
  have hlen' : (len1 : Int) ≤ 9223372036854775807 := by have := hsa.1; unfold maxLen at this; omega
  clear hl hsa w0
  have WK := mkHid wakes_any
  obtain ⟨B, HB⟩ : ∃ B, Hid (w.heap.size = B) := ⟨_, rfl⟩
  rw [HB.out]
  obtain ⟨i6, hi6, hz60, hz61, hz62⟩ := info62
  by_cases hT : a0 < 1 ∨ 1125899906842624 < a0
  · have N1 := mkHid (new_no a0 hT)
    have N2 := mkHid (rnew_no a0 hT)
    go_enter Try.func3, Try.ntmps3
    go_wp2_with (first
      | (go_at_call 9; refine (N1.out _).mono ?_; rintro e y1 ⟨rfl, he⟩; subst y1)
      | (go_at_call 10; refine (N2.out _).mono ?_; rintro e y1 ⟨rfl, he⟩; subst y1))
    go_loopw [9, 10, 11, 12, 13, 14, 15, 16, 17, 18] (fun x _ _ _ _ _ _ _ _ _ wr => x = .int .i64 0 ∧ wr = w) (fun _ _ _ _ _ _ _ _ _ _ _ => 0)
    case atStart => exact ⟨rfl, rfl⟩
    case round =>
      obtain ⟨rfl, rfl⟩ := hrel
      by_cases h0 : 0 < len1
      · have h0' : (0 : Int) < len1 := by omega
        go_wp2_with (go_at_call 26; refine (WK.out _).mono ?_; rintro e w8 ⟨rfl, b8⟩)
        go_ret
        exact ⟨rfl, by rw [← HB.out]; exact b8⟩
      · obtain rfl : len1 = 0 := by omega
        go_wp2_with (go_at_call 26; refine (WK.out _).mono ?_; rintro e w8 ⟨rfl, b8⟩)
        go_ret
        exact ⟨rfl, by rw [← HB.out]; exact b8⟩
  · have T1 : 1 ≤ a0 := by omega
    have T2 : a0 ≤ 1125899906842624 := by omega
    have N1 := mkHid (new_any a0 T1 T2)
    have N2 := mkHid (rnew_any a0 T1 T2)
    obtain ⟨m, HM⟩ : ∃ m : Nat, Hid (m ≤ 100 ∧ m ≤ len1 ∧ (m = 100 ∨ m = len1)) := by
      by_cases h : len1 ≤ 100
      · exact ⟨len1, h, Nat.le_refl _, .inr rfl⟩
      · exact ⟨100, Nat.le_refl _, by omega, .inl rfl⟩
    obtain ⟨hm1, hm2, hm3⟩ := HM.out
    go_enter Try.func3, Try.ntmps3
    go_wp2_with fail
    refine (N1.out _).mono ?_
    rintro e v1 ⟨⟨hb, mb, rfl, h1, hb0, mb0⟩, a1'⟩
    rw [HB.out] at hb0 mb0
    have A1 := mkHid a1'
    have H1 := mkHid h1
    clear h1 a1'
    go_wp2_with fail
    refine (N2.out _).mono ?_
    rintro e v2 ⟨⟨rb, rfl, r1, rb0⟩, a2'⟩
    obtain ⟨hl1, hl2⟩ := H1.out.lt
    have hbr : hb < rb := by omega
    have mbr : mb < rb := by omega
    have hrB : B ≤ rb := by omega
    have A2 := mkHid (A1.out.zz a2')
    have B2 := mkHid (show Bo v2 hb mb rb a0 0 0 [] from ⟨H1.out.kept a2' (fun h => h) (fun h => h), r1, Ok.nil (by omega) (by omega) (by omega), hbr, mbr⟩)
    clear r1 a2' hl1 hl2 rb0 H1 A1
    go_wp2
    go_loopw [9, 10, 11, 12, 13, 14, 15, 16, 17, 18] (fun x _ _ _ _ _ _ _ _ _ wr => ∃ (i : Nat) (nx la : Int) (L : List Sn), i ≤ m ∧ nx ≤ i ∧ x = .int .i64 (i : Int) ∧ 0 ≤ nx ∧ Bo wr hb mb rb a0 nx la L ∧ Apart (fun _ => False) w wr) (fun x _ _ _ _ _ _ _ _ _ _ => m - (intOf x).toNat)
    case atStart => exact ⟨0, 0, 0, [], Nat.zero_le _, by omega, rfl, by omega, B2.out, A2.out⟩
    case round =>
      obtain ⟨i, nx, la, L, him, hnx, rfl, hnx0, hbo, ha⟩ := hrel
      have BO := mkHid hbo
      have HA := mkHid ha
      clear hbo ha
      have i0 : (0 : Int) ≤ i := by omega
      have n15 : nx ≤ 1000000000000000 := by omega
      by_cases hlt : i < m
      · have i1 : (i : Int) < len1 := by omega
        have i2 : (i : Int) < 100 := by omega
        obtain ⟨b, off, s, rfl, hbw, hs, q0, q1, q2, ⟨ra, rc, q3, hrl, hra⟩, z0, z1, t0, t1⟩ := SAH.out.at i (by rw [HL.out]; omega)
        have c0 := (HA.out.cell (p := ⟨b, off + i * 4, none⟩) hbw (fun h => h)).trans q0
        have c1 := (HA.out.cell (p := ⟨b, off + i * 4 + 1, none⟩) hbw (fun h => h)).trans q1
        have c2 := (HA.out.cell (p := ⟨b, off + i * 4 + 2, none⟩) hbw (fun h => h)).trans q2
        have c3 := (HA.out.cell (p := ⟨b, off + i * 4 + 3, none⟩) hbw (fun h => h)).trans q3
        obtain ⟨k, z, t, li⟩ := s
        simp only at c0 c1 c2 c3 hrl hra z0 z1 t0 t1
        obtain ⟨n, HNN⟩ : ∃ n, Hid (li.length = n) := ⟨_, rfl⟩
        rw [HNN.out] at c3 hrl
        unfold maxLen at hrl
        have hrl' : (n : Int) ≤ 9223372036854775807 := by omega
        have RAH := mkHid (hra.kept HA.out (fun x hx => ⟨hx, fun h => h⟩))
        have AW := mkHid ((Apart.refl (fun _ => False) wr).alloc (.cells #[.int .i64 k, .int .i64 z, .int .i64 t, .slice ra n rc] 32))
        have SW := mkHid (heap_alloc_new wr (.cells #[.int .i64 k, .int .i64 z, .int .i64 t, .slice ra n rc] 32))
        obtain ⟨sb, HSB⟩ : ∃ b, Hid (wr.heap.size = b) := ⟨_, rfl⟩
        obtain ⟨W, HW⟩ : ∃ W, Hid (wr.alloc (.cells #[.int .i64 k, .int .i64 z, .int .i64 t, .slice ra n rc] 32) = W) := ⟨_, rfl⟩
        rw [HW.out] at AW SW
        rw [HSB.out] at SW
        have BW := mkHid (BO.out.on AW.out)
        have WA := mkHid (HA.out.zz AW.out)
        have hrsb : rb < sb := by rw [← HSB.out]; exact BO.out.rf.lt
        have hBsb : B ≤ sb := by rw [← HB.out, ← HSB.out]; exact HA.out.size
        clear q0 q1 q2 q3 hs hra hbw
        obtain ⟨d0, d1, d2, d3, -⟩ := cells4 SW.out
        by_cases hk0 : k = 0
        · subst hk0
          go_wp2_with fail
          rw [HW.out, HSB.out]
          clear c0 c1 c2 c3
          by_cases hx : sndE la L.length z t = 0
          · obtain ⟨y, HY⟩ : ∃ y, Hid (nx % 65536 = y) := ⟨_, rfl⟩
            refine (send_fit BW.out.hs BW.out.ok z t y hx n15 HY.out).mono ?_
            rintro e w5 ⟨rfl, h5, a5⟩
            have S5 := mkHid (a5.heap SW.out (by omega))
            have R5 := mkHid (BW.out.rf.kept a5 (fun k h1 h2 e => by omega))
            have H5 := mkHid h5
            have A5 := mkHid (WA.out.trans a5 (fun j hj e => by rw [HB.out] at hj; omega))
            clear h5 a5 d0 d1 d2 d3
            obtain ⟨d0, d1, d2, d3, -⟩ := cells4 S5.out
            go_wp2_with fail
            refine (rsend_ok R5.out BW.out.ok z t y hx n15 HY.out).mono ?_
            rintro e w6 ⟨rfl, r6, a6⟩
            have hz : 0 ≤ z ∧ z ≤ 1500 ∧ L.length < 1024 ∧ 0 ≤ t ∧ t ≤ 1125899906842624 ∧ la ≤ t := by unfold sndE at hx; repeat' split at hx <;> omega
            have B6 := mkHid (show Bo w6 hb mb rb a0 (nx + 1) t (L ++ [(nx, z, t)]) from ⟨H5.out.kept a6 (by omega) (by omega), r6, BW.out.ok.send z t hz.1 hz.2.1 hz.2.2.2.2.2 hz.2.2.2.2.1 hz.2.2.1, hbr, mbr⟩)
            have A6 := mkHid (A5.out.trans a6 (fun j hj e => by rw [HB.out] at hj; omega))
            clear r6 a6 hz d0 d1 d2 d3 hx
            have F20 := mkHid (flight_any B6.out.hs)
            have F21 := mkHid (rflight_any B6.out.rf B6.out.ok)
            have F22 := mkHid (count_any B6.out.hs)
            have F23 := mkHid (rcount_any B6.out.rf)
            have F24 := mkHid (next_any B6.out.hs)
            have F25 := mkHid (rnext_any B6.out.rf)
            go_wp2_with (first
              | (go_at_call 20; refine F20.out.mono ?_; rintro e y1 ⟨rfl, rfl⟩)
              | (go_at_call 21; refine F21.out.mono ?_; rintro e y1 ⟨rfl, rfl⟩)
              | (go_at_call 22; refine F22.out.mono ?_; rintro e y1 ⟨rfl, rfl⟩)
              | (go_at_call 23; refine F23.out.mono ?_; rintro e y1 ⟨rfl, rfl⟩)
              | (go_at_call 24; refine F24.out.mono ?_; rintro e y1 ⟨rfl, rfl⟩)
              | (go_at_call 25; refine F25.out.mono ?_; rintro e y1 ⟨rfl, rfl⟩))
            go_roundw
            case rel => exact ⟨i + 1, nx + 1, t, _, by omega, by omega, by go_num, by omega, B6.out, A6.out⟩
            case measure => simp [intOf]; omega
          · obtain ⟨x, HX⟩ : ∃ x, Hid (sndE la L.length z t = x) := ⟨_, rfl⟩
            have hx0 : ¬ x = 0 := by rw [← HX.out]; exact hx
            refine (send_no BW.out.hs z t BW.out.ok.len x HX.out hx0).mono ?_
            rintro e w5 ⟨rfl, rfl⟩
            go_wp2_with fail
            refine (rsend_no BW.out.rf z t x BW.out.ok.len HX.out hx0).mono ?_
            rintro e w6 ⟨rfl, rfl⟩
            clear d0 d1 d2 d3
            have F20 := mkHid (flight_any BW.out.hs)
            have F21 := mkHid (rflight_any BW.out.rf BW.out.ok)
            have F22 := mkHid (count_any BW.out.hs)
            have F23 := mkHid (rcount_any BW.out.rf)
            have F24 := mkHid (next_any BW.out.hs)
            have F25 := mkHid (rnext_any BW.out.rf)
            go_wp2_with (first
              | (go_at_call 20; refine F20.out.mono ?_; rintro e y1 ⟨rfl, rfl⟩)
              | (go_at_call 21; refine F21.out.mono ?_; rintro e y1 ⟨rfl, rfl⟩)
              | (go_at_call 22; refine F22.out.mono ?_; rintro e y1 ⟨rfl, rfl⟩)
              | (go_at_call 23; refine F23.out.mono ?_; rintro e y1 ⟨rfl, rfl⟩)
              | (go_at_call 24; refine F24.out.mono ?_; rintro e y1 ⟨rfl, rfl⟩)
              | (go_at_call 25; refine F25.out.mono ?_; rintro e y1 ⟨rfl, rfl⟩))
            go_roundw
            case rel => exact ⟨i + 1, nx, la, _, by omega, by omega, by go_num, by omega, BW.out, WA.out⟩
            case measure => simp [intOf]; omega
        · by_cases hk1 : k = 1
          · subst hk1
            go_upto_region 16 with fail
            rw [HW.out, HSB.out]
            clear c0 c1 c2 c3
            by_cases h3k : (3000 : Int) < n
            · go_wp2
              clear d0 d1 d2 d3
              go_roundw
              case rel => exact ⟨i + 1, nx, la, L, by omega, by omega, by go_num, by omega, BW.out, WA.out⟩
              case measure => simp [intOf]; omega
            · have hn3 : (n : Int) ≤ 3000 := by omega
              have hWs : sb < W.heap.size := lt_of_heap SW.out
              have A3 := mkHid ((Apart.refl (fun _ => False) W).alloc (.cells #[] 62))
              obtain ⟨g0, g1, g2, g3, -⟩ := cells4 (A3.out.heap SW.out (fun h => h))
              have OE := mkHid (own_empty W W.heap.size 62 5 (Nat.le_refl _))
              have RAW := mkHid (RAH.out.kept AW.out (fun x hx => ⟨by have := HA.out.size; omega, fun h => h⟩))
              have RS := mkHid (show SrcN (W.alloc (.cells #[] 62)) 5 (.slice ra n rc) n (rC li) by
                have := ra_src (c := rc) (RAW.out.kept A3.out (fun x hx => ⟨by have := WA.out.size; omega, fun h => h⟩))
                rw [HNN.out] at this
                exact this)
              obtain ⟨N, HNX⟩ : ∃ N, Hid ((hrG nx L li).length = N) := ⟨_, rfl⟩
              obtain ⟨M, HMX⟩ : ∃ M, Hid ((hrL nx L li).length = M) := ⟨_, rfl⟩
              have hN3 : (N : Int) ≤ 3000 := by have := hrG_len nx li L; rw [HNX.out, HNN.out] at this; omega
              have hM3 : (M : Int) ≤ 3000 := by have := hrL_len nx li L; rw [HMX.out, HNN.out] at this; omega
              go_wp2_with (at_builtin; refine wpList_append_told _ rfl (.tmp 93) (.tmp 95) 30 rfl W.heap.size 62 i6 _ 5 32 Try.underlying30 hi6 hz60 hz61 hz62 rfl (by decide) _ 0 [] rfl OE.out _ n (rC li) rfl RS.out (one_rC li) (by unfold maxLen; omega) (by omega) (by simp) ?_; intro v6 w6 hown hgr hx; have O6 := mkHid hown; have B6 := mkHid (show Apart (fun x => W.heap.size ≤ x) W w6 from ((Apart.refl (fun x => W.heap.size ≤ x) W).alloc (.cells #[] 62)).grown hgr (fun x hx e => (OE.out.lt x e).1)); clear hown hgr hx; obtain ⟨e0, e1, e2, e3, -⟩ := cells4 (B6.out.heap SW.out (by omega)))
              obtain ⟨ad, cp, hv⟩ := ownsRow_slice O6.out
              subst hv
              rw [Nat.zero_add, List.nil_append] at O6
              simp only [Nat.zero_add]
              have hz6 := B6.out.size
              have S6 := mkHid (B6.out.heap SW.out (by omega))
              have H6 := mkHid (BW.out.hs.kept B6.out (by omega) (by omega))
              obtain ⟨hl1, hl2⟩ := BW.out.hs.lt
              have hrW := BW.out.rf.lt
              have R6 := mkHid (BW.out.rf.kept B6.out (fun k h1 h2 h3 => by omega))
              have RA6 := mkHid (own_ra (N := fun b => b < w6.heap.size ∧ b ≠ hb ∧ b ≠ mb) O6.out HNN.out.symm (fun x h1 h2 => ⟨h2, by omega, by omega⟩))
              have AF6 := mkHid (WA.out.trans B6.out (fun j hj e => by have := WA.out.size; omega))
              clear d0 d1 d2 d3 g0 g1 g2 g3 e0 e1 e2 e3
              refine (hear_n H6.out BW.out.ok n15 ad n cp li HNN.out t RA6.out (by omega) N M HNX.out HMX.out).mono ?_
              rintro e w7 ⟨b1, p1, b2, p2, rfl, og, ol, h7, ok7, ap7⟩
              have OG := mkHid og
              have OL := mkHid ol
              have H7 := mkHid h7
              have OK7 := mkHid ok7
              have S7 := mkHid (ap7.heap S6.out (by omega))
              have R7 := mkHid (R6.out.kept ap7 (fun k h1 h2 h3 => by omega))
              have AF7 := mkHid (AF6.out.trans ap7 (fun j hj e => by rw [HB.out] at hj; omega))
              have O7 := mkHid (ownsRow_apart2 O6.out ap7 (fun k hk e => by have := (O6.out.lt k hk).1; omega))
              have hz7 := ap7.size
              have RA7 := mkHid (show RA (fun b => b < w7.heap.size ∧ b ≠ rb) w7 ra li from (RAH.out.kept ((Apart.refl _ _).trans AW.out (fun _ _ h => h)) (fun x hx => ⟨by have := HA.out.size; omega, fun h => h⟩)).kept ((B6.out.mono (Y := fun x => x = hb ∨ x = mb ∨ W.heap.size ≤ x) (fun _ _ h => .inr (.inr h))).trans ap7 (fun _ _ h => by rcases h with h | h; exact .inl h; exact .inr (.inl h))) (fun x hx => ⟨by have := WA.out.size; omega, by have := WA.out.size; have h9 := HB.out; omega⟩) |>.mono (fun x hx => ⟨by have := AF7.out.size; omega, by have h9 := HB.out; omega⟩))
              clear og ol h7 ok7 ap7
              obtain ⟨d0, d1, d2, d3, -⟩ := cells4 S7.out
              go_wp2_with fail
              refine (rhear_n R7.out BW.out.ok n15 ra n rc li HNN.out RA7.out (by omega) N M HNX.out HMX.out).mono ?_
              rintro e w8 ⟨b3, p3, b4, p4, rfl, rg, rl, r8, ap8⟩
              have AX := mkHid ((Apart.refl (fun _ => False) w8).alloc (.cells #[.slice b3 N p3, .slice b4 M p4] 42))
              have XB := mkHid (heap_alloc_new w8 (.cells #[.slice b3 N p3, .slice b4 M p4] 42))
              have S8 := mkHid (AX.out.heap (ap8.heap S7.out (by omega)) (fun h => h))
              have F8 := mkHid (show Bo _ hb mb rb a0 nx la (hrR nx L li) from (Bo.on ⟨H7.out.kept ap8 (by omega) (by omega), r8, OK7.out, hbr, mbr⟩ AX.out))
              have AF8 := mkHid ((AF7.out.trans ap8 (fun j hj e => by rw [HB.out] at hj; omega)).zz AX.out)
              have hz8 := ap8.size
              have OG8 := mkHid (ownsRow_apart2 (ownsRow_apart2 OG.out ap8 (fun k hk e => by have := (OG.out.lt k hk).1; omega)) AX.out (fun _ _ h => h))
              have OL8 := mkHid (ownsRow_apart2 (ownsRow_apart2 OL.out ap8 (fun k hk e => by have := (OL.out.lt k hk).1; omega)) AX.out (fun _ _ h => h))
              have RG8 := mkHid (ownsRow_apart2 rg AX.out (fun _ _ h => h))
              have RL8 := mkHid (ownsRow_apart2 rl AX.out (fun _ _ h => h))
              have O8 := mkHid (ownsRow_apart2 (ownsRow_apart2 O7.out ap8 (fun k hk e => by have := (O7.out.lt k hk).1; omega)) AX.out (fun _ _ h => h))
              have RA8 := mkHid ((RA7.out.kept ap8 (fun x hx => ⟨hx.1, hx.2⟩)).kept AX.out (fun x hx => ⟨by omega, fun h => h⟩))
              obtain ⟨xb, HXB⟩ : ∃ b, Hid (w8.heap.size = b) := ⟨_, rfl⟩
              obtain ⟨W8, HW8⟩ : ∃ W, Hid (w8.alloc (.cells #[.slice b3 N p3, .slice b4 M p4] 42) = W) := ⟨_, rfl⟩
              have hx8 : w8.heap.size ≤ W8.heap.size := by rw [← HW8.out]; exact AX.out.size
              rw [HW8.out] at XB S8 F8 AF8 OG8 OL8 RG8 RL8 O8 RA8 AX
              rw [HXB.out] at XB
              clear rg rl r8 ap8 d0 d1 d2 d3
              obtain ⟨d0, d1, d2, d3, -⟩ := cells4 S8.out
              obtain ⟨x0, x1, -⟩ := cells2 XB.out
              go_wp2_with fail
              rw [HW8.out, HXB.out]
              refine (ackeds_self _ _ _ _ _ N HNX.out (by omega) _ (own_aka OG8.out HNX.out.symm) (own_aka RG8.out HNX.out.symm)).mono ?_
              rintro e y1 ⟨rfl, a1⟩
              have AY1 := mkHid a1
              clear a1 d0 d1 d2 d3 x0 x1
              obtain ⟨d0, d1, d2, d3, -⟩ := cells4 (AY1.out.heap S8.out (fun h => h))
              obtain ⟨x0, x1, -⟩ := cells2 (AY1.out.heap XB.out (fun h => h))
              go_wp2_with fail
              refine (sents_self _ _ _ _ _ M HMX.out (by omega) _ (own_sna (ownsRow_apart2 OL8.out AY1.out (fun _ _ h => h)) HMX.out.symm) (own_sna (ownsRow_apart2 RL8.out AY1.out (fun _ _ h => h)) HMX.out.symm)).mono ?_
              rintro e y2 ⟨rfl, a2⟩
              have AY2 := mkHid (AY1.out.zz a2)
              clear a2 d0 d1 d2 d3 x0 x1
              obtain ⟨d0, d1, d2, d3, -⟩ := cells4 (AY2.out.heap S8.out (fun h => h))
              obtain ⟨x0, x1, -⟩ := cells2 (AY2.out.heap XB.out (fun h => h))
              go_wp2_with fail
              refine (reports_self _ _ _ _ _ n HNN.out (by omega) _ (ra_rpa (own_ra (N := fun b => b < y2.heap.size) (ownsRow_apart2 O8.out AY2.out (fun _ _ h => h)) HNN.out.symm (fun x h1 h2 => h2)) (fun b hb => hb)) (ra_rpa (RA8.out.kept AY2.out (fun x hx => ⟨by omega, fun h => h⟩)) (fun b hb => by have := AY2.out.size; omega))).mono ?_
              rintro e y3 ⟨rfl, a3⟩
              have AY3 := mkHid (AY2.out.zz a3)
              clear a3 d0 d1 d2 d3 x0 x1
              have F9 := mkHid (F8.out.on AY3.out)
              have AF9 := mkHid (AF8.out.zz AY3.out)
              have F20 := mkHid (flight_any F9.out.hs)
              have F21 := mkHid (rflight_any F9.out.rf F9.out.ok)
              have F22 := mkHid (count_any F9.out.hs)
              have F23 := mkHid (rcount_any F9.out.rf)
              have F24 := mkHid (next_any F9.out.hs)
              have F25 := mkHid (rnext_any F9.out.rf)
              go_wp2_with (first
                | (go_at_call 20; refine F20.out.mono ?_; rintro e y1 ⟨rfl, rfl⟩)
                | (go_at_call 21; refine F21.out.mono ?_; rintro e y1 ⟨rfl, rfl⟩)
                | (go_at_call 22; refine F22.out.mono ?_; rintro e y1 ⟨rfl, rfl⟩)
                | (go_at_call 23; refine F23.out.mono ?_; rintro e y1 ⟨rfl, rfl⟩)
                | (go_at_call 24; refine F24.out.mono ?_; rintro e y1 ⟨rfl, rfl⟩)
                | (go_at_call 25; refine F25.out.mono ?_; rintro e y1 ⟨rfl, rfl⟩))
              go_roundw
              case rel => exact ⟨i + 1, nx, la, _, by omega, by omega, by go_num, by omega, F9.out, AF9.out⟩
              case measure => simp [intOf]; omega
          · by_cases hk2 : k = 2
            · subst hk2
              obtain ⟨N, HNX⟩ : ∃ N, Hid ((exO a0 t L).length = N) := ⟨_, rfl⟩
              have hN3 : (N : Int) ≤ 9223372036854775807 := by have h1 := BW.out.ok.len; have h2 : (exO a0 t L).length ≤ L.length := List.length_filter_le _ _; rw [HNX.out] at h2; omega
              have BD := mkHid (BW.out.on (Apart.refl (fun _ => False) W).drew)
              have SD := mkHid ((Apart.refl (fun _ => False) W).drew.heap SW.out (fun h => h))
              have AD := mkHid (WA.out.drew)
              obtain ⟨hl1, hl2⟩ := BD.out.hs.lt
              have hrW := BD.out.rf.lt
              have hsW := lt_of_heap SD.out
              have E5 := mkHid (expire_n BD.out.hs BW.out.ok n15 t t0 t1 N HNX.out)
              have R5 := mkHid (rexpire_n BD.out.rf BW.out.ok t t0 t1 N HNX.out)
              go_upto_region 23 with fail
              rw [HW.out, HSB.out]
              clear c0 c1 c2 c3
              go_region_held3 (fun w' => w'.cell? ⟨sb, 2, none⟩ = some (.int .i64 t)) (go_keep) (first
                | (go_at_call 16; refine (sents_self _ _ _ _ _ N HNX.out hN3 _ S1.out S2.out).mono ?_; rintro e w9 ⟨rfl, a9⟩; have F9 := mkHid (F7.out.on a9); have A9 := mkHid (A7.out.zz a9); have D9 := (cells4 (a9.heap S7.out (fun h => h))).2.2.1)
                | (go_at_call 19; refine (rexpire_n RO5.out BW.out.ok t t0 t1 N HNX.out).mono ?_; rintro e w7 ⟨ad7, cp7, rfl, o7, r7, a7⟩; have F7 := mkHid (show Bo w7 hb mb rb a0 nx la (exR a0 t L) from ⟨HO5.out.kept a7 (by omega) (by omega), r7, (BW.out.ok.filter _), hbr, mbr⟩); have S1 := mkHid (own_sna (ownsRow_apart2 OO5.out a7 (fun k hk e => by have := (OO5.out.lt k hk).1; omega)) HNX.out.symm); have S2 := mkHid (own_sna o7 HNX.out.symm); have A7 := mkHid (AO5.out.trans a7 (fun j hj e => by rw [HB.out] at hj; omega)); have S7 := mkHid (a7.heap SO5.out (by omega)); have D7 := (cells4 S7.out).2.2.1)
                | (go_at_call 18; refine (expire_n HQ5.out BW.out.ok n15 t t0 t1 N HNX.out).mono ?_; rintro e w7 ⟨ad7, cp7, rfl, o7, h7, a7⟩; have F7 := mkHid (show Bo w7 hb mb rb a0 nx la (exR a0 t L) from ⟨h7, RQ5.out.kept a7 (fun k h1 h2 e => by omega), (BW.out.ok.filter _), hbr, mbr⟩); have S1 := mkHid (own_sna o7 HNX.out.symm); have S2 := mkHid (own_sna (ownsRow_apart2 OQ5.out a7 (fun k hk e => by have := (OQ5.out.lt k hk).1; omega)) HNX.out.symm); have A7 := mkHid (AQ5.out.trans a7 (fun j hj e => by rw [HB.out] at hj; omega)); have S7 := mkHid (a7.heap SQ5.out (by omega)); have D7 := (cells4 S7.out).2.2.1)
                | (go_at_call 18; refine E5.out.mono ?_; rintro e w5 ⟨ad5, cp5, rfl, o5, h5, a5⟩; have RO5 := mkHid (BD.out.rf.kept a5 (fun k h1 h2 e => by omega)); have HO5 := mkHid h5; have OO5 := mkHid o5; have AO5 := mkHid (AD.out.trans a5 (fun j hj e => by rw [HB.out] at hj; omega)); have SO5 := mkHid (a5.heap SD.out (by omega)); have D5 := (cells4 SO5.out).2.2.1)
                | (go_at_call 19; refine R5.out.mono ?_; rintro e w5 ⟨ad5, cp5, rfl, o5, r5, a5⟩; have HQ5 := mkHid (BD.out.hs.kept a5 (by omega) (by omega)); have RQ5 := mkHid r5; have OQ5 := mkHid o5; have AQ5 := mkHid (AD.out.trans a5 (fun j hj e => by rw [HB.out] at hj; omega)); have SQ5 := mkHid (a5.heap SD.out (by omega)); have D5 := (cells4 SQ5.out).2.2.1))
              all_goals
                clear d0 d1 d2 d3
                have F20 := mkHid (flight_any F9.out.hs)
                have F21 := mkHid (rflight_any F9.out.rf F9.out.ok)
                have F22 := mkHid (count_any F9.out.hs)
                have F23 := mkHid (rcount_any F9.out.rf)
                have F24 := mkHid (next_any F9.out.hs)
                have F25 := mkHid (rnext_any F9.out.rf)
                go_wp2_with (first
                  | (go_at_call 20; refine F20.out.mono ?_; rintro e y1 ⟨rfl, rfl⟩)
                  | (go_at_call 21; refine F21.out.mono ?_; rintro e y1 ⟨rfl, rfl⟩)
                  | (go_at_call 22; refine F22.out.mono ?_; rintro e y1 ⟨rfl, rfl⟩)
                  | (go_at_call 23; refine F23.out.mono ?_; rintro e y1 ⟨rfl, rfl⟩)
                  | (go_at_call 24; refine F24.out.mono ?_; rintro e y1 ⟨rfl, rfl⟩)
                  | (go_at_call 25; refine F25.out.mono ?_; rintro e y1 ⟨rfl, rfl⟩))
                go_roundw
                case rel => exact ⟨i + 1, nx, la, _, by omega, by omega, by go_num, by omega, F9.out, A9.out⟩
                case measure => simp [intOf]; omega
            · go_upto_region 25 with fail
              rw [HW.out, HSB.out]
              clear c0 c1 c2 c3 d0 d1 d2 d3
              have F20 := mkHid (flight_any BW.out.hs)
              have F21 := mkHid (rflight_any BW.out.rf BW.out.ok)
              have F22 := mkHid (count_any BW.out.hs)
              have F23 := mkHid (rcount_any BW.out.rf)
              have F24 := mkHid (next_any BW.out.hs)
              have F25 := mkHid (rnext_any BW.out.rf)
              go_wp2_with (first
                | (go_at_call 20; refine F20.out.mono ?_; rintro e y1 ⟨rfl, rfl⟩)
                | (go_at_call 21; refine F21.out.mono ?_; rintro e y1 ⟨rfl, rfl⟩)
                | (go_at_call 22; refine F22.out.mono ?_; rintro e y1 ⟨rfl, rfl⟩)
                | (go_at_call 23; refine F23.out.mono ?_; rintro e y1 ⟨rfl, rfl⟩)
                | (go_at_call 24; refine F24.out.mono ?_; rintro e y1 ⟨rfl, rfl⟩)
                | (go_at_call 25; refine F25.out.mono ?_; rintro e y1 ⟨rfl, rfl⟩))
              go_roundw
              case rel => exact ⟨i + 1, nx, la, _, by omega, by omega, by go_num, by omega, BW.out, WA.out⟩
              case measure => simp [intOf]; omega
      · obtain rfl : m = i := by omega
        have A9 := mkHid (HA.out.belowF B (by rw [HB.out]; exact Nat.le_refl _))
        rcases hm3 with h100 | hl
        · subst h100
          by_cases hle : (100 : Int) < len1
          · go_wp2_with (go_at_call 26; refine (WK.out _).mono ?_; rintro e w8 ⟨rfl, b8⟩)
            go_ret
            exact ⟨rfl, A9.out.trans (b8.mono (by rw [← HB.out]; exact A9.out.size))⟩
          · obtain rfl : len1 = 100 := by omega
            go_wp2_with (go_at_call 26; refine (WK.out _).mono ?_; rintro e w8 ⟨rfl, b8⟩)
            go_ret
            exact ⟨rfl, A9.out.trans (b8.mono (by rw [← HB.out]; exact A9.out.size))⟩
        · subst hl
          go_wp2_with (go_at_call 26; refine (WK.out _).mono ?_; rintro e w8 ⟨rfl, b8⟩)
          go_ret
          exact ⟨rfl, A9.out.trans (b8.mono (by rw [← HB.out]; exact A9.out.size))⟩

set_option maxRecDepth 100000 in
theorem lifted (os : Os) (started : os.Started) (H : Type) (enc : TypeId × Value → H) :
    ReturnsInHanded {} Try.checked os 3 .any (Rows.historyPlaysSpec.pre6 enc Try.prog Try.f3 Rows.historyPlaysRow.domain false) (Rows.historyPlaysSpec.post enc Try.prog Try.f3 false true false false) := by
  refine returnsInHanded_of_change (C := Try.checked) own started (by kernel_rfl) Try.func3
    (ChangeSpec.witness6 (enc := enc) (C := Try.checked) false ⟨#[], #[.int .i64 0, .slice none 0 0], []⟩ 8 (by kernel_rfl) (by kernel_rfl) (by kernel_rfl) (by kernel_rfl)) ?_
  intro W base args ds gs before hval0 hW hcnd _
  have hval : ∀ (j : Nat) t v, Try.f3.params[j]? = some t → args[j]? = some v → Value.okWide Try.prog W .any base t v := hval0
  have hW' := hW
  obtain ⟨p, q, hA0, hV, rfl, hfz, hnd⟩ := hW
  have hA : DataW.TrodAll enc Try.prog W 0 (fun _ => true) true Try.f3.params.toList args.toList ds p := hA0
  rw [Try.params3] at hA hval
  obtain ⟨v0, vs0, d0, ds0, p0, q0, hargs, rfl, rfl, h0, r0⟩ := trodAll_cons hA
  obtain ⟨v1, vs1, d1, ds1, p1, q1, rfl, rfl, rfl, h1, r1⟩ := trodAll_cons r0
  obtain ⟨rfl, rfl, rfl⟩ := trodAll_nil r1
  obtain rfl : args = #[v0, v1] := by cases args; simp_all
  obtain ⟨rfl, rfl⟩ := trodVars_none hV
  obtain ⟨a0, rfl, rfl, rfl, w0⟩ := open_int Try.underlying2 (hval 0 2 v0 rfl rfl) h0
  obtain ⟨a1, len1, cap1, rfl⟩ := okWide_slice Try.underlying22 (hval 1 22 v1 rfl rfl)
  have k1 := h1
  have lt1 : ∀ x ∈ p1, x.block < W.heap.size := by obtain ⟨m, hm⟩ := k1; exact DataW.trod_lt m _ _ _ hm
  have w1 := open1 h1
  clear hA0 hval0
  refine (walk a0 a1 len1 cap1 W w0 w1).mono fun e W' ⟨he, bel⟩ => ?_
  subst he
  exact ⟨_, rfl, _, _, _, [], _, [], hW', trodAll_mk1 (shut_bool Try.underlying4 _), (trodAll_cons_mk (shut_int Try.underlying2 w0) (trodAll_cons_mk (Below.trod laidOut (by kernel_rfl) (of_decide_eq_true (by kernel_rfl)) k1 bel lt1) trodAll_mk0)), rfl, bel.frame _, fun h => by cases h⟩

theorem over : Rows.historyPlaysRow.holds Try.pinned (OpenSpec.ofChange Rows.historyPlaysSpec) :=
  OpenClaim.holds_of_wide 3 Try.f3 rfl rfl rfl rfl rfl rfl rfl ⟨rfl, rfl, rfl, rfl, rfl⟩ rfl rfl rfl rfl rfl (by kernel_rfl) Try.func3 (by kernel_rfl)
    (of_decide_eq_true (by kernel_rfl)) (by unfold Func.isWrapper; first | (rw [if_pos (by decide +kernel)]; kernel_rfl) | (rw [if_neg (by decide +kernel)]; exact ⟨rfl, rfl⟩))
    (fun os started H enc _ => lifted os started H enc)
end Go.Proofs.Ytdojphkibgfomaa.historyPlays
namespace Go.Proofs.Ytdojphkibgfomaa
/-- The statement. -/
theorem historyPlays_holds : Rows.HistoryPlaysSaid := historyPlays.over
#print axioms historyPlays_holds
end Go.Proofs.Ytdojphkibgfomaa
