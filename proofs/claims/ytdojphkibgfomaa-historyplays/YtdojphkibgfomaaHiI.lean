/-
  What Expire hands back, and what is remembered then.
-/
import Derived.Test.YtdojphkibgfomaaHiH
namespace Go.Proofs.Ytdojphkibgfomaa
open Go.RowKit Go.Maps

theorem invK2 (key : Value) (kl : Lit) (h : keyOf Try.prog 2 key = some kl) : ∃ x, key = Value.int .i64 x := by
  obtain ⟨x, e, _, _⟩ := Maps.keyOf_int_inv Try.underlying2 h
  exact ⟨x, e⟩
theorem invV2 (v : Value) (y : DataW Unit × List MemPlace) (h : sR v = some y) : ∃ c : Sn, v = (fun c : Sn => Value.agg #[.int .i64 c.1, .int .i64 c.2.1, .int .i64 c.2.2]) c := by
  obtain ⟨s, e, _⟩ := sR_inv h
  exact ⟨s, e⟩
theorem sortv_any {w : World} {B n cp : Nat} {ad : Option Addr} {l : List Sn} (h : w.ownsRow B 56 3 (.slice ad n cp) n (sC l)) (hn : n = l.length) (hl : n ≤ 1000000) :
    Calls Try.prog 35 #[.slice ad n cp, .func (.func 36) #[] #[]] w fun e w' => e = .returned (.tuple #[]) ∧ ∃ d : List Sn, d.Perm l ∧ d.Pairwise (fun a b => ¬ b.1 < a.1) ∧ w'.ownsRow B 56 3 (.slice ad n cp) n (sC d) ∧ Apart (fun k => B ≤ k) w w' := by
  rcases h.2 with ⟨e, h0⟩ | ⟨g, cap, cur, e, hB, _⟩
  · have e1 : l = [] := List.eq_nil_of_length_eq_zero (by omega)
    subst h0
    refine (sort_none ad cp w).mono ?_
    rintro e w' ⟨rfl, rfl⟩
    exact ⟨rfl, l, List.Perm.refl _, by rw [e1]; exact List.Pairwise.nil, h, Apart.refl _ _⟩
  · obtain ⟨rfl, rfl⟩ : ad = some ⟨g, 0, none⟩ ∧ cp = cap := by simpa using e
    refine (sort_any h hn hl).mono ?_
    rintro e w' ⟨rfl, d, h1, h2, h3, h4⟩
    exact ⟨rfl, d, h1, h2, h3, h4.mono (fun k _ e => by omega)⟩
set_option maxRecDepth 100000 in
set_option maxHeartbeats 4000000 in
theorem expire_any {w : World} {hb mb : Nat} {T nx la : Int} {L : List Sn} (h : Hs w hb mb T nx la L) (ok : Ok nx la L) (n1 : nx ≤ 1000000000000000) (now : Int) (w1 : -9223372036854775808 ≤ now) (w2 : now ≤ 9223372036854775807) :
    Calls Try.prog 18 #[.pointer (some ⟨hb, 0, none⟩), .int .i64 now] w fun e w' => ∃ v, e = .returned v ∧ w'.ownsRow w.heap.size 56 3 v (exO T now L).length (sC (exO T now L)) ∧ Hs w' hb mb T nx la (exR T now L) ∧ Apart (fun k => k = hb ∨ k = mb) w w' := by
  have H0 := mkHid h
  have OK := mkHid ok
  obtain ⟨hlb, hlm⟩ := h.lt
  have hne := h.ne
  obtain ⟨i3, hi3, hz30, hz31, hz32⟩ := info56
  have LL := mkHid ok.len
  obtain ⟨n, HN⟩ : ∃ n, Hid (L.length = n) := ⟨_, rfl⟩
  obtain ⟨it, HIT⟩ : ∃ b, Hid (w.heap.size = b) := ⟨_, rfl⟩
  have hitw : w.heap.size ≤ it := by rw [HIT.out]; exact Nat.le_refl _
  obtain ⟨c0, c1, c2, c3, c4, -⟩ := cells5 h.box
  have hown := h.map
  go_enter Try.func18, Try.ntmps18
  go_wp2_with (first
    | (at_range; refine wpList_range_own _ rfl _ 69 rfl 2 56 law2 Try.underlying69 sR mb L.length (mD L) rfl hown ?_; intro w0 hrg0 hg0 hs0)
    | go_in)
  go_frame
  rw [HIT.out] at hrg0 hs0
  rw [HIT.out]
  have E0 := mkHid (show Ex w mb it (exB T now) L w0 (.slice none 0 0) [] (size (mD L)) from ⟨by rw [lft_nil]; exact hrg0, by simp, List.Pairwise.nil, World.ownsRow_nil _ _ _ _, by simp [Value.ownBlock], (grown_apart' hg0).mono (fun i _ e => by cases e)⟩)
  clear c0 c1 c2 c3 c4 hown hrg0 hg0 hs0 h ok
  go_loopw [5, 7] (fun v _ wr => ∃ (M : List Sn) (cnt : Nat), Ex w mb it (exB T now) L wr v M cnt) (fun _ _ wr => wr.rangeLeft mb it)
  case atStart => exact ⟨[], _, E0.out⟩
  case round =>
    obtain ⟨M, cnt, hex⟩ := hrel
    have EX := mkHid hex
    have hrg := hex.rg
    clear hex
    go_wp2_with (first
      | (at_next; refine wpList_next_ranges _ rfl _ rfl 2 law2 sR (Value.int .i64) (fun c : Sn => Value.agg #[.int .i64 c.1, .int .i64 c.2.1, .int .i64 c.2.2]) invK2 invV2 mb it L.length (mD L) _ cnt rfl hrg ?_ ?_)
      | go_in)
    · intro hc0 hl0
      obtain ⟨ad, cp, hv⟩ := ownsRow_slice EX.out.own
      subst hv
      have HP := mkHid (visited OK.out.rise EX.out.mem EX.out.one (lft_done hl0))
      have hln := EX.out.len OK.out.rise
      have ELN := mkHid ((HP.out.filter (exB T now)).length_eq)
      have EOWN := mkHid EX.out.own
      have EAP := mkHid EX.out.ap
      have hll := LL.out
      obtain ⟨m, HMM⟩ : ∃ m, Hid ((M.filter (exB T now)).length = m) := ⟨_, rfl⟩
      rw [HMM.out] at EOWN hln ELN ⊢
      have hm : m ≤ 1024 := by omega
      have SRT := mkHid (sortv_any EOWN.out HMM.out.symm (by omega))
      clear hl0 hc0 hrg hll hln EX
      go_wp2_with fail
      refine SRT.out.mono ?_
      rintro e w3 ⟨rfl, d, hp, hs, ho, ha⟩
      obtain rfl := sorted_is OK.out.rise (exB T now) HP.out hp (List.Pairwise.imp (fun h => by omega) hs)
      have O3 := mkHid ho
      have A3 := mkHid (EAP.out.trans ha (fun i hi e => by omega))
      have HH := mkHid (H0.out.kept A3.out (fun h => h) (fun h => h))
      have EON := mkHid (show (exO T now L).length = m from ELN.out.symm)
      clear hp hs ho ha SRT
      have F0 := mkHid (show Hs w3 hb mb T nx la (kept L (exO T now L) 0) ∧ Ok nx la (kept L (exO T now L) 0) ∧ w3.ownsRow w.heap.size 56 3 (.slice ad m cp) m (sC (exO T now L)) ∧ Apart (fun k => k = hb ∨ k = mb) w w3 by
        rw [kept_zero]; exact ⟨HH.out, OK.out, O3.out, A3.out.mono (fun _ _ h => h.elim)⟩)
      have hm' : (m : Int) ≤ 1024 := by omega
      have RO := mkHid (show Rise (exO T now L) from rise_filter OK.out.rise _)
      have KE := mkHid (show kept L (exO T now L) m = exR T now L from kept_end OK.out.rise (exB T now) (Nat.le_of_eq EON.out))
      have OL := mkHid (show ∀ s ∈ exO T now L, s ∈ L from fun s hs => (List.mem_filter.1 hs).1)
      clear hm ELN EOWN HMM HP
      go_wp2
      go_loopw [9, 38] (fun _ x wr => ∃ k : Nat, k ≤ m ∧ x = .int .i64 (k : Int) ∧ (Hs wr hb mb T nx la (kept L (exO T now L) k) ∧ Ok nx la (kept L (exO T now L) k) ∧ wr.ownsRow w.heap.size 56 3 (.slice ad m cp) m (sC (exO T now L)) ∧ Apart (fun k => k = hb ∨ k = mb) w wr)) (fun _ x _ => m - (intOf x).toNat)
      case atStart => exact ⟨0, Nat.zero_le _, rfl, F0.out⟩
      case round =>
        obtain ⟨k, hkm, rfl, hf⟩ := hrel
        have FF := mkHid hf
        clear hf
        by_cases hlt : k < m
        · have i0 : (0 : Int) ≤ k := by omega
          have i1 : (k : Int) < m := by omega
          have hk2 : k < (exO T now L).length := by rw [EON.out]; exact hlt
          obtain ⟨s, HS⟩ : ∃ s, Hid ((exO T now L)[k]? = some s) := ⟨_, List.getElem?_eq_getElem hk2⟩
          obtain ⟨g, cap, hv, hgB, q0, q1, q2⟩ := own_at FF.out.2.2.1 EON.out.symm HS.out
          obtain ⟨rfl, rfl⟩ : ad = some ⟨g, 0, none⟩ ∧ cp = cap := by simpa using hv
          have KM := mkHid (kept_mem HS.out RO.out (OL.out s (List.mem_of_getElem? HS.out)))
          have KS := mkHid (kept_succ (L := L) HS.out)
          clear hv hk2
          have A5 := mkHid ((Apart.refl (fun _ => False) wr).alloc (.cells #[.int .i64 s.1, .int .i64 s.2.1, .int .i64 s.2.2] 56))
          have H5 := mkHid (FF.out.1.kept A5.out (fun h => h) (fun h => h))
          have FG := mkHid (forget_any H5.out FF.out.2.1 s KM.out n1)
          go_wp2_with fail
          refine FG.out.mono ?_
          rintro e w6 ⟨rfl, h6, a6⟩
          have H6 := mkHid h6
          have A6 := mkHid a6
          have O6 := mkHid (show w6.ownsRow w.heap.size 56 3 (.slice (some ⟨g, 0, none⟩) m cp) m (sC (exO T now L)) from ownsRow_apart (ownsRow_apart FF.out.2.2.1 A5.out (fun _ _ h => h)) a6 (fun k hk e => by omega))
          clear h6 a6 q0 q1 q2
          go_wp2
          go_roundw
          case rel => exact ⟨k + 1, by omega, by go_num, by rw [← KS.out]; exact H6.out, by rw [← KS.out]; exact FF.out.2.1.filter _, O6.out, (FF.out.2.2.2.trans A5.out (fun _ _ h => h.elim)).trans A6.out (fun _ _ h => h)⟩
          case measure => simp [intOf]; omega
        · obtain rfl : m = k := by omega
          go_wp2
          go_ret
          refine ⟨_, rfl, ?_, ?_, FF.out.2.2.2⟩
          · rw [EON.out]; exact FF.out.2.2.1
          · rw [← KE.out]; exact FF.out.1
    · intro x a b c kl yd yp v1 cnt1 hwk hlk hwv hat hrg1 hlt hg1 hs1 hen
      obtain rfl := keyOf_inv hwk
      obtain ⟨hxL, hxM⟩ := lft_new hlk
      obtain ⟨hcL, hcx⟩ := came (c := (a, b, c)) OK.out.rise hwv hat hxL
      obtain rfl : a = x := hcx
      have HC := mkHid hcL
      have HX := mkHid (show ∀ u ∈ M, u.1 ≠ (a, b, c).1 from hxM)
      have HRG := mkHid (show v1.ranges Try.prog 2 sR mb it L.length (mD L) (fun z => lft L M z && !z.sameKey (kL (a, b, c).1)) cnt1 from hrg1)
      have HG := mkHid hg1
      have ht := OK.out.tim _ hcL
      have hla := OK.out.la1
      have V1 := mkHid (grown_apart' hg1)
      have AV := mkHid (show Apart (fun _ => False) w v1 from EX.out.ap.trans V1.out (fun i hi e => by cases e; omega))
      have A2 := mkHid ((Apart.refl (fun _ => False) v1).alloc (.cells #[.int .i64 a, .int .i64 b, .int .i64 c] 56))
      have SB := mkHid (show Bs (v1.alloc (.cells #[.int .i64 a, .int .i64 b, .int .i64 c] 56)) wr.heap.size (a, b, c) by rw [← hs1]; exact heap_alloc_new _ _)
      have SUB := mkHid (fun W => Sat.sub_any now c w1 w2 (by simp only at ht; omega) (by simp only at ht; omega) W)
      obtain ⟨y, HY⟩ : ∃ y, Hid (Sat.satH (now - c) = y) := ⟨_, rfl⟩
      rw [HY.out] at SUB
      have hex : exB T now (a, b, c) = decide (T < y) := by rw [← HY.out]; rfl
      obtain ⟨sb, HSB⟩ : ∃ b, Hid (wr.heap.size = b) := ⟨_, rfl⟩
      obtain ⟨W, HW⟩ : ∃ W, Hid (v1.alloc (.cells #[.int .i64 a, .int .i64 b, .int .i64 c] 56) = W) := ⟨_, rfl⟩
      rw [HW.out, HSB.out] at SB
      rw [HW.out] at A2
      have BX := mkHid ((AV.out.zz A2.out).heap H0.out.box (fun h => h))
      have hls := lt_of_heap SB.out
      clear hcL hxL hxM hrg1 hg1 hwv hat hlk hwk hrg
      go_upto_region 7 with fail
      rw [HW.out, HSB.out]
      obtain ⟨c0, c1, c2, c3, c4, -⟩ := cells5 BX.out
      obtain ⟨d0, d1, d2, -⟩ := cells3 SB.out
      simp only at d0 d1 d2
      go_region_held3 (fun w' => w'.cell? ⟨hb, 0, none⟩ = some (.int .i64 T) ∧ w'.cell? ⟨sb, 2, none⟩ = some (.int .i64 c)) (go_keep) (first | (go_at_call 34; refine (SUB.out _).mono ?_; rintro e w5 ⟨rfl, b5⟩; have A5 := mkHid (below_apart b5); have k0 := (cells5 (T := 71) (A5.out.heap BX.out (fun h => h))).1; have k2 := (cells3 (T := 56) (A5.out.heap SB.out (fun h => h))).2.2.1))
      clear c0 c1 c2 c3 c4 d0 d1 d2 k0 k2 b5
      have A12 := mkHid ((A2.out.zz (Apart.refl (fun _ => False) W).drew).zz A5.out)
      obtain ⟨d0, d1, d2, -⟩ := cells3 (A5.out.heap SB.out (fun h => h))
      simp only at d0 d1 d2
      by_cases hty : T < y
      · have HF := mkHid (show exB T now (a, b, c) = true by rw [hex]; exact decide_eq_true hty)
        have A13 := mkHid (A12.out.alloc (.cells #[.int .i64 a, .int .i64 b, .int .i64 c] 56))
        have O7 := mkHid (ownsRow_apart2 (ownsRow_apart2 EX.out.own V1.out (fun k hk e => EX.out.ne k hk (by cases e; rfl))) A13.out (fun _ _ h => h))
        have HLN := mkHid (EX.out.len OK.out.rise)
        go_wp2_with (at_builtin; refine wpList_append_told _ rfl (.tmp 30) (.tmp 32) 38 rfl w.heap.size 56 i3 _ 3 24 Try.underlying38 hi3 hz30 hz31 hz32 rfl (by decide) _ (M.filter (exB T now)).length (sC (M.filter (exB T now))) rfl O7.out (.slice (some ⟨w5.heap.size, 0, none⟩) 1 1) 1 (sE (a, b, c)) rfl (src_new w5 _ 56 3 rfl) (by intro u hu; exact one_sC [(a, b, c)] u (by rw [sC_one]; exact hu)) (by have := HLN.out; have := LL.out; unfold maxLen; omega) (by have := HLN.out; have := LL.out; omega) (AV.out.zz A13.out).size ?_; intro v6 w6 hown hgr hx; have E6 := mkHid (EX.out.more HC.out HX.out HF.out (ranges_apart HRG.out A13.out (fun h => h) (fun h => h)) (AV.out.zz A13.out) hlm (fun k hk => (EX.out.own.lt k hk).1) hown rfl hgr hx); clear hown hgr hx)
        go_roundw
        case rel => exact ⟨_, cnt1, E6.out⟩
        case measure => rw [E6.out.rg.left_eq, EX.out.rg.left_eq]; exact hlt
      · have HF := mkHid (show exB T now (a, b, c) = false by rw [hex]; exact decide_eq_false hty)
        have E6 := mkHid ((EX.out.next HC.out HX.out HF.out HRG.out HG.out hitw).on A12.out)
        go_wp2
        go_roundw
        case rel => exact ⟨_, cnt1, E6.out⟩
        case measure => rw [E6.out.rg.left_eq, EX.out.rg.left_eq]; exact hlt
end Go.Proofs.Ytdojphkibgfomaa
