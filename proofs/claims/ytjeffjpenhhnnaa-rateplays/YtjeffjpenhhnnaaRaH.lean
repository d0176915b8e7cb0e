/-
  The reference's meter takes a sample in.
-/
import Derived.Test.YtjeffjpenhhnnaaRaG
import Derived.Test.YtjeffjpenhhnnaaRaY
namespace Go.Proofs.Ytjeffjpenhhnnaa
open Go.RowKit

def RgP (M : Nat → Prop) (c : Nat) (win : Int) (en ear : Int) (L : List Sm) (F : List Bool) (x z : Int) (w : World) (e : Ending) (w' : World) : Prop :=
  e = .returned (.tuple #[]) ∧ ∃ M', Rr M' w' c win true (max en x) (min ear x) (stF win en L x z) (ftF 1 false F) ∧ (∀ k, M' k → M k ∨ w.heap.size ≤ k) ∧ Apart (fun k => k = c) w w'
theorem own_nil (w : World) (base : Nat) (e : TypeId) (size : Nat) : w.ownsRow base e size (.slice none 0 0) 0 [] := ⟨by simp, .inl ⟨rfl, rfl⟩⟩
set_option maxHeartbeats 8000000 in
set_option maxRecDepth 100000 in
theorem rgot {M : Nat → Prop} {w : World} {c : Nat} {win : Int} {sm : Bool} {en ear : Int} {L : List Sm} {F : List Bool} (h : Rr M w c win sm en ear L F) (w1 : 1 ≤ win) (w2 : win ≤ 1125899906842624) (en0 ear0 : Int) (hs : sm = true → en = en0 ∧ ear = ear0)
    (x z : Int) (hs2 : sm = false → en0 ≤ x ∧ x ≤ ear0) (n1 : -1125899906842624 ≤ en0) (n2 : en0 ≤ 1125899906842624) (hl : L.length ≤ 4095) (z0 : 0 ≤ z) (z1 : z ≤ 1500) (x1 : -1125899906842624 ≤ x) (x2 : x ≤ 1125899906842624) :
    Calls Try.prog 11 #[.pointer (some ⟨c, 0, none⟩), .int .i64 x, .int .i64 z] w (RgP M c win en0 ear0 L F x z w) := by
  have N := mkHid (rnote h false)
  rw [show b2i false = (0 : Int) from rfl] at N
  obtain ⟨i59, hi59, hz0, hz1, hz2⟩ := info59
  have HS := mkHid (And.intro hs hs2)
  have HB := mkHid (And.intro n1 (And.intro n2 hl))
  clear h hs hs2 n1 n2 hl
  go_enter Try.func11, Try.ntmps11
  go_wp2_with fail
  refine N.out.mono ?_
  rintro e v1 ⟨rfl, M1, ⟨lv, tv, b1, l1, t1, f1, mc1, ms1⟩, m1, a1⟩
  obtain ⟨la, lc, rfl⟩ := l1.slice
  have B1 := mkHid b1
  have LQ1 := mkHid l1
  have TQ1 := mkHid t1
  have R1 := mkHid (And.intro f1 (And.intro mc1 (And.intro ms1 m1)))
  have A1 := mkHid a1
  clear b1 l1 t1 f1 mc1 ms1 m1 a1 N
  obtain ⟨c0, c1, c2, c3, c4, c5, cf⟩ := cells6 B1.out
  clear c0 c1 c5
  go_upto_if 31 with fail
  go_cut [] (fun wc => ∃ e1 a1, Hid (Rb wc c win (.slice la L.length lc) true e1 a1 tv) ∧ Hid (Apart (fun k => k = c) v1 wc) ∧ Hid (max e1 x = max en0 x ∧ min a1 x = min ear0 x))
  case first =>
    cases sm with
    | true =>
      go_wp2_with fail
      go_meet
      exact ⟨en, ear, B1, mkHid (Apart.refl _ _), mkHid (by have := HS.out.1 (by first | rfl | trivial); omega)⟩
    | false =>
      have H1 := mkHid (heap_setCell_same v1 c 2 _ 53 (.bool true) B1.out)
      have H2 := mkHid (heap_setCell_same _ c 3 _ 53 (.int .i64 x) H1.out)
      have H3 := mkHid (heap_setCell_same _ c 4 _ 53 (.int .i64 x) H2.out)
      have cf1 := fun q => frozen_of H1.out q
      have cf2 := fun q => frozen_of H2.out q
      go_wp2_with fail
      go_meet
      exact ⟨x, x, H3, mkHid (((ap_set v1 c 2 _).trans (ap_set _ c 3 _) (fun _ _ h => h)).trans (ap_set _ c 4 _) (fun _ _ h => h)), mkHid (by have := HS.out.2 (by first | rfl | trivial); omega)⟩
  case rest =>
    obtain ⟨e1, a1, B2, A2, HE⟩ := hcut
    clear c2 c3 c4 cf
    obtain ⟨c0, c1, c2, c3, c4, c5, cf⟩ := cells6 B2.out
    clear c0 c1 c2 c5
    go_upto_region 4 with fail
    go_cut [] (fun wc => Hid (Rb wc c win (.slice la L.length lc) true (max en0 x) (min ear0 x) tv) ∧ Hid (Apart (fun k => k = c) v1 wc))
    case first =>
      have H1 := mkHid (fun v => heap_setCell_same wc c 3 _ 53 v B2.out)
      have cf1 := fun v q => frozen_of (H1.out v) q
      have key : ∀ p q, p = max en0 x → q = min ear0 x → Hid (Rb ((wc.setCell ⟨c, 3, none⟩ (.int .i64 p)).setCell ⟨c, 4, none⟩ (.int .i64 q)).drew c win (.slice la L.length lc) true (max en0 x) (min ear0 x) tv) ∧ Hid (Apart (fun k => k = c) v1 ((wc.setCell ⟨c, 3, none⟩ (.int .i64 p)).setCell ⟨c, 4, none⟩ (.int .i64 q)).drew) := by
        intro p q hp hq
        subst hp hq
        have h2 := heap_setCell_same _ c 4 _ 53 (.int .i64 (min ear0 x)) (H1.out (.int .i64 (max en0 x)))
        exact ⟨mkHid h2, mkHid ((A2.out.trans ((ap_set wc c 3 _).trans (ap_set _ c 4 _) (fun _ _ h => h)) (fun _ _ h => h)).drew)⟩
      go_region
      all_goals (try go_wp2)
      all_goals go_meet
      all_goals exact key _ _ (by have := HE.out; omega) (by have := HE.out; omega)
    case rest =>
      obtain ⟨B3, A3⟩ := hcut
      clear c3 c4 cf A2 HE B2
      obtain ⟨n, HN⟩ : ∃ n, Hid (L.length = n) := ⟨_, mkHid rfl⟩
      have hl := HB.out.2.2
      rw [HN.out] at B3 hl LQ1
      obtain ⟨ez, HEZ⟩ : ∃ y, Hid (max en0 x = y) := ⟨_, mkHid rfl⟩
      obtain ⟨ea, HEA⟩ : ∃ y, Hid (min ear0 x = y) := ⟨_, mkHid rfl⟩
      rw [HEZ.out, HEA.out] at B3
      have hez : -1125899906842624 ≤ ez ∧ ez ≤ 1125899906842624 := by have := HEZ.out; have := HB.out; omega
      have A0 := mkHid ((Apart.refl (fun _ => False) wc).alloc (.cells #[] 59))
      have OE := mkHid (own_empty wc wc.heap.size 59 2 (Nat.le_refl _))
      have S0 := mkHid (((LQ1.out.kept A3.out (fun k hk e => hk.2 e)).kept A0.out (fun _ _ h => h)).src)
      obtain ⟨c0, c1, c2, c3, c4, c5, cf⟩ := cells6 (B3.out.kept A0.out (fun h => h))
      clear c0 c2 c3 c4 c5 cf
      go_wp2_with (first | (at_builtin; refine wpList_append_told _ rfl (.tmp 66) (.tmp 70) 51 rfl wc.heap.size 59 i59 _ 2 16 Try.underlying51 hi59 hz0 hz1 hz2 rfl (by decide) _ _ _ rfl (ownsRow_apart O6.out ((Apart.refl (fun _ => False) _).alloc _) (fun _ _ h => h)) _ 1 [.int .i64 x, .int .i64 z] rfl (src_new w6 _ 59 2 rfl) (one_sE (x, z)) (by unfold maxLen; omega) (by omega) (by simp; omega) ?_; intro v7 w7 hown hgr hx; have O7 := mkHid hown; have B7 := mkHid ((B6.out.alloc _).grown hgr (fun x hx e => absurd hx (Nat.not_lt.2 (O6.out.lt x e).1))); clear hown hgr hx; obtain ⟨va, vc, hv⟩ := ownsRow_slice O7.out; subst hv) | (at_builtin; refine wpList_append_told _ rfl (.tmp 61) (.tmp 65) 51 rfl wc.heap.size 59 i59 _ 2 16 Try.underlying51 hi59 hz0 hz1 hz2 rfl (by decide) _ 0 [] rfl OE.out _ n (sC L) rfl S0.out (one_sC L) (by unfold maxLen; omega) (by omega) (by simp) ?_; intro v6 w6 hown hgr hx; have O6 := mkHid hown; have B6 := mkHid (A0.out.grown hgr (fun x hx e => absurd hx (Nat.not_lt.2 (OE.out.lt x e).1))); have hs6 := B6.out.size; clear hown hgr hx))
      clear hs6 c1 A0 OE S0 B6 O6
      rw [show 0 + n + 1 = n + 1 by omega] at O7
      obtain ⟨L2, HL2⟩ : ∃ l, Hid (L ++ [(x, z)] = l) := ⟨_, mkHid rfl⟩
      rw [show ([] : List Value) ++ sC L ++ [.int .i64 x, .int .i64 z] = sC (L ++ [(x, z)]) by rw [sC_app, sC_one]; rfl, HL2.out] at O7
      obtain ⟨n1, HN1⟩ : ∃ k, Hid (n + 1 = k) := ⟨_, mkHid rfl⟩
      have hn1 : n1 ≤ 4096 := by have := HN1.out; omega
      have hn1i : (n1 : Int) ≤ 4096 := by omega
      have hl2 : L2.length = n1 := by rw [← HL2.out, List.length_append, HN.out, List.length_singleton]; exact HN1.out
      rw [HN1.out] at O7 ⊢
      have HL2N := mkHid hl2
      have R7 := mkHid (B3.out.kept B7.out (fun h => h))
      have Q7 := mkHid (lq_own O7.out)
      clear hl hl2 O7
      have J0 := mkHid (own_nil w7 w7.heap.size 59 2)
      have AP0 := mkHid (Apart.refl (fun _ => False) w7)
      go_loopg [7, 8] n1 (fun kx s7 s8 wr => ∃ i : Nat, s8 = .int .i64 i ∧ i ≤ n1 ∧ kx = n1 - i ∧ Hid (wr.ownsRow w7.heap.size 59 2 s7 ((L2.take i).filter (inW win ez)).length (sC ((L2.take i).filter (inW win ez)))) ∧ Hid (Apart (fun _ => False) w7 wr))
      case atStart => exact ⟨0, rfl, Nat.zero_le _, rfl, J0, AP0⟩
      case round =>
        clear J0 AP0
        obtain ⟨i, rfl, hi, hkx, HO, AP⟩ := hrel
        have hfl : ((L2.take i).filter (inW win ez)).length ≤ i := Nat.le_trans (List.length_filter_le _ _) (List.length_take_le _ _)
        obtain ⟨sa, sc, hsv⟩ := ownsRow_slice HO.out
        subst hsv
        have R8 := mkHid (R7.out.kept AP.out (fun h => h))
        by_cases hlt : i < n1
        · have hlt1 : (i : Int) < n1 := by omega
          obtain ⟨s, hs⟩ : ∃ s, L2[i]? = some s := ⟨_, List.getElem?_eq_getElem (by rw [HL2N.out]; exact hlt)⟩
          have hst : (L2.take (i + 1)).filter (inW win ez) = (L2.take i).filter (inW win ez) ++ if inW win ez s then [s] else [] := by rw [List.take_add_one, hs, List.filter_append]; simp [List.filter_cons]
          obtain ⟨g, off, cc, e, hgw, hgc⟩ : ∃ g off cc, Value.slice va n1 vc = .slice (some ⟨g, off, none⟩) n1 cc ∧ g < w7.heap.size ∧ ∀ j u, (sC L2)[j]? = some u → w7.cell? ⟨g, off + j, none⟩ = some u := by
            rcases Q7.out with ⟨_, h, _⟩ | ⟨g, off, cc, e, _, _, _, hgw, _, h⟩
            · omega
            · exact ⟨g, off, cc, e, hgw, h⟩
          cases e
          obtain ⟨p, q⟩ := s
          have d0 := hgc _ _ (sC_at hs).1
          have d1 := hgc _ _ (sC_at hs).2
          rw [← Nat.add_assoc] at d1
          simp only at d0 d1
          rw [← AP.out.cell (p := ⟨g, off + i * 2, none⟩) hgw (fun h => h)] at d0
          rw [← AP.out.cell (p := ⟨g, off + i * 2 + 1, none⟩) hgw (fun h => h)] at d1
          have D0 := mkHid d0
          have D1 := mkHid d1
          have f0 := fun y => wd_cell D0.out y
          have r0 := fun y => (cells6 (wd_heap R8.out y)).1
          have r3 := fun y => (cells6 (wd_heap R8.out y)).2.2.2.1
          have hw : IntKind.i64.wrap (ez - win) = ez - win := by rw [IntKind.wrap_i64]; omega
          have hw2 : IntKind.i64.wrap ((i : Int) + 1) = (i : Int) + 1 := by rw [IntKind.wrap_i64]; omega
          clear hs hgc d0 d1
          by_cases hin : ez - win < p
          · rw [if_pos (show inW win ez (p, q) = true from decide_eq_true hin)] at hst
            have HST := mkHid hst
            clear hst
            go_upto_region 10 with fail
            refine wp_region_wd (by kernel_rfl) (by kernel_rfl) ?_
            repeat (go_big_quiet_step (fail))
            refine wpQuiet_nil ?_
            rintro _ ⟨y, rfl⟩
            have e0 := f0 y
            have e1 := wd_cell D1.out y
            have A9 := mkHid (AP.out.zz (wd_apart wr y))
            have O9 := mkHid (ownsRow_apart HO.out (wd_apart wr y) (fun _ _ h => h))
            obtain ⟨W9, HW9⟩ : ∃ x, Hid (wd wr y = x) := ⟨_, mkHid rfl⟩
            rw [HW9.out] at e0 e1 A9 O9 ⊢
            have hs9 := A9.out.size
            clear f0 r0 r3 D0 D1 R8 HO AP
            go_wp2_with (at_builtin; refine wpList_append_told _ rfl (.tmp 93) (.tmp 98) 51 rfl w7.heap.size 59 i59 _ 2 16 Try.underlying51 hi59 hz0 hz1 hz2 rfl (by decide) _ _ _ rfl (ownsRow_apart O9.out ((Apart.refl (fun _ => False) _).alloc _) (fun _ _ h => h)) _ 1 [.int .i64 p, .int .i64 q] rfl (src_new W9 _ 59 2 rfl) (one_sE (p, q)) (by unfold maxLen; omega) (by omega) (by simp; omega) ?_; intro v3 w3 hown hgr hx; have O3 := mkHid hown; have A3' := mkHid (((A9.out).alloc _).grown hgr (fun x hx e => absurd hx (Nat.not_lt.2 (O9.out.lt x e).1))); clear hown hgr hx; obtain ⟨ua, uc, hv⟩ := ownsRow_slice O3.out; subst hv)
            go_roundg (n1 - (i + 1))
            case measure => omega
            case rel => exact ⟨i + 1, by go_num, by omega, rfl, mkHid (by rw [HST.out, List.length_append, sC_app, sC_one]; exact O3.out), A3'⟩
          · rw [if_neg (show ¬ inW win ez (p, q) = true from fun h => hin (of_decide_eq_true h)), List.append_nil] at hst
            go_upto_region 10 with fail
            refine wp_region_wd (by kernel_rfl) (by kernel_rfl) ?_
            repeat (go_big_quiet_step (fail))
            refine wpQuiet_nil ?_
            rintro _ ⟨y, rfl⟩
            have A9 := mkHid (AP.out.zz (wd_apart wr y))
            have O9 := mkHid (ownsRow_apart HO.out (wd_apart wr y) (fun _ _ h => h))
            clear f0 r0 r3 D0 D1
            have HST := mkHid hst
            clear hst
            go_wp2_with fail
            go_roundg (n1 - (i + 1))
            case measure => omega
            case rel => exact ⟨i + 1, by go_num, by omega, rfl, mkHid (by rw [HST.out]; exact O9.out), A9⟩
        · obtain rfl : i = n1 := by omega
          have hst : (L2.take i).filter (inW win ez) = stF win en0 L x z := by rw [← HL2N.out, List.take_length, ← HL2.out, ← HEZ.out]; rfl
          rw [hst] at HO hfl
          rw [hst]
          obtain ⟨L3, HL3⟩ : ∃ l, Hid (stF win en0 L x z = l) := ⟨_, mkHid rfl⟩
          rw [HL3.out] at HO hfl ⊢
          clear hst
          obtain ⟨k3, HK3⟩ : ∃ k, Hid (L3.length = k) := ⟨_, mkHid rfl⟩
          rw [HK3.out] at HO hfl ⊢
          have hk3 : (k3 : Int) ≤ 4096 := by omega
          obtain ⟨c0, c1, c2, c3, c4, c5, cf⟩ := cells6 R8.out
          clear c0 c2 c3 c4 c5
          go_wp2_with fail
          first | go_end0 | ((try simp only [Exit.inBlock, Exit.then]); refine bodyPost_ret (results_none rfl _ _ _) rfl ?_)
          have R9 := heap_setCell_same wr c 1 _ 53 (.slice sa k3 sc) R8.out
          obtain ⟨f1, mc1, ms1, m1⟩ := R1.out
          have A7 := A3.out.trans B7.out (fun _ _ h => h.elim)
          have A8 := A7.trans AP.out (fun _ _ h => h.elim)
          have AS := ap_set wr c 1 (.slice sa k3 sc)
          have A9 := A8.trans AS (fun _ _ h => h)
          have hcs : c < v1.heap.size := ms1 c mc1
          have hs7 := A7.size
          have LQ9 := ((lq_own HO.out).kept AS (fun k hk e => by have := hk.1; have e : k = c := e; omega)).inside
          have TQ9 := (TQ1.out.kept A9 (fun k hk e => hk.2 e)).inside
          have hsz := A1.out.size
          have hs9 := A9.size
          have RR : Rr (fun k => (M1 k ∨ v1.heap.size ≤ k) ∧ k < (wr.setCell ⟨c, 1, none⟩ (.slice sa k3 sc)).heap.size) (wr.setCell ⟨c, 1, none⟩ (.slice sa k3 sc)) c win true ez ea L3 (ftF 1 false F) := by
            refine ⟨_, tv, R9, ?_, TQ9.mono (fun k hk => ⟨⟨.inl hk.1.1, hk.2⟩, hk.1.2⟩), f1, ⟨.inl mc1, Nat.lt_of_lt_of_le hcs hs9⟩, fun k hk => hk.2⟩
            rw [HK3.out]
            exact LQ9.mono (fun k hk => ⟨⟨.inr (by have := hk.1.1; omega), hk.2⟩, by have := hk.1.1; omega⟩)
          refine ⟨rfl, _, by rw [HEZ.out, HEA.out, HL3.out]; exact RR, ?_, A1.out.trans A9 (fun _ _ h => h)⟩
          rintro k ⟨h | h, _⟩
          · exact m1 k h
          · exact .inr (by omega)
end Go.Proofs.Ytjeffjpenhhnnaa
