/-
  What Hear hands back, and what is remembered then.
-/
import Derived.Test.YtdojphkibgfomaaHiE
namespace Go.Proofs.Ytdojphkibgfomaa
open Go.RowKit Go.Maps

theorem cells6 {w : World} {b : Nat} {v0 v1 v2 v3 v4 : Value} {T : TypeId} (h : w.heap[b]? = some (.cells #[v0, v1, v2, v3, v4] T (0, 0))) :
    w.cell? ⟨b, 0, none⟩ = some v0 ∧ w.cell? ⟨b, 1, none⟩ = some v1 ∧ w.cell? ⟨b, 2, none⟩ = some v2 ∧ w.cell? ⟨b, 3, none⟩ = some v3 ∧ w.cell? ⟨b, 4, none⟩ = some v4 :=
  ⟨cell_of_row w b 0 _ T _ h, cell_of_row w b 1 _ T _ h, cell_of_row w b 2 _ T _ h, cell_of_row w b 3 _ T _ h, cell_of_row w b 4 _ T _ h⟩
set_option maxRecDepth 100000 in
set_option maxHeartbeats 4000000 in
theorem hear_any {w : World} {hb mb : Nat} {T nx la : Int} {L : List Sn} (h : Hs w hb mb T nx la L) (ok : Ok nx la L) (n1 : nx ≤ 1000000000000000) (a : Option Addr) (c : Nat) (l : List Rp) (now : Int) (hl : RA (fun b => b < w.heap.size ∧ b ≠ hb ∧ b ≠ mb) w a l) (hn : l.length ≤ 1000000) :
    Calls Try.prog 13 #[.pointer (some ⟨hb, 0, none⟩), .slice a l.length c, .int .i64 now] w fun e w' => ∃ vg vl, e = .returned (.tuple #[vg, vl]) ∧ Hw w hb mb T nx la w' vg vl (hrG nx L l) (hrL nx L l) (hrR nx L l) := by
  have H0 := mkHid (Hw.start h ok)
  have RL := mkHid hl
  have nx0 := ok.nx0
  obtain ⟨G, HG⟩ : ∃ G, Hid (hrG nx L l = G) := ⟨_, rfl⟩
  obtain ⟨K, HK⟩ : ∃ K, Hid (hrL nx L l = K) := ⟨_, rfl⟩
  obtain ⟨R, HR⟩ : ∃ R, Hid (hrR nx L l = R) := ⟨_, rfl⟩
  have HGL := mkHid (hrG_len nx l L)
  have HKL := mkHid (hrL_len nx l L)
  rw [HG.out] at HGL ⊢
  rw [HK.out] at HKL ⊢
  rw [HR.out]
  have HSTART := mkHid (show [] ++ hrG nx L (l.drop 0) = G ∧ [] ++ hrL nx L (l.drop 0) = K ∧ hrR nx L (l.drop 0) = R from ⟨HG.out, HK.out, HR.out⟩)
  obtain ⟨n, HN⟩ : ∃ n, Hid (l.length = n) := ⟨_, rfl⟩
  rw [HN.out] at hn HGL HKL ⊢
  have hn' : (n : Int) ≤ 1000000 := by omega
  obtain ⟨i6, hi6, hz60, hz61, hz62⟩ := info58
  obtain ⟨i3, hi3, hz30, hz31, hz32⟩ := info56
  clear h hl
  go_enter Try.func13, Try.ntmps13
  go_wp2
  go_loopw [8, 9, 11, 12, 13, 18] (fun vg vl _ _ _ x wr => ∃ (i : Nat) (ag : List Ak) (al Lr : List Sn), i ≤ n ∧ x = .int .i64 (i : Int) ∧ (ag ++ hrG nx Lr (l.drop i) = G ∧ al ++ hrL nx Lr (l.drop i) = K ∧ hrR nx Lr (l.drop i) = R) ∧ Hw w hb mb T nx la wr vg vl ag al Lr) (fun _ _ _ _ _ x _ => n - (intOf x).toNat)
  case atStart => exact ⟨0, [], [], L, Nat.zero_le _, rfl, HSTART.out, H0.out⟩
  case round =>
    obtain ⟨i, ag, al, Lr, hin, rfl, hr, hh⟩ := hrel
    have HRI := mkHid hr
    have HH := mkHid hh
    clear hr hh
    by_cases hlt : i < n
    · have i0 : (0 : Int) ≤ i := by omega
      have i1 : (i : Int) < n := by omega
      have hap := HH.out.ap.size
      obtain ⟨b, off, r, rfl, hN, hri, q0, q1, q2, q3, q4⟩ := (RL.out.kept HH.out.ap (fun b hb => ⟨hb.1, fun e => by rcases e with e | e <;> omega⟩)).at i (by rw [HN.out]; exact hlt)
      have HRI2 := mkHid hri
      have H1 := mkHid (HH.out.on ((Apart.refl (fun _ => False) wr).alloc (.cells #[.int .i64 r.q, .bool r.g, .int .i64 r.t, .bool r.la, .bool r.ec] 62)))
      have R1 := mkHid (heap_alloc_new wr (.cells #[.int .i64 r.q, .bool r.g, .int .i64 r.t, .bool r.la, .bool r.ec] 62))
      obtain ⟨rb, HRB⟩ : ∃ b, Hid (wr.heap.size = b) := ⟨_, rfl⟩
      obtain ⟨W, HW⟩ : ∃ W, Hid (wr.alloc (.cells #[.int .i64 r.q, .bool r.g, .int .i64 r.t, .bool r.la, .bool r.ec] 62) = W) := ⟨_, rfl⟩
      rw [HW.out] at H1 R1
      rw [HRB.out] at R1
      clear hN hri
      obtain ⟨c0, c1, c2, c3, c4⟩ := cells6 R1.out
      obtain ⟨q, g, t, la', ec⟩ := r
      simp only at q0 q1 q2 q3 q4 c0 c1 c2 c3 c4 HW
      go_wp2_with fail
      rw [HW.out, HRB.out]
      have hmb := H1.out.lt
      have hrb : w.heap.size ≤ rb := by rw [← HRB.out]; exact hap
      clear c0 c1 c2 c3 c4 q0 q1 q2 q3 q4
      cases hf : fd nx Lr q with
      | none =>
        refine (find_miss H1.out.hs nx0 n1 q hf).mono ?_
        rintro e w2 ⟨rfl, a2⟩
        have H2 := mkHid ((H1.out.on a2).on ((Apart.refl (fun _ => False) w2).alloc (.cells #[.int .i64 0, .int .i64 0, .int .i64 0] 56)))
        have ST := step_none HRI2.out hf
        have HRN := mkHid (show ag ++ hrG nx Lr (l.drop (i + 1)) = G ∧ al ++ hrL nx Lr (l.drop (i + 1)) = K ∧ hrR nx Lr (l.drop (i + 1)) = R by rw [← ST.1, ← ST.2.1, ← ST.2.2]; exact HRI.out)
        clear ST hf a2
        unfold sV
        go_wp2
        go_roundw
        case rel => exact ⟨i + 1, ag, al, Lr, by omega, by go_num, HRN.out, H2.out⟩
        case measure => simp [intOf]; omega
      | some s =>
        have hmem : s ∈ Lr := List.mem_of_find?_eq_some hf
        refine (find_hit H1.out.hs H1.out.ok.rise nx0 n1 q s hf).mono ?_
        rintro e w2 ⟨rfl, a2⟩
        have A3 := mkHid (a2.alloc (.cells #[.int .i64 s.1, .int .i64 s.2.1, .int .i64 s.2.2] 56))
        have H3 := mkHid (H1.out.on A3.out)
        have R3 := mkHid (A3.out.heap R1.out (fun h => h))
        have S3 := mkHid (show Bs (w2.alloc (.cells #[.int .i64 s.1, .int .i64 s.2.1, .int .i64 s.2.2] 56)) w2.heap.size s from heap_alloc_new _ _)
        obtain ⟨sb, HSB⟩ : ∃ b, Hid (w2.heap.size = b) := ⟨_, rfl⟩
        have hsb : rb < sb := by have h1 := lt_of_heap R1.out; have h2 := a2.size; have h3 := HSB.out; omega
        obtain ⟨W3, HW3⟩ : ∃ W, Hid (w2.alloc (.cells #[.int .i64 s.1, .int .i64 s.2.1, .int .i64 s.2.2] 56) = W) := ⟨_, rfl⟩
        rw [HW3.out] at H3 R3 S3
        rw [HSB.out] at S3
        clear a2
        obtain ⟨d0, d1, d2, -⟩ := cells3 S3.out
        unfold sV
        go_wp2_with fail
        rw [HW3.out, HSB.out]
        refine (forget_any H3.out.hs H3.out.ok s hmem n1).mono ?_
        rintro e w4 ⟨rfl, hs4, a4⟩
        have H4 := mkHid (H3.out.less hs4 (H3.out.ok.filter _) a4)
        have R4 := mkHid (a4.heap R3.out (by intro e; omega))
        have S4 := mkHid (S3.out.kept a4 (by intro e; omega))
        clear hs4 a4 d0 d1 d2
        obtain ⟨c0, c1, c2, c3, c4⟩ := cells6 R4.out
        obtain ⟨d0, d1, d2, -⟩ := cells3 S4.out
        cases g with
        | true =>
          have ST := step_got HRI2.out hf rfl
          have HRN := mkHid (show (ag ++ [⟨s, t, la', ec⟩]) ++ hrG nx (Lr.filter fun u => u.1 != s.1) (l.drop (i + 1)) = G ∧ al ++ hrL nx (Lr.filter fun u => u.1 != s.1) (l.drop (i + 1)) = K ∧ hrR nx (Lr.filter fun u => u.1 != s.1) (l.drop (i + 1)) = R by
            rw [← ST.2.1, ← ST.2.2, List.append_assoc]
            have := HRI.out
            rw [ST.1] at this
            exact this)
          have HAL := mkHid (show ag.length ≤ 1000000 by have h1 := congrArg List.length HRI.out.1; rw [List.length_append] at h1; have := HGL.out; omega)
          have H5 := mkHid (H4.out.on ((Apart.refl (fun _ => False) w4).alloc (.cells #[.int .i64 s.1, .int .i64 s.2.1, .int .i64 s.2.2, .int .i64 t, .bool la', .bool ec] 58)))
          clear ST hf
          go_wp2_with (at_builtin; refine wpList_append_told _ rfl (.tmp 36) (.tmp 45) 37 rfl w.heap.size 58 i6 _ 6 40 Try.underlying37 hi6 hz60 hz61 hz62 rfl (by decide) _ ag.length (aC ag) rfl H5.out.og (.slice (some ⟨w4.heap.size, 0, none⟩) 1 1) 1 (aE ⟨s, t, la', ec⟩) rfl (src_new w4 _ 58 6 rfl) (by intro u hu; exact one_aC [⟨s, t, la', ec⟩] u (by rw [aC_one]; exact hu)) (by have := HAL.out; unfold maxLen; omega) (by have := HAL.out; omega) H5.out.ap.size ?_; intro v6 w6 hown hgr hx; have H6 := mkHid (H5.out.got hown rfl hgr hx); clear hown hgr hx)
          go_roundw
          case rel => exact ⟨i + 1, _, al, _, by omega, by go_num, HRN.out, H6.out⟩
          case measure => simp [intOf]; omega
        | false =>
          have ST := step_lost HRI2.out hf rfl
          have HRN := mkHid (show ag ++ hrG nx (Lr.filter fun u => u.1 != s.1) (l.drop (i + 1)) = G ∧ (al ++ [s]) ++ hrL nx (Lr.filter fun u => u.1 != s.1) (l.drop (i + 1)) = K ∧ hrR nx (Lr.filter fun u => u.1 != s.1) (l.drop (i + 1)) = R by
            rw [← ST.1, ← ST.2.2, List.append_assoc]
            have := HRI.out
            rw [ST.2.1] at this
            exact this)
          have HAL := mkHid (show al.length ≤ 1000000 by have h1 := congrArg List.length HRI.out.2.1; rw [List.length_append] at h1; have := HKL.out; omega)
          have H5 := mkHid (H4.out.on ((Apart.refl (fun _ => False) w4).alloc (.cells #[.int .i64 s.1, .int .i64 s.2.1, .int .i64 s.2.2] 56)))
          clear ST hf
          go_wp2_with (at_builtin; refine wpList_append_told _ rfl (.tmp 47) (.tmp 49) 38 rfl w.heap.size 56 i3 _ 3 24 Try.underlying38 hi3 hz30 hz31 hz32 rfl (by decide) _ al.length (sC al) rfl H5.out.ol (.slice (some ⟨w4.heap.size, 0, none⟩) 1 1) 1 (sE s) rfl (src_new w4 _ 56 3 rfl) (by intro u hu; exact one_sC [s] u (by rw [sC_one]; exact hu)) (by have := HAL.out; unfold maxLen; omega) (by have := HAL.out; omega) H5.out.ap.size ?_; intro v6 w6 hown hgr hx; have H6 := mkHid (H5.out.lost hown rfl hgr hx); clear hown hgr hx)
          go_roundw
          case rel => exact ⟨i + 1, ag, _, _, by omega, by go_num, HRN.out, H6.out⟩
          case measure => simp [intOf]; omega
    · obtain rfl : n = i := by omega
      have HE := hr_end (nx := nx) (L := Lr) (l := l) (i := n) (by rw [HN.out]; omega)
      have HF := mkHid (show ag = G ∧ al = K ∧ Lr = R by have := HRI.out; rw [HE.1, HE.2.1, HE.2.2, List.append_nil, List.append_nil] at this; exact this)
      clear HE
      go_wp2
      go_ret2
      obtain ⟨e1, e2, e3⟩ := HF.out
      exact ⟨_, _, rfl, by rw [← e1, ← e2, ← e3]; exact HH.out⟩
end Go.Proofs.Ytdojphkibgfomaa
