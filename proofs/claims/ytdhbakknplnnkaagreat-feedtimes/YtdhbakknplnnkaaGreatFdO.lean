/-
  Reports that are the same.
-/
import Derived.Test.YtdhbakknplnnkaaGreatFdX
namespace Go.Proofs.YtdhbakknplnnkaaGreat.Fd
open Go.RowKit Go.Proofs.YtdhbakknplnnkaaGreat.Nk

theorem RA.at {B : Nat} {w : World} {a : Option Addr} {l : List Rt} (h : RA B w a l) (i : Nat) (hi : i < l.length) : ∃ b off r, a = some ⟨b, off, none⟩ ∧ b < B ∧ l[i]? = some r ∧ RCell w b (off + i * 5) r := by
  rcases h.2 with h0 | ⟨b, off, ha, hl, hc⟩
  · subst h0; simp at hi
  · exact ⟨b, off, l[i], ha, hl, List.getElem?_eq_getElem hi, hc i _ (List.getElem?_eq_getElem hi)⟩
theorem rcell_kept {B : Nat} {w w' : World} {b o : Nat} {r : Rt} (h : RCell w b o r) (hb : Below B w w') (hl : b < B) : RCell w' b o r := by
  obtain ⟨c0, c1, c2, c3, c4⟩ := h
  exact ⟨by rw [hb.cell (p := ⟨b, o, none⟩) hl]; exact c0, by rw [hb.cell (p := ⟨b, o + 1, none⟩) hl]; exact c1, by rw [hb.cell (p := ⟨b, o + 2, none⟩) hl]; exact c2, by rw [hb.cell (p := ⟨b, o + 3, none⟩) hl]; exact c3, by rw [hb.cell (p := ⟨b, o + 4, none⟩) hl]; exact c4⟩
set_option maxHeartbeats 4000000 in
set_option maxRecDepth 100000 in
theorem reports_self (B : Nat) (a : Option Addr) (c : Nat) (a' : Option Addr) (c' : Nat) (l : List Rt) (w : World) (hB : B ≤ w.heap.size) (h : RA B w a l) (h' : RA B w a' l) :
    Calls Tryz.prog 10 #[.slice a l.length c, .slice a' l.length c'] w fun e w' => e = .returned (.bool true) ∧ Below B w w' := by
  have H := mkHid h
  have H' := mkHid h'
  have hm := h.1
  obtain ⟨n, HN⟩ : ∃ n, Hid (l.length = n) := ⟨_, rfl⟩
  rw [HN.out] at hm ⊢
  have hn : (n : Int) ≤ 9223372036854775807 := by unfold maxLen at hm; omega
  clear h h' hm
  go_enter Tryz.func10, Tryz.ntmps10
  go_wp2
  go_loopw [5, 6, 7] (fun i _ _ wr => ∃ k : Nat, k ≤ n ∧ i = .int .i64 (k : Int) ∧ Below B w wr) (fun i _ _ _ => n - (intOf i).toNat)
  case atStart => exact ⟨0, Nat.zero_le _, rfl, Below.refl _ _⟩
  case round =>
    obtain ⟨k, hk, rfl, hb⟩ := hrel
    have HB := mkHid hb
    have HBs := mkHid (show B ≤ wr.heap.size from Nat.le_trans hB hb.size)
    clear hb
    by_cases hlt : k < n
    · have k0 : (0 : Int) ≤ k := by omega
      have k1 : (k : Int) < n := by omega
      have D := mkHid (show Below B w wr.drew from HB.out.drew)
      obtain ⟨b, off, r, rfl, hbB, hx, c0, c1, c2, c3, c4⟩ := H.out.at k (by rw [HN.out]; exact hlt)
      obtain ⟨b', off', r', rfl, hbB', hx', d0, d1, d2, d3, d4⟩ := H'.out.at k (by rw [HN.out]; exact hlt)
      obtain rfl : r = r' := by rw [hx] at hx'; exact Option.some.inj hx'
      clear hx hx'
      have HC := mkHid (fun (w' : World) (hb : Below B w w') => rcell_kept (w' := w') ⟨c0, c1, c2, c3, c4⟩ hb hbB)
      have HD := mkHid (fun (w' : World) (hb : Below B w w') => rcell_kept (w' := w') ⟨d0, d1, d2, d3, d4⟩ hb hbB')
      clear c0 c1 c2 c3 c4 d0 d1 d2 d3 d4
      obtain ⟨ca00, ca01, ca02, ca03, ca04⟩ := HC.out wr (HB.out)
      obtain ⟨da00, da01, da02, da03, da04⟩ := HD.out wr (HB.out)
      obtain ⟨ca10, ca11, ca12, ca13, ca14⟩ := HC.out (wr.alloc (.cells #[.int .i64 0, .bool false, .int .i64 0, .bool false, .bool false] 58)) (HB.out.alloc HBs.out _)
      obtain ⟨da10, da11, da12, da13, da14⟩ := HD.out (wr.alloc (.cells #[.int .i64 0, .bool false, .int .i64 0, .bool false, .bool false] 58)) (HB.out.alloc HBs.out _)
      obtain ⟨ca20, ca21, ca22, ca23, ca24⟩ := HC.out ((wr.alloc (.cells #[.int .i64 0, .bool false, .int .i64 0, .bool false, .bool false] 58)).alloc (.cells #[.int .i64 0, .bool false, .int .i64 0, .bool false, .bool false] 58)) ((HB.out.alloc HBs.out _).alloc (by simp; have := HBs.out; omega) _)
      obtain ⟨da20, da21, da22, da23, da24⟩ := HD.out ((wr.alloc (.cells #[.int .i64 0, .bool false, .int .i64 0, .bool false, .bool false] 58)).alloc (.cells #[.int .i64 0, .bool false, .int .i64 0, .bool false, .bool false] 58)) ((HB.out.alloc HBs.out _).alloc (by simp; have := HBs.out; omega) _)
      obtain ⟨ca30, ca31, ca32, ca33, ca34⟩ := HC.out ((wr.alloc (.cells #[.int .i64 r.q, .bool r.g, .int .i64 r.t, .bool r.la, .bool r.ec] 58)).alloc (.cells #[.int .i64 0, .bool false, .int .i64 0, .bool false, .bool false] 58)) ((HB.out.alloc HBs.out _).alloc (by simp; have := HBs.out; omega) _)
      obtain ⟨da30, da31, da32, da33, da34⟩ := HD.out ((wr.alloc (.cells #[.int .i64 r.q, .bool r.g, .int .i64 r.t, .bool r.la, .bool r.ec] 58)).alloc (.cells #[.int .i64 0, .bool false, .int .i64 0, .bool false, .bool false] 58)) ((HB.out.alloc HBs.out _).alloc (by simp; have := HBs.out; omega) _)
      obtain ⟨ca40, ca41, ca42, ca43, ca44⟩ := HC.out ((wr.alloc (.cells #[.int .i64 0, .bool false, .int .i64 0, .bool false, .bool false] 58)).alloc (.cells #[.int .i64 r.q, .bool r.g, .int .i64 r.t, .bool r.la, .bool r.ec] 58)) ((HB.out.alloc HBs.out _).alloc (by simp; have := HBs.out; omega) _)
      obtain ⟨da40, da41, da42, da43, da44⟩ := HD.out ((wr.alloc (.cells #[.int .i64 0, .bool false, .int .i64 0, .bool false, .bool false] 58)).alloc (.cells #[.int .i64 r.q, .bool r.g, .int .i64 r.t, .bool r.la, .bool r.ec] 58)) ((HB.out.alloc HBs.out _).alloc (by simp; have := HBs.out; omega) _)
      obtain ⟨ca50, ca51, ca52, ca53, ca54⟩ := HC.out (wr.alloc (.cells #[.int .i64 r.q, .bool r.g, .int .i64 r.t, .bool r.la, .bool r.ec] 58)) (HB.out.alloc HBs.out _)
      obtain ⟨da50, da51, da52, da53, da54⟩ := HD.out (wr.alloc (.cells #[.int .i64 r.q, .bool r.g, .int .i64 r.t, .bool r.la, .bool r.ec] 58)) (HB.out.alloc HBs.out _)
      obtain ⟨ca60, ca61, ca62, ca63, ca64⟩ := HC.out ((wr.alloc (.cells #[.int .i64 r.q, .bool r.g, .int .i64 r.t, .bool r.la, .bool r.ec] 58)).alloc (.cells #[.int .i64 r.q, .bool r.g, .int .i64 r.t, .bool r.la, .bool r.ec] 58)) ((HB.out.alloc HBs.out _).alloc (by simp; have := HBs.out; omega) _)
      obtain ⟨da60, da61, da62, da63, da64⟩ := HD.out ((wr.alloc (.cells #[.int .i64 r.q, .bool r.g, .int .i64 r.t, .bool r.la, .bool r.ec] 58)).alloc (.cells #[.int .i64 r.q, .bool r.g, .int .i64 r.t, .bool r.la, .bool r.ec] 58)) ((HB.out.alloc HBs.out _).alloc (by simp; have := HBs.out; omega) _)
      go_upto_region 6 with fail
      go_region
      all_goals
        have EX := mkHid (show Ed ((wr.alloc (.cells #[.int .i64 r.q, .bool r.g, .int .i64 r.t, .bool r.la, .bool r.ec] 58)).alloc (.cells #[.int .i64 r.q, .bool r.g, .int .i64 r.t, .bool r.la, .bool r.ec] 58)).drew wr.heap.size r from ((Apart.refl (fun _ => False) _).alloc _).heap (heap_alloc_new wr _) (fun h => h))
        have EY := mkHid (show Ed ((wr.alloc (.cells #[.int .i64 r.q, .bool r.g, .int .i64 r.t, .bool r.la, .bool r.ec] 58)).alloc (.cells #[.int .i64 r.q, .bool r.g, .int .i64 r.t, .bool r.la, .bool r.ec] 58)).drew (wr.heap.size + 1) r from by
          have := Ed.box (wr.alloc (.cells #[.int .i64 r.q, .bool r.g, .int .i64 r.t, .bool r.la, .bool r.ec] 58)) r
          rw [show (wr.alloc (.cells #[.int .i64 r.q, .bool r.g, .int .i64 r.t, .bool r.la, .bool r.ec] 58)).heap.size = wr.heap.size + 1 by simp] at this
          exact this)
        have BE := mkHid (show Below B w ((wr.alloc (.cells #[.int .i64 r.q, .bool r.g, .int .i64 r.t, .bool r.la, .bool r.ec] 58)).alloc (.cells #[.int .i64 r.q, .bool r.g, .int .i64 r.t, .bool r.la, .bool r.ec] 58)).drew from ((HB.out.alloc HBs.out _).alloc (by simp; have := HBs.out; omega) _).drew)
        obtain ⟨W, HW⟩ : ∃ W, Hid (((wr.alloc (.cells #[.int .i64 r.q, .bool r.g, .int .i64 r.t, .bool r.la, .bool r.ec] 58)).alloc (.cells #[.int .i64 r.q, .bool r.g, .int .i64 r.t, .bool r.la, .bool r.ec] 58)).drew = W) := ⟨_, rfl⟩
        rw [HW.out] at EX EY BE ⊢
        clear ca00 ca01 ca02 ca03 ca04 da00 da01 da02 da03 da04 ca10 ca11 ca12 ca13 ca14 da10 da11 da12 da13 da14 ca20 ca21 ca22 ca23 ca24 da20 da21 da22 da23 da24 ca30 ca31 ca32 ca33 ca34 da30 da31 da32 da33 da34 ca40 ca41 ca42 ca43 ca44 da40 da41 da42 da43 da44 ca50 ca51 ca52 ca53 ca54 da50 da51 da52 da53 da54 ca60 ca61 ca62 ca63 ca64 da60 da61 da62 da63 da64
        obtain ⟨x0, x1, x2, x3, x4⟩ := EX.out.c
        obtain ⟨y0, y1, y2, y3, y4⟩ := EY.out.c
        go_wp2
        go_roundw
        case rel => exact ⟨k + 1, by omega, by go_num, BE.out⟩
        case measure => simp [intOf]; omega
    · obtain rfl : n = k := by omega
      go_wp2
      go_ret
      exact ⟨rfl, HB.out⟩
end Go.Proofs.YtdhbakknplnnkaaGreat.Fd
