/-
  Lists that are the same: of packets, of packets that were got, of reports.
-/
import Derived.Test.YtdojphkibgfomaaHiZ
namespace Go.Proofs.Ytdojphkibgfomaa
open Go.RowKit

def SnC (w : World) (b o : Nat) (s : Sn) : Prop := w.cell? ⟨b, o, none⟩ = some (.int .i64 s.1) ∧ w.cell? ⟨b, o + 1, none⟩ = some (.int .i64 s.2.1) ∧ w.cell? ⟨b, o + 2, none⟩ = some (.int .i64 s.2.2)
def SnA (w : World) (a : Option Addr) (l : List Sn) : Prop := ∀ (i : Nat) (s : Sn), l[i]? = some s → ∃ b off, a = some ⟨b, off, none⟩ ∧ b < w.heap.size ∧ SnC w b (off + i * 3) s
def AkC (w : World) (b o : Nat) (s : Ak) : Prop := w.cell? ⟨b, o, none⟩ = some (.int .i64 s.s.1) ∧ w.cell? ⟨b, o + 1, none⟩ = some (.int .i64 s.s.2.1) ∧ w.cell? ⟨b, o + 2, none⟩ = some (.int .i64 s.s.2.2) ∧ w.cell? ⟨b, o + 3, none⟩ = some (.int .i64 s.c) ∧ w.cell? ⟨b, o + 4, none⟩ = some (.bool s.la) ∧ w.cell? ⟨b, o + 5, none⟩ = some (.bool s.ec)
def AkA (w : World) (a : Option Addr) (l : List Ak) : Prop := ∀ (i : Nat) (s : Ak), l[i]? = some s → ∃ b off, a = some ⟨b, off, none⟩ ∧ b < w.heap.size ∧ AkC w b (off + i * 6) s
def RpA (w : World) (a : Option Addr) (l : List Rp) : Prop := ∀ (i : Nat) (s : Rp), l[i]? = some s → ∃ b off, a = some ⟨b, off, none⟩ ∧ b < w.heap.size ∧ RC w b (off + i * 5) s
theorem SnC.kept {w w' : World} {b o : Nat} {s : Sn} (h : SnC w b o s) (ha : Apart (fun _ => False) w w') (hl : b < w.heap.size) : SnC w' b o s := by
  obtain ⟨c0, c1, c2⟩ := h
  exact ⟨by rw [ha.cell (p := ⟨b, o, none⟩) hl (fun h => h)]; exact c0, by rw [ha.cell (p := ⟨b, o + 1, none⟩) hl (fun h => h)]; exact c1, by rw [ha.cell (p := ⟨b, o + 2, none⟩) hl (fun h => h)]; exact c2⟩
theorem AkC.kept {w w' : World} {b o : Nat} {s : Ak} (h : AkC w b o s) (ha : Apart (fun _ => False) w w') (hl : b < w.heap.size) : AkC w' b o s := by
  obtain ⟨c0, c1, c2, c3, c4, c5⟩ := h
  exact ⟨by rw [ha.cell (p := ⟨b, o, none⟩) hl (fun h => h)]; exact c0, by rw [ha.cell (p := ⟨b, o + 1, none⟩) hl (fun h => h)]; exact c1, by rw [ha.cell (p := ⟨b, o + 2, none⟩) hl (fun h => h)]; exact c2, by rw [ha.cell (p := ⟨b, o + 3, none⟩) hl (fun h => h)]; exact c3, by rw [ha.cell (p := ⟨b, o + 4, none⟩) hl (fun h => h)]; exact c4, by rw [ha.cell (p := ⟨b, o + 5, none⟩) hl (fun h => h)]; exact c5⟩
theorem own_sna {w : World} {B n cp : Nat} {ad : Option Addr} {l : List Sn} (h : w.ownsRow B 56 3 (.slice ad n cp) n (sC l)) (hn : n = l.length) : SnA w ad l := by
  intro i s hi
  obtain ⟨g, cap, hv, hg, c0, c1, c2⟩ := own_at h hn hi
  obtain ⟨rfl, rfl⟩ : ad = some ⟨g, 0, none⟩ ∧ cp = cap := by simpa using hv
  exact ⟨g, 0, rfl, (h.lt g rfl).2, by rw [Nat.zero_add]; exact ⟨c0, c1, c2⟩⟩
theorem own_aka {w : World} {B n cp : Nat} {ad : Option Addr} {l : List Ak} (h : w.ownsRow B 58 6 (.slice ad n cp) n (aC l)) (hn : n = l.length) : AkA w ad l := by
  intro i s hi
  obtain ⟨g, cap, hv, hg, c⟩ := got_at h hn hi
  obtain ⟨rfl, rfl⟩ : ad = some ⟨g, 0, none⟩ ∧ cp = cap := by simpa using hv
  exact ⟨g, 0, rfl, (h.lt g rfl).2, by rw [Nat.zero_add]; exact c⟩
theorem ra_rpa {N : Nat → Prop} {w : World} {a : Option Addr} {l : List Rp} (h : RA N w a l) (hN : ∀ b, N b → b < w.heap.size) : RpA w a l := by
  intro i s hi
  rcases h with h0 | ⟨b, off, e, hn, hc⟩
  · subst h0; simp at hi
  · exact ⟨b, off, e, hN b hn, hc i s hi⟩
set_option maxHeartbeats 4000000 in
set_option maxRecDepth 100000 in
theorem sents_self (a : Option Addr) (c : Nat) (a' : Option Addr) (c' : Nat) (l : List Sn) (n : Nat) (hn : l.length = n) (hm : (n : Int) ≤ 9223372036854775807) (w : World) (h : SnA w a l) (h' : SnA w a' l) :
    Calls Try.prog 16 #[.slice a n c, .slice a' n c'] w fun e w' => e = .returned (.bool true) ∧ Apart (fun _ => False) w w' := by
  have H := mkHid h
  have H' := mkHid h'
  have HN := mkHid hn
  clear h h' hn
  go_enter Try.func16, Try.ntmps16
  go_wp2
  go_loopw [5] (fun i wr => ∃ k : Nat, k ≤ n ∧ i = .int .i64 (k : Int) ∧ Apart (fun _ => False) w wr) (fun i _ => n - (intOf i).toNat)
  case atStart => exact ⟨0, Nat.zero_le _, rfl, Apart.refl _ _⟩
  case round =>
    obtain ⟨k, hk, rfl, ha⟩ := hrel
    have HA := mkHid ha
    clear ha
    by_cases hlt : k < n
    · have k0 : (0 : Int) ≤ k := by omega
      have k1 : (k : Int) < n := by omega
      obtain ⟨s, HS⟩ : ∃ s, Hid (l[k]? = some s) := ⟨_, List.getElem?_eq_getElem (by rw [HN.out]; exact hlt)⟩
      obtain ⟨b, off, rfl, hb, hc⟩ := H.out k s HS.out
      obtain ⟨b', off', rfl, hb', hc'⟩ := H'.out k s HS.out
      obtain ⟨c0, c1, c2⟩ := hc.kept HA.out hb
      obtain ⟨d0, d1, d2⟩ := hc'.kept HA.out hb'
      clear hc hc' hb hb'
      obtain ⟨x, y, z⟩ := s
      simp only at c0 c1 c2 d0 d1 d2
      go_upto_region 6 with fail
      go_quiet (fail)
      go_wp2
      exact ⟨⟨k + 1, by omega, by go_num, HA.out.drewN _⟩, by simp [intOf]; omega⟩
    · obtain rfl : n = k := by omega
      go_wp2
      go_ret
      exact ⟨rfl, HA.out⟩
set_option maxHeartbeats 4000000 in
set_option maxRecDepth 100000 in
theorem ackeds_self (a : Option Addr) (c : Nat) (a' : Option Addr) (c' : Nat) (l : List Ak) (n : Nat) (hn : l.length = n) (hm : (n : Int) ≤ 9223372036854775807) (w : World) (h : AkA w a l) (h' : AkA w a' l) :
    Calls Try.prog 15 #[.slice a n c, .slice a' n c'] w fun e w' => e = .returned (.bool true) ∧ Apart (fun _ => False) w w' := by
  have H := mkHid h
  have H' := mkHid h'
  have HN := mkHid hn
  clear h h' hn
  go_enter Try.func15, Try.ntmps15
  go_wp2
  go_loopw [5, 6, 7] (fun i _ _ wr => ∃ k : Nat, k ≤ n ∧ i = .int .i64 (k : Int) ∧ Apart (fun _ => False) w wr) (fun i _ _ _ => n - (intOf i).toNat)
  case atStart => exact ⟨0, Nat.zero_le _, rfl, Apart.refl _ _⟩
  case round =>
    obtain ⟨k, hk, rfl, ha⟩ := hrel
    have HA := mkHid ha
    clear ha
    by_cases hlt : k < n
    · have k0 : (0 : Int) ≤ k := by omega
      have k1 : (k : Int) < n := by omega
      obtain ⟨s, HS⟩ : ∃ s, Hid (l[k]? = some s) := ⟨_, List.getElem?_eq_getElem (by rw [HN.out]; exact hlt)⟩
      obtain ⟨b, off, rfl, hb, hc⟩ := H.out k s HS.out
      obtain ⟨b', off', rfl, hb', hc'⟩ := H'.out k s HS.out
      obtain ⟨c0, c1, c2, c3, c4, c5⟩ := hc.kept HA.out hb
      obtain ⟨d0, d1, d2, d3, d4, d5⟩ := hc'.kept HA.out hb'
      have hbw := Nat.lt_of_lt_of_le hb HA.out.size
      have hbw' := Nat.lt_of_lt_of_le hb' HA.out.size
      clear hc hc' hb hb'
      obtain ⟨⟨x, y, z⟩, t, la, ec⟩ := s
      simp only at c0 c1 c2 c3 c4 c5 d0 d1 d2 d3 d4 d5
      go_upto_region 6 with fail
      go_region_held3 (fun w' => w'.cell? ⟨b, off + k * 6, none⟩ = some (.int .i64 x) ∧ w'.cell? ⟨b, off + k * 6 + 1, none⟩ = some (.int .i64 y) ∧ w'.cell? ⟨b, off + k * 6 + 2, none⟩ = some (.int .i64 z) ∧ w'.cell? ⟨b, off + k * 6 + 3, none⟩ = some (.int .i64 t) ∧ w'.cell? ⟨b, off + k * 6 + 4, none⟩ = some (.bool la) ∧ w'.cell? ⟨b, off + k * 6 + 5, none⟩ = some (.bool ec) ∧
        w'.cell? ⟨b', off' + k * 6, none⟩ = some (.int .i64 x) ∧ w'.cell? ⟨b', off' + k * 6 + 1, none⟩ = some (.int .i64 y) ∧ w'.cell? ⟨b', off' + k * 6 + 2, none⟩ = some (.int .i64 z) ∧ w'.cell? ⟨b', off' + k * 6 + 3, none⟩ = some (.int .i64 t) ∧ w'.cell? ⟨b', off' + k * 6 + 4, none⟩ = some (.bool la) ∧ w'.cell? ⟨b', off' + k * 6 + 5, none⟩ = some (.bool ec)) (go_keep) (fail)
      all_goals
        have EX := mkHid (show ((wr.alloc (.cells #[.int .i64 x, .int .i64 y, .int .i64 z, .int .i64 t, .bool la, .bool ec] 58)).alloc (.cells #[.int .i64 x, .int .i64 y, .int .i64 z, .int .i64 t, .bool la, .bool ec] 58)).drew.heap[wr.heap.size]? = some (.cells #[.int .i64 x, .int .i64 y, .int .i64 z, .int .i64 t, .bool la, .bool ec] 58 (0, 0)) from ((Apart.refl (fun _ => False) _).alloc _).heap (heap_alloc_new wr _) (fun h => h))
        have EY := mkHid (show ((wr.alloc (.cells #[.int .i64 x, .int .i64 y, .int .i64 z, .int .i64 t, .bool la, .bool ec] 58)).alloc (.cells #[.int .i64 x, .int .i64 y, .int .i64 z, .int .i64 t, .bool la, .bool ec] 58)).drew.heap[wr.heap.size + 1]? = some (.cells #[.int .i64 x, .int .i64 y, .int .i64 z, .int .i64 t, .bool la, .bool ec] 58 (0, 0)) by
          have := heap_alloc_new (wr.alloc (.cells #[.int .i64 x, .int .i64 y, .int .i64 z, .int .i64 t, .bool la, .bool ec] 58)) (.cells #[.int .i64 x, .int .i64 y, .int .i64 z, .int .i64 t, .bool la, .bool ec] 58)
          rw [show (wr.alloc (.cells #[.int .i64 x, .int .i64 y, .int .i64 z, .int .i64 t, .bool la, .bool ec] 58)).heap.size = wr.heap.size + 1 by simp] at this
          exact this)
        have BE := mkHid (show Apart (fun _ => False) w ((wr.alloc (.cells #[.int .i64 x, .int .i64 y, .int .i64 z, .int .i64 t, .bool la, .bool ec] 58)).alloc (.cells #[.int .i64 x, .int .i64 y, .int .i64 z, .int .i64 t, .bool la, .bool ec] 58)).drew from ((HA.out.alloc _).alloc _).drew)
        obtain ⟨W, HW⟩ : ∃ W, Hid (((wr.alloc (.cells #[.int .i64 x, .int .i64 y, .int .i64 z, .int .i64 t, .bool la, .bool ec] 58)).alloc (.cells #[.int .i64 x, .int .i64 y, .int .i64 z, .int .i64 t, .bool la, .bool ec] 58)).drew = W) := ⟨_, rfl⟩
        rw [HW.out] at EX EY BE ⊢
        obtain ⟨g, HG⟩ : ∃ g, Hid (wr.heap.size = g) := ⟨_, rfl⟩
        rw [HG.out] at EX EY ⊢
        clear c0 d0 c1 d1 c2 d2 c3 d3 c4 d4 c5 d5
        have x0 := cell_of_row W g 0 _ 58 _ EX.out
        have y0 := cell_of_row W (g + 1) 0 _ 58 _ EY.out
        have x1 := cell_of_row W g 1 _ 58 _ EX.out
        have y1 := cell_of_row W (g + 1) 1 _ 58 _ EY.out
        have x2 := cell_of_row W g 2 _ 58 _ EX.out
        have y2 := cell_of_row W (g + 1) 2 _ 58 _ EY.out
        have x3 := cell_of_row W g 3 _ 58 _ EX.out
        have y3 := cell_of_row W (g + 1) 3 _ 58 _ EY.out
        have x4 := cell_of_row W g 4 _ 58 _ EX.out
        have y4 := cell_of_row W (g + 1) 4 _ 58 _ EY.out
        have x5 := cell_of_row W g 5 _ 58 _ EX.out
        have y5 := cell_of_row W (g + 1) 5 _ 58 _ EY.out
        go_wp2
        go_roundw
        case rel => exact ⟨k + 1, by omega, by go_num, BE.out⟩
        case measure => simp [intOf]; omega
    · obtain rfl : n = k := by omega
      go_wp2
      go_ret
      exact ⟨rfl, HA.out⟩
set_option maxHeartbeats 4000000 in
set_option maxRecDepth 100000 in
theorem reports_self (a : Option Addr) (c : Nat) (a' : Option Addr) (c' : Nat) (l : List Rp) (n : Nat) (hn : l.length = n) (hm : (n : Int) ≤ 9223372036854775807) (w : World) (h : RpA w a l) (h' : RpA w a' l) :
    Calls Try.prog 17 #[.slice a n c, .slice a' n c'] w fun e w' => e = .returned (.bool true) ∧ Apart (fun _ => False) w w' := by
  have H := mkHid h
  have H' := mkHid h'
  have HN := mkHid hn
  clear h h' hn
  go_enter Try.func17, Try.ntmps17
  go_wp2
  go_loopw [5, 6, 7] (fun i _ _ wr => ∃ k : Nat, k ≤ n ∧ i = .int .i64 (k : Int) ∧ Apart (fun _ => False) w wr) (fun i _ _ _ => n - (intOf i).toNat)
  case atStart => exact ⟨0, Nat.zero_le _, rfl, Apart.refl _ _⟩
  case round =>
    obtain ⟨k, hk, rfl, ha⟩ := hrel
    have HA := mkHid ha
    clear ha
    by_cases hlt : k < n
    · have k0 : (0 : Int) ≤ k := by omega
      have k1 : (k : Int) < n := by omega
      obtain ⟨s, HS⟩ : ∃ s, Hid (l[k]? = some s) := ⟨_, List.getElem?_eq_getElem (by rw [HN.out]; exact hlt)⟩
      obtain ⟨b, off, rfl, hb, hc⟩ := H.out k s HS.out
      obtain ⟨b', off', rfl, hb', hc'⟩ := H'.out k s HS.out
      obtain ⟨c0, c1, c2, c3, c4⟩ := hc.kept HA.out hb (fun h => h)
      obtain ⟨d0, d1, d2, d3, d4⟩ := hc'.kept HA.out hb' (fun h => h)
      have hbw := Nat.lt_of_lt_of_le hb HA.out.size
      have hbw' := Nat.lt_of_lt_of_le hb' HA.out.size
      clear hc hc' hb hb'
      obtain ⟨x, y, z, la, ec⟩ := s
      simp only at c0 c1 c2 c3 c4 d0 d1 d2 d3 d4
      go_upto_region 6 with fail
      go_region_held3 (fun w' => w'.cell? ⟨b, off + k * 5, none⟩ = some (.int .i64 x) ∧ w'.cell? ⟨b, off + k * 5 + 1, none⟩ = some (.bool y) ∧ w'.cell? ⟨b, off + k * 5 + 2, none⟩ = some (.int .i64 z) ∧ w'.cell? ⟨b, off + k * 5 + 3, none⟩ = some (.bool la) ∧ w'.cell? ⟨b, off + k * 5 + 4, none⟩ = some (.bool ec) ∧ w'.cell? ⟨b', off' + k * 5, none⟩ = some (.int .i64 x) ∧ w'.cell? ⟨b', off' + k * 5 + 1, none⟩ = some (.bool y) ∧ w'.cell? ⟨b', off' + k * 5 + 2, none⟩ = some (.int .i64 z) ∧ w'.cell? ⟨b', off' + k * 5 + 3, none⟩ = some (.bool la) ∧ w'.cell? ⟨b', off' + k * 5 + 4, none⟩ = some (.bool ec)) (go_keep) (fail)
      all_goals
        have EX := mkHid (show ((wr.alloc (.cells #[.int .i64 x, .bool y, .int .i64 z, .bool la, .bool ec] 62)).alloc (.cells #[.int .i64 x, .bool y, .int .i64 z, .bool la, .bool ec] 62)).drew.heap[wr.heap.size]? = some (.cells #[.int .i64 x, .bool y, .int .i64 z, .bool la, .bool ec] 62 (0, 0)) from ((Apart.refl (fun _ => False) _).alloc _).heap (heap_alloc_new wr _) (fun h => h))
        have EY := mkHid (show ((wr.alloc (.cells #[.int .i64 x, .bool y, .int .i64 z, .bool la, .bool ec] 62)).alloc (.cells #[.int .i64 x, .bool y, .int .i64 z, .bool la, .bool ec] 62)).drew.heap[wr.heap.size + 1]? = some (.cells #[.int .i64 x, .bool y, .int .i64 z, .bool la, .bool ec] 62 (0, 0)) by
          have := heap_alloc_new (wr.alloc (.cells #[.int .i64 x, .bool y, .int .i64 z, .bool la, .bool ec] 62)) (.cells #[.int .i64 x, .bool y, .int .i64 z, .bool la, .bool ec] 62)
          rw [show (wr.alloc (.cells #[.int .i64 x, .bool y, .int .i64 z, .bool la, .bool ec] 62)).heap.size = wr.heap.size + 1 by simp] at this
          exact this)
        have BE := mkHid (show Apart (fun _ => False) w ((wr.alloc (.cells #[.int .i64 x, .bool y, .int .i64 z, .bool la, .bool ec] 62)).alloc (.cells #[.int .i64 x, .bool y, .int .i64 z, .bool la, .bool ec] 62)).drew from ((HA.out.alloc _).alloc _).drew)
        obtain ⟨W, HW⟩ : ∃ W, Hid (((wr.alloc (.cells #[.int .i64 x, .bool y, .int .i64 z, .bool la, .bool ec] 62)).alloc (.cells #[.int .i64 x, .bool y, .int .i64 z, .bool la, .bool ec] 62)).drew = W) := ⟨_, rfl⟩
        rw [HW.out] at EX EY BE ⊢
        obtain ⟨g, HG⟩ : ∃ g, Hid (wr.heap.size = g) := ⟨_, rfl⟩
        rw [HG.out] at EX EY ⊢
        clear c0 d0 c1 d1 c2 d2 c3 d3 c4 d4
        have x0 := cell_of_row W g 0 _ 62 _ EX.out
        have y0 := cell_of_row W (g + 1) 0 _ 62 _ EY.out
        have x1 := cell_of_row W g 1 _ 62 _ EX.out
        have y1 := cell_of_row W (g + 1) 1 _ 62 _ EY.out
        have x2 := cell_of_row W g 2 _ 62 _ EX.out
        have y2 := cell_of_row W (g + 1) 2 _ 62 _ EY.out
        have x3 := cell_of_row W g 3 _ 62 _ EX.out
        have y3 := cell_of_row W (g + 1) 3 _ 62 _ EY.out
        have x4 := cell_of_row W g 4 _ 62 _ EX.out
        have y4 := cell_of_row W (g + 1) 4 _ 62 _ EY.out
        go_wp2
        go_roundw
        case rel => exact ⟨k + 1, by omega, by go_num, BE.out⟩
        case measure => simp [intOf]; omega
    · obtain rfl : n = k := by omega
      go_wp2
      go_ret
      exact ⟨rfl, HA.out⟩
end Go.Proofs.Ytdojphkibgfomaa
