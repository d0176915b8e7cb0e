/-
  What the function that reads a header hands back, where it begins as one.
-/
import Derived.Test.YtdajcgicpfpeoaaRtY
import Derived.Deep.RegionLaw
namespace Go.Proofs.Ytdajcgicpfpeoaa
open Go.RowKit

set_option maxRecDepth 100000 in
set_option maxHeartbeats 4000000 in
theorem head_mark (b : Nat) (s : ByteArray) (hs : s.size ≤ 1000000) (h0 : 3 ≤ 8 * s.size) (hm : gv s 0 3 ≠ 4) (w : World) (h : Rd 78 w b s (At s 0)) :
    Calls Try.prog 28 #[.pointer (some ⟨b, 0, none⟩)] w (HdrBad b 70 w) := by
  have H := mkHid (h.kept ((Apart.refl (fun _ => False) _).alloc (.cells #[.bool false, .int .i64 0, .int .i64 0, .int .u32 0, .int .u32 0, .slice none 0 0, .slice none 0 0] 26)) (fun h => h))
  have hbl := h.heap
  have B := mkHid (badB_no h0)
  have G := mkHid (gw_in (s := s) (p := 0) (n := 3) (by omega))
  obtain ⟨bx, HBX⟩ : ∃ bx, Hid (w.heap.size = bx) := ⟨_, rfl⟩
  have HN := mkHid (heap_alloc_new w (.cells #[.bool false, .int .i64 0, .int .i64 0, .int .u32 0, .int .u32 0, .slice none 0 0, .slice none 0 0] 26))
  rw [HBX.out] at HN hbl
  clear h h0
  generalize gv s 0 3 = g at *
  have hm' : ¬ (g : Int) = 4 := by omega
  go_enter Try.func28, Try.ntmps28
  go_wp2_with fail
  refine (get_at b s hs 0 _ 3 rfl (by omega) _ H.out).mono ?_
  rw [G.out]
  rintro e w1 ⟨rfl, h1, p1⟩
  have H1 := mkHid h1
  have P1 := mkHid (Apart.trans ((Apart.refl (· = b) _).alloc _) p1 (fun _ _ h => h))
  have D1 := mkHid (show Hd w1 bx false 0 0 0 0 (.slice none 0 0) (.slice none 0 0) from p1.heap HN.out (by omega))
  obtain ⟨⟨c0, c1, c2, c3, c4, c5, c6⟩, f0, f1, f2, f3, f4, f5, f6⟩ := D1.out.cells
  clear h1 p1
  rw [HBX.out]
  go_wp2_with fail
  refine (bad_at b s _ _ H1.out).mono ?_
  rw [B.out]
  rintro e w2 ⟨rfl, rfl⟩
  go_wp2
  show bodyPost _ _ _ _ _ _
  obtain ⟨dd, aa⟩ := D1.out.store false 0 0 0 0 (.slice none 0 0) (.slice none 0 0)
  refine bodyPost_ret (res28 _ rfl dd) rfl ⟨(P1.out.trans aa (fun i hi e => by rw [HBX.out] at hi; omega)), ?_⟩
  exact ⟨_, _, _, _, _, _, _, _, _, _, _, rfl⟩
/-- The sources that are read. -/
def srcV (s : ByteArray) (n : Nat) : List Value := (List.range n).map fun i => .int .u32 (gw s (96 + 32 * i) 32 : Int)
theorem srcV_next (s : ByteArray) (n : Nat) : srcV s (n + 1) = srcV s n ++ [.int .u32 (gw s (96 + 32 * n) 32 : Int)] := by simp [srcV, List.range_succ]
theorem info22 : (Try.prog.info? 22).map (fun i => (i.zero, i.size, i.bytes)) = some (some (.int .u32 0), 1, 4) := by kernel_rfl
theorem b1_eq (g : Nat) (h : g < 2 ^ 1) : decide ((g : Int) = 1) = decide (g = 1) := by
  by_cases e : g = 1
  · subst e; rfl
  · rw [decide_eq_false e, decide_eq_false (by omega)]
theorem Hd.set0 {w : World} {bx : Nat} {mk : Bool} {ty sq tm ss : Int} {v5 v6 : Value} (h : Hd w bx mk ty sq tm ss v5 v6) (x : Bool) : Hd (w.setCell ⟨bx, 0, none⟩ (.bool x)) bx x ty sq tm ss v5 v6 := by
  unfold Hd; rw [heap_setCell_same _ bx 0 _ 26 _ h]; rfl
theorem Hd.set1 {w : World} {bx : Nat} {mk : Bool} {ty sq tm ss : Int} {v5 v6 : Value} (h : Hd w bx mk ty sq tm ss v5 v6) (x : Int) : Hd (w.setCell ⟨bx, 1, none⟩ (.int .i64 x)) bx mk x sq tm ss v5 v6 := by
  unfold Hd; rw [heap_setCell_same _ bx 1 _ 26 _ h]; rfl
theorem Hd.set2 {w : World} {bx : Nat} {mk : Bool} {ty sq tm ss : Int} {v5 v6 : Value} (h : Hd w bx mk ty sq tm ss v5 v6) (x : Int) : Hd (w.setCell ⟨bx, 2, none⟩ (.int .i64 x)) bx mk ty x tm ss v5 v6 := by
  unfold Hd; rw [heap_setCell_same _ bx 2 _ 26 _ h]; rfl
theorem Hd.set3 {w : World} {bx : Nat} {mk : Bool} {ty sq tm ss : Int} {v5 v6 : Value} (h : Hd w bx mk ty sq tm ss v5 v6) (x : Int) : Hd (w.setCell ⟨bx, 3, none⟩ (.int .u32 x)) bx mk ty sq x ss v5 v6 := by
  unfold Hd; rw [heap_setCell_same _ bx 3 _ 26 _ h]; rfl
theorem Hd.set4 {w : World} {bx : Nat} {mk : Bool} {ty sq tm ss : Int} {v5 v6 : Value} (h : Hd w bx mk ty sq tm ss v5 v6) (x : Int) : Hd (w.setCell ⟨bx, 4, none⟩ (.int .u32 x)) bx mk ty sq tm x v5 v6 := by
  unfold Hd; rw [heap_setCell_same _ bx 4 _ 26 _ h]; rfl
theorem Hd.set5 {w : World} {bx : Nat} {mk : Bool} {ty sq tm ss : Int} {v5 v6 : Value} (h : Hd w bx mk ty sq tm ss v5 v6) (x : Value) : Hd (w.setCell ⟨bx, 5, none⟩ x) bx mk ty sq tm ss x v6 := by
  unfold Hd; rw [heap_setCell_same _ bx 5 _ 26 _ h]; rfl
theorem Hd.set6 {w : World} {bx : Nat} {mk : Bool} {ty sq tm ss : Int} {v5 v6 : Value} (h : Hd w bx mk ty sq tm ss v5 v6) (x : Value) : Hd (w.setCell ⟨bx, 6, none⟩ x) bx mk ty sq tm ss v5 x := by
  unfold Hd; rw [heap_setCell_same _ bx 6 _ 26 _ h]; rfl
theorem ap_set (w : World) (bx i : Nat) (v : Value) : Apart (· = bx) w (w.setCell ⟨bx, i, none⟩ v) := Apart.setCell (X := (· = bx)) (p := ⟨bx, i, none⟩) (Apart.refl _ _) (fun _ => rfl) _
/-- From w to w' only block b and new ones have turned, and the reader stands at p. -/
structure Go1 (b bx : Nat) (s : ByteArray) (p : Nat) (w w' : World) : Prop where
  ap : Apart (· = b) w w'
  rd : Rd 78 w' b s (At s p)
theorem Go1.set {b bx : Nat} {s : ByteArray} {p : Nat} {w w' : World} (h : Go1 b bx s p w w') (hb : b < bx) (hbx : w.heap.size = bx) (i : Nat) (v : Value) : Go1 b bx s p w (w'.setCell ⟨bx, i, none⟩ v) :=
  ⟨h.ap.trans (ap_set w' bx i v) (fun i hi e => by omega), h.rd.kept (ap_set w' bx i v) (by omega)⟩
theorem Go1.get {b bx : Nat} {s : ByteArray} {p q : Nat} {w w' w'' : World} (h : Go1 b bx s p w w') (ha : Apart (· = b) w' w'') (hr : Rd 78 w'' b s (At s q)) : Go1 b bx s q w w'' :=
  ⟨h.ap.trans ha (fun _ _ h => h), hr⟩
/-- Where what every header has ends. -/
def P0 (s : ByteArray) : Nat := 96 + 32 * gv s 4 4
/-- How many bytes extensions have. -/
def roomN (s : ByteArray) : Nat := 4 * gv s (P0 s + 16) 16
def decR (s : ByteArray) : Int × Ex := xrun s (roomN s + 1) (P0 s + 32) (roomN s) []
/-- The extensions that are read. -/
def decX (s : ByteArray) : Ex := if gv s 3 1 = 1 then (decR s).2 else []
/-- Where the header ends. -/
def decP (s : ByteArray) : Nat := if gv s 3 1 = 1 then P0 s + 32 + 8 * roomN s else P0 s
/-- What is wrong behind the mark. -/
def headE (s : ByteArray) : Int := if ¬ P0 s ≤ 8 * s.size then 60 else if gv s 3 1 = 1 then (if roomE s (P0 s) ≠ 0 then roomE s (P0 s) else (decR s).1) else 0
/-- What getHeader leaves behind where all is well. -/
def HdrOk (b : Nat) (s : ByteArray) (w : World) (e : Ending) (w' : World) : Prop :=
  Apart (· = b) w w' ∧ Rd 78 w' b s (At s (decP s)) ∧ ∃ v5 v6, e = .returned (.tuple #[hdr (((gw s 8 1 : Int)) == 1) (gw s 9 7 : Int) (gw s 16 16 : Int) (gw s 32 32 : Int) (gw s 64 32 : Int) v5 v6, .int .i64 0]) ∧
    w'.ownsRow w.heap.size 22 1 v5 (gv s 4 4) (srcV s (gv s 4 4)) ∧ w'.ownsRow w.heap.size 47 2 v6 (decX s).length (xcells (decX s))
def HeadPost (b : Nat) (s : ByteArray) (w : World) (e : Ending) (w' : World) : Prop := (headE s ≠ 0 ∧ HdrBad b (headE s) w e w') ∨ (headE s = 0 ∧ HdrOk b s w e w')
theorem ownsRow_slice {w : World} {base : Nat} {e : TypeId} {size : Nat} {v : Value} {n : Nat} {xs : List Value} (h : w.ownsRow base e size v n xs) : ∃ a c, v = .slice a n c := by
  rcases h.2 with ⟨rfl, rfl⟩ | ⟨g, cap, cur, rfl, _⟩
  · exact ⟨none, 0, rfl⟩
  · exact ⟨_, _, rfl⟩
set_option maxRecDepth 100000 in
set_option maxHeartbeats 4000000 in
theorem head_go (b : Nat) (s : ByteArray) (hs : s.size ≤ 1000000) (h0 : 8 ≤ 8 * s.size) (hm : gv s 0 3 = 4) (w : World) (h : Rd 78 w b s (At s 0)) :
    Calls Try.prog 28 #[.pointer (some ⟨b, 0, none⟩)] w (HeadPost b s w) := by
  have hbl := h.heap
  have GO0 := mkHid (Go1.mk (bx := w.heap.size) ((Apart.refl (· = b) w).alloc (.cells #[.bool false, .int .i64 0, .int .i64 0, .int .u32 0, .int .u32 0, .slice none 0 0, .slice none 0 0] 26)) (h.kept ((Apart.refl (fun _ => False) _).alloc (.cells #[.bool false, .int .i64 0, .int .i64 0, .int .u32 0, .int .u32 0, .slice none 0 0, .slice none 0 0] 26)) (fun h => h)))
  have B := mkHid (badB_no (s := s) (p := 3) (by omega))
  have G := mkHid (gw_in (s := s) (p := 0) (n := 3) (by omega))
  have GN := mkHid (gw_in (s := s) (p := 4) (n := 4) (by omega))
  have GX := mkHid (gw_in (s := s) (p := 3) (n := 1) (by omega))
  rw [hm] at G
  obtain ⟨bx, HBX⟩ : ∃ bx, Hid (w.heap.size = bx) := ⟨_, rfl⟩
  have HN := mkHid (heap_alloc_new w (.cells #[.bool false, .int .i64 0, .int .i64 0, .int .u32 0, .int .u32 0, .slice none 0 0, .slice none 0 0] 26))
  rw [HBX.out] at HN hbl GO0
  clear h h0 hm
  go_enter Try.func28, Try.ntmps28
  go_wp2_with fail
  refine (get_at b s hs 0 _ 3 rfl (by omega) _ GO0.out.rd).mono ?_
  rw [G.out]
  rintro e w1 ⟨rfl, h1, p1⟩
  have GO1 := mkHid (GO0.out.get p1 h1)
  have D1 := mkHid (show Hd w1 bx false 0 0 0 0 (.slice none 0 0) (.slice none 0 0) from p1.heap HN.out (by omega))
  clear h1 p1 GO0 HN
  rw [HBX.out]
  go_wp2_with fail
  refine (bad_at b s _ _ GO1.out.rd).mono ?_
  rw [B.out]
  rintro e w2 ⟨rfl, rfl⟩
  go_wp2_with fail
  refine (get_at b s hs _ _ 1 rfl (by omega) _ GO1.out.rd).mono ?_
  rw [show 0 + 3 = 3 from rfl, GX.out]
  have hx := gv_lt s 3 1
  obtain ⟨gx, HGX⟩ : ∃ gx, Hid (gv s 3 1 = gx) := ⟨_, rfl⟩
  rw [HGX.out] at hx ⊢
  rintro e w2 ⟨rfl, h2, p2⟩
  have GO2 := mkHid (GO1.out.get p2 h2)
  have D2 := mkHid (D1.out.kept p2 (by omega))
  clear h2 p2 GO1 D1
  obtain ⟨xb, HXB⟩ : ∃ xb : Bool, Hid (((gx : Int) == 1) = xb) := ⟨_, rfl⟩
  go_wp2_with fail
  rw [HXB.out]
  refine (get_at b s hs _ _ 4 rfl (by omega) _ GO2.out.rd).mono ?_
  rw [show 3 + 1 = 4 from rfl, GN.out]
  have hn := gv_lt s 4 4
  obtain ⟨n, HNN⟩ : ∃ n, Hid (gv s 4 4 = n) := ⟨_, rfl⟩
  rw [HNN.out] at hn ⊢
  rintro e w3 ⟨rfl, h3, p3⟩
  have GO3 := mkHid (GO2.out.get p3 h3)
  have D3 := mkHid (D2.out.kept p3 (by omega))
  clear h3 p3 GO2 D2
  go_wp2_with fail
  refine (get_at b s hs _ _ 1 rfl (by omega) _ GO3.out.rd).mono ?_
  rw [show 4 + 4 = 8 from rfl]
  have hmk := gw_lt s 8 1
  obtain ⟨gm, HGM⟩ : ∃ gm, Hid (gw s 8 1 = gm) := ⟨_, rfl⟩
  rw [HGM.out] at hmk ⊢
  rintro e w4 ⟨rfl, h4, p4⟩
  have GO4 := mkHid (GO3.out.get p4 h4)
  have D4 := mkHid (D3.out.kept p4 (by omega))
  clear h4 p4 GO3 D3
  obtain ⟨⟨c0, c1, c2, c3, c4, c5, c6⟩, f0, f1, f2, f3, f4, f5, f6⟩ := D4.out.cells
  clear c1 c2 c3 c4 c5 c6 f1 f2 f3 f4 f5 f6
  obtain ⟨mk, HMK⟩ : ∃ mk : Bool, Hid (((gm : Int) == 1) = mk) := ⟨_, rfl⟩
  go_wp2_with fail
  rw [HMK.out]
  have GO4' := mkHid (GO4.out.set hbl HBX.out 0 (.bool mk))
  have D4' := mkHid (D4.out.set0 mk)
  clear c0 f0 GO4 D4
  refine (get_at b s hs _ _ 7 rfl (by omega) _ GO4'.out.rd).mono ?_
  rw [show 8 + 1 = 9 from rfl]
  have hty := gw_lt s 9 7
  obtain ⟨ty, HTY⟩ : ∃ ty, Hid (gw s 9 7 = ty) := ⟨_, rfl⟩
  rw [HTY.out] at hty ⊢
  rintro e w5 ⟨rfl, h5, p5⟩
  have GO5 := mkHid (GO4'.out.get p5 h5)
  have D5 := mkHid (D4'.out.kept p5 (by omega))
  clear h5 p5 GO4' D4'
  obtain ⟨⟨c0, c1, c2, c3, c4, c5, c6⟩, f0, f1, f2, f3, f4, f5, f6⟩ := D5.out.cells
  clear c0 c2 c3 c4 c5 c6 f0 f2 f3 f4 f5 f6
  go_wp2_with fail
  have GO5' := mkHid (GO5.out.set hbl HBX.out 1 (.int .i64 ty))
  have D5' := mkHid (D5.out.set1 ty)
  clear c1 f1 GO5 D5
  refine (get_at b s hs _ _ 16 rfl (by omega) _ GO5'.out.rd).mono ?_
  rw [show 9 + 7 = 16 from rfl]
  have hsq0 := gw_lt s 16 16
  obtain ⟨sq, HSQ⟩ : ∃ sq, Hid (gw s 16 16 = sq) := ⟨_, rfl⟩
  rw [HSQ.out] at hsq0 ⊢
  obtain ⟨sqi, HSQI⟩ : ∃ sqi : Int, Hid ((sq : Int) = sqi) := ⟨_, rfl⟩
  have hsq1 : 0 ≤ sqi := by rw [← HSQI.out]; omega
  have hsq2 : sqi < 65536 := by rw [← HSQI.out]; omega
  rw [HSQI.out]
  clear hsq0
  rintro e w6 ⟨rfl, h6, p6⟩
  have GO6 := mkHid (GO5'.out.get p6 h6)
  have D6 := mkHid (D5'.out.kept p6 (by omega))
  clear h6 p6 GO5' D5'
  obtain ⟨⟨c0, c1, c2, c3, c4, c5, c6⟩, f0, f1, f2, f3, f4, f5, f6⟩ := D6.out.cells
  clear c0 c1 c3 c4 c5 c6 f0 f1 f3 f4 f5 f6
  go_wp2_with fail
  have GO6' := mkHid (GO6.out.set hbl HBX.out 2 (.int .i64 sqi))
  have D6' := mkHid (D6.out.set2 sqi)
  clear c2 f2 GO6 D6
  refine (get_at b s hs _ _ 32 rfl (by omega) _ GO6'.out.rd).mono ?_
  rw [show 16 + 16 = 32 from rfl]
  obtain ⟨tm, HTM⟩ : ∃ tm : Int, Hid ((gw s 32 32 : Int) = tm) := ⟨_, rfl⟩
  rw [HTM.out]
  rintro e w7 ⟨rfl, h7, p7⟩
  have GO7 := mkHid (GO6'.out.get p7 h7)
  have D7 := mkHid (D6'.out.kept p7 (by omega))
  clear h7 p7 GO6' D6'
  obtain ⟨⟨c0, c1, c2, c3, c4, c5, c6⟩, f0, f1, f2, f3, f4, f5, f6⟩ := D7.out.cells
  clear c0 c1 c2 c4 c5 c6 f0 f1 f2 f4 f5 f6
  go_wp2_with fail
  have GO7' := mkHid (GO7.out.set hbl HBX.out 3 (.int .u32 tm))
  have D7' := mkHid (D7.out.set3 tm)
  clear c3 f3 GO7 D7
  refine (get_at b s hs _ _ 32 rfl (by omega) _ GO7'.out.rd).mono ?_
  rw [show 32 + 32 = 64 from rfl]
  obtain ⟨ss, HSS⟩ : ∃ ss : Int, Hid ((gw s 64 32 : Int) = ss) := ⟨_, rfl⟩
  rw [HSS.out]
  rintro e w8 ⟨rfl, h8, p8⟩
  have GO8 := mkHid (GO7'.out.get p8 h8)
  have D8 := mkHid (D7'.out.kept p8 (by omega))
  clear h8 p8 GO7' D7'
  obtain ⟨⟨c0, c1, c2, c3, c4, c5, c6⟩, f0, f1, f2, f3, f4, f5, f6⟩ := D8.out.cells
  clear c0 c1 c2 c3 c5 c6 f0 f1 f2 f3 f5 f6
  go_wp2_with fail
  have GO8' := mkHid (GO8.out.set hbl HBX.out 4 (.int .u32 ss))
  have D8' := mkHid (D8.out.set4 ss)
  clear c4 f4 GO8 D8
  rw [show 64 + 32 = 96 from rfl] at GO8'
  go_loopw [40] (fun i wr => ∃ (k : Nat) (v5 : Value), k ≤ n ∧ i = .int .i64 (k : Int) ∧ Hd wr bx mk ty sqi tm ss v5 (.slice none 0 0) ∧ wr.ownsRow (bx + 1) 22 1 v5 k (srcV s k) ∧ Go1 b bx s (96 + 32 * k) w wr) (fun i _ => n - (intOf i).toNat)
  case atStart => exact ⟨0, _, Nat.zero_le _, rfl, D8'.out, World.ownsRow_nil _ _ _ _, GO8'.out⟩
  case round =>
    obtain ⟨k, v5, hk, rfl, hd, hown, hgo⟩ := hrel
    have HD := mkHid hd
    have HOW := mkHid hown
    have HGO := mkHid hgo
    have hlt2 := lt_of_heap hd
    obtain ⟨a5, cap5, hv5⟩ := ownsRow_slice hown
    clear hd hown hgo D8' GO8'
    by_cases hlt : k < n
    · subst hv5
      have hcc := HD.out.cells.1.2.2.2.2.2.1
      have hff := HD.out.cells.2.2.2.2.2.2.1
      have hbk : ∀ w', Apart (· = b) wr w' → w'.cell? ⟨bx, 5, none⟩ = some (.slice a5 k cap5) := fun w' ha => (HD.out.kept ha (by omega)).cells.1.2.2.2.2.2.1
      have HBK := mkHid hbk
      clear hbk
      clear HBK
      have HNX := mkHid (show ¬ (bx = b ∨ (Value.slice a5 k cap5).ownBlock = some bx) from by rintro (e | e); omega; have := (HOW.out.lt _ e).1; omega)
      obtain ⟨i0, hi, hz0, hz1, hz2⟩ := info_parts info22
      go_wp2_with fail
      go_region_law
        (first
          | (go_simp; refine (get_at b s hs _ _ 32 rfl (by omega) _ (by first | exact HGO.out.rd | exact drew_rd 1 HGO.out.rd)).mono ?_; rintro e w9 ⟨rfl, h9, p9⟩; have H9 := mkHid h9; have b9 : Apart (· = b) wr w9 := Apart.trans (Apart.drew (Apart.refl _ _)) p9 (fun _ _ h => h); have hc9 := (HD.out.kept b9 (by omega)).cells.1.2.2.2.2.2.1; have hc9a := (HD.out.kept (b9.alloc (.cells #[.int .u32 (gw s (96 + 32 * k) 32 : Int)] 22)) (by omega)).cells.1.2.2.2.2.2.1; clear h9 p9)
          | (refine step_append_lies _ (by rfl) _ _ _ (by rfl) (bx + 1) 22 i0 (.int .u32 0) 1 4 Try.underlying23 hi hz0 hz1 hz2 rfl (by decide) (.slice a5 k cap5) k (srcV s k) (by rfl) ((ownsRow_apart HOW.out b9 (by intro k hk e; omega)).alloc _) ⟨w9.heap.size, 0, none⟩ 1 1 [.int .u32 (gw s (96 + 32 * k) 32 : Int)] (by rfl) (by rfl) (cell_one_new _ _ _) (by intro u hu; simp at hu; subst hu; rfl) (by decide) (by unfold maxLen; omega) (by omega) (by have := b9.size; simp; omega) _ rfl ?_; intro g cap w10 hown10 hgrow10 hat10 hlt10; have OW10 := mkHid hown10; have AP10 := mkHid (Apart.grown (X := fun j => j = b ∨ (Value.slice a5 k cap5).ownBlock = some j) (Apart.alloc (b9.mono (fun _ _ h => .inl h)) _) hgrow10 (fun _ _ e => .inr e)); have AG10 := mkHid (Apart.grown (X := fun j => (Value.slice a5 k cap5).ownBlock = some j) (Apart.alloc (Apart.refl _ w9) _) hgrow10 (fun _ _ e => e)); have D10 := mkHid (HD.out.kept AP10.out HNX.out); have hc10 := D10.out.cells.1.2.2.2.2.2.1; have hf10 := D10.out.cells.2.2.2.2.2.2.1; clear hown10 hgrow10 hat10 hlt10))
      all_goals
        go_wp2
        go_roundw
        case rel =>
          refine ⟨k + 1, _, by omega, by go_num, D10.out.set5 _, ?_, ?_⟩
          · rw [srcV_next]; exact ownsRow_setCell_below OW10.out (by simp) _
          · refine Go1.set (Go1.mk ?_ ?_) hbl HBX.out 5 _
            · exact HGO.out.ap.trans AP10.out (fun i hi e => by
                rcases e with e | e
                · exact e
                · have := (HOW.out.lt _ e).1; rw [HBX.out] at hi; omega)
            · exact H9.out.kept AG10.out (fun e => by have := (HOW.out.lt _ e).1; omega)
        case measure => simp [intOf]; omega
    · obtain rfl : k = n := by omega
      subst hv5
      obtain ⟨⟨c0, c1, c2, c3, c4, c5, c6⟩, f0, f1, f2, f3, f4, f5, f6⟩ := HD.out.cells
      have HP0 := mkHid (show P0 s = 96 + 32 * k from by unfold P0; rw [HNN.out])
      go_wp2_with fail
      refine (bad_at b s _ _ HGO.out.rd).mono ?_
      by_cases h9 : 96 + 32 * k ≤ 8 * s.size
      · rw [badB_no h9]
        rintro e w9 ⟨rfl, rfl⟩
        have hEX : headE s = if gx = 1 then (if roomE s (96 + 32 * k) ≠ 0 then roomE s (96 + 32 * k) else (decR s).1) else 0 := by
          unfold headE; rw [HP0.out, HGX.out, if_neg (fun h => h h9)]
        have hDX : decX s = if gx = 1 then (decR s).2 else [] := by unfold decX; rw [HGX.out]
        have hDP : decP s = if gx = 1 then 96 + 32 * k + 32 + 8 * (4 * gv s (96 + 32 * k + 16) 16) else 96 + 32 * k := by unfold decP roomN; rw [HGX.out, HP0.out]
        clear h9
        by_cases hg1 : gx = 1
        · rw [if_pos hg1] at hEX hDX hDP
          obtain rfl : xb = true := by rw [← HXB.out, hg1]; rfl
          have HDX := mkHid hDX
          have HDP := mkHid hDP
          by_cases hr : roomE s (96 + 32 * k) = 0
          · rw [if_neg (by rw [hr]; simp)] at hEX
            have hRR : xrun s (4 * gv s (96 + 32 * k + 16) 16 + 1) (96 + 32 * k + 32) (4 * gv s (96 + 32 * k + 16) 16) [] = decR s := by unfold decR roomN; rw [HP0.out]
            have XO := mkHid (exts_ok b s hs (96 + 32 * k) hr (decR s) hRR _ HGO.out.rd)
            have HEX := mkHid hEX
            clear hEX hDX hDP hr hRR hg1
            go_wp2_with fail
            refine (XO.out).mono ?_
            rintro e w10 ⟨p10, ⟨hne, rfl⟩ | ⟨heq, v6, rfl, ho6, hr6⟩⟩
            · have P10 := mkHid p10
              have D10 := mkHid (HD.out.kept p10 (by omega))
              have HNE := mkHid hne
              clear p10 hne c0 c1 c2 c3 c4 c5 c6 f0 f1 f2 f3 f4 f5 f6
              obtain ⟨⟨c0, c1, c2, c3, c4, c5, c6⟩, f0, f1, f2, f3, f4, f5, f6⟩ := D10.out.cells
              obtain ⟨E, HE⟩ : ∃ E, Hid ((decR s).1 = E) := ⟨_, rfl⟩
              rw [HE.out]
              go_wp2
              show bodyPost _ _ _ _ _ _
              obtain ⟨dd, aa⟩ := (D10.out.set6 (.slice none 0 0)).store mk ty sqi tm ss (.slice a5 k cap5) (.slice none 0 0)
              refine bodyPost_ret (res28 _ rfl dd) rfl (.inl ⟨by rw [HEX.out]; exact HNE.out, ?_⟩)
              rw [HEX.out, HE.out]
              exact ⟨((HGO.out.ap.trans P10.out (fun _ _ h => h)).trans (ap_set _ bx 6 _) (fun i hi e => by rw [HBX.out] at hi; omega)).trans aa (fun i hi e => by rw [HBX.out] at hi; omega), _, _, _, _, _, _, _, _, _, _, _, rfl⟩
            · obtain ⟨a6, cap6, rfl⟩ := ownsRow_slice ho6
              have P10 := mkHid p10
              have D10 := mkHid (HD.out.kept p10 (by omega))
              have HEQ := mkHid heq
              have O5 := mkHid (ownsRow_apart HOW.out p10 (by intro k hk e; omega))
              have O6 := mkHid ho6
              have R6 := mkHid hr6
              clear p10 heq ho6 hr6 c0 c1 c2 c3 c4 c5 c6 f0 f1 f2 f3 f4 f5 f6
              obtain ⟨⟨c0, c1, c2, c3, c4, c5, c6⟩, f0, f1, f2, f3, f4, f5, f6⟩ := D10.out.cells
              obtain ⟨l6, HL6⟩ : ∃ l6, Hid ((decR s).2.length = l6) := ⟨_, rfl⟩
              rw [HL6.out]
              go_wp2
              show bodyPost _ _ _ _ _ _
              obtain ⟨dd, aa⟩ := (D10.out.set6 (.slice a6 l6 cap6)).store mk ty sqi tm ss (.slice a5 k cap5) (.slice a6 l6 cap6)
              have aa2 := (ap_set w10 bx 6 (.slice a6 l6 cap6)).trans aa (fun _ _ h => h)
              refine bodyPost_ret (res28 _ rfl dd) rfl (.inr ⟨by rw [HEX.out]; exact HEQ.out, ?_, ?_, .slice a5 k cap5, .slice a6 l6 cap6, ?_, ?_, ?_⟩)
              · exact (HGO.out.ap.trans P10.out (fun _ _ h => h)).trans aa2 (fun i hi e => by rw [HBX.out] at hi; omega)
              · rw [HDP.out]; exact R6.out.kept aa2 (by omega)
              · rw [HGM.out, HMK.out, HTY.out, HSQ.out, HSQI.out, HTM.out, HSS.out]; rfl
              · rw [HNN.out]
                exact ownsRow_base (ownsRow_apart O5.out aa2 (by intro k hk e; omega)) (by rw [HBX.out]; omega)
              · rw [HDX.out, HL6.out]
                have := O6.out
                rw [HL6.out] at this
                exact ownsRow_base (ownsRow_apart this aa2 (by intro k hk e; omega)) (by rw [HBX.out]; omega)
          · rw [if_pos hr] at hEX
            have XB := mkHid (exts_bad b s hs (96 + 32 * k) hr _ HGO.out.rd)
            have HR := mkHid hr
            have HEX := mkHid hEX
            clear hEX hDX hDP hr hg1
            obtain ⟨E, HE⟩ : ∃ E, Hid (roomE s (96 + 32 * k) = E) := ⟨_, rfl⟩
            rw [HE.out] at XB HR HEX
            go_wp2_with fail
            refine (XB.out).mono ?_
            rintro e w10 ⟨rfl, p10⟩
            have P10 := mkHid p10
            have D10 := mkHid (HD.out.kept p10 (by omega))
            clear p10 c0 c1 c2 c3 c4 c5 c6 f0 f1 f2 f3 f4 f5 f6
            obtain ⟨⟨c0, c1, c2, c3, c4, c5, c6⟩, f0, f1, f2, f3, f4, f5, f6⟩ := D10.out.cells
            go_wp2
            show bodyPost _ _ _ _ _ _
            obtain ⟨dd, aa⟩ := (D10.out.set6 (.slice none 0 0)).store mk ty sqi tm ss (.slice a5 k cap5) (.slice none 0 0)
            refine bodyPost_ret (res28 _ rfl dd) rfl (.inl ⟨by rw [HEX.out]; exact HR.out, ?_⟩)
            rw [HEX.out]
            exact ⟨((HGO.out.ap.trans P10.out (fun _ _ h => h)).trans (ap_set _ bx 6 _) (fun i hi e => by rw [HBX.out] at hi; omega)).trans aa (fun i hi e => by rw [HBX.out] at hi; omega), _, _, _, _, _, _, _, _, _, _, _, rfl⟩
        · rw [if_neg hg1] at hEX hDX hDP
          obtain rfl : xb = false := by rw [← HXB.out]; have : ¬ (gx : Int) = 1 := (by omega); simpa using this
          have HEX := mkHid hEX
          have HDX := mkHid hDX
          have HDP := mkHid hDP
          clear hEX hDX hDP hg1
          go_wp2
          show bodyPost _ _ _ _ _ _
          obtain ⟨dd, aa⟩ := HD.out.store mk ty sqi tm ss (.slice a5 k cap5) (.slice none 0 0)
          refine bodyPost_ret (res28 _ rfl dd) rfl (.inr ⟨HEX.out, ?_, ?_, .slice a5 k cap5, .slice none 0 0, ?_, ?_, ?_⟩)
          · exact HGO.out.ap.trans aa (fun i hi e => by rw [HBX.out] at hi; omega)
          · rw [HDP.out]; exact HGO.out.rd.kept aa (by omega)
          · rw [HGM.out, HMK.out, HTY.out, HSQ.out, HSQI.out, HTM.out, HSS.out]; rfl
          · rw [HNN.out]
            exact ownsRow_base (ownsRow_apart HOW.out aa (by intro k hk e; omega)) (by rw [HBX.out]; omega)
          · rw [HDX.out]
            exact World.ownsRow_nil _ _ _ _
      · rw [badB_yes h9]
        rintro e w9 ⟨rfl, rfl⟩
        have hE : headE s = 60 := by unfold headE; rw [if_pos (by rw [HP0.out]; exact h9)]
        have HE := mkHid hE
        clear hE h9
        go_wp2
        show bodyPost _ _ _ _ _ _
        obtain ⟨dd, aa⟩ := HD.out.store mk ty sqi tm ss (.slice a5 k cap5) (.slice none 0 0)
        refine bodyPost_ret (res28 _ rfl dd) rfl (.inl ⟨by rw [HE.out]; decide, ?_⟩)
        rw [HE.out]
        exact ⟨HGO.out.ap.trans aa (fun i hi e => by rw [HBX.out] at hi; omega), _, _, _, _, _, _, _, _, _, _, _, rfl⟩
end Go.Proofs.Ytdajcgicpfpeoaa
