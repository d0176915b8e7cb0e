/-
  What Decode hands back.
-/
import Derived.Test.YtdajcgicpfpeoaaRtZ
namespace Go.Proofs.Ytdajcgicpfpeoaa
open Go.RowKit

/-- What is wrong with a text as a header. -/
def decE (s : ByteArray) : Int := if s.size = 0 then 60 else if gv s 0 3 ≠ 4 then 70 else headE s
theorem head_any (b : Nat) (s : ByteArray) (hs : s.size ≤ 1000000) (w : World) (h : Rd 78 w b s (At s 0)) :
    Calls Try.prog 28 #[.pointer (some ⟨b, 0, none⟩)] w fun e w' => (decE s ≠ 0 ∧ HdrBad b (decE s) w e w') ∨ (decE s = 0 ∧ HdrOk b s w e w') := by
  unfold decE
  by_cases h0 : s.size = 0
  · rw [if_pos h0]
    exact (head_none b s hs h0 w h).mono fun e w' h => .inl ⟨by decide, h⟩
  · rw [if_neg h0]
    by_cases h1 : gv s 0 3 = 4
    · rw [if_neg (by rw [h1]; simp)]
      exact head_go b s hs (by omega) h1 w h
    · rw [if_pos h1]
      exact (head_mark b s hs (by omega) h1 w h).mono fun e w' h => .inl ⟨by decide, h⟩
theorem xrun_le (s : ByteArray) (k p L : Nat) (acc : Ex) (h : (xrun s k p L acc).1 = 0) (hp : p ≤ 8 * s.size) : p + 8 * L ≤ 8 * s.size := by
  induction k generalizing p L acc with
  | zero => simp [xrun] at h
  | succ k ih =>
    rw [xrun] at h
    by_cases h0 : L = 0
    · omega
    · rw [if_neg h0] at h
      by_cases h1 : p + 8 ≤ 8 * s.size
      · rw [if_neg (fun x => x h1)] at h
        by_cases h2 : gv s p 4 = 0 ∧ gv s (p + 4) 4 = 0
        · rw [if_pos h2] at h
          have := ih _ _ _ h h1
          omega
        · rw [if_neg h2] at h
          by_cases h3 : L - 1 < gv s (p + 4) 4 + 1 ∨ ¬ fresh acc (gv s p 4)
          · rw [if_pos h3] at h; simp at h
          · rw [if_neg h3] at h
            by_cases h4 : p + 8 + 8 * (gv s (p + 4) 4 + 1) ≤ 8 * s.size
            · rw [if_neg (fun x => x h4)] at h
              have := ih _ _ _ h h4
              omega
            · rw [if_pos h4] at h; simp at h
      · rw [if_pos h1] at h; simp at h
theorem decP_le {s : ByteArray} (h : decE s = 0) : decP s ≤ 8 * s.size ∧ decP s % 8 = 0 := by
  unfold decE at h
  by_cases h0 : s.size = 0
  · rw [if_pos h0] at h; simp at h
  · rw [if_neg h0] at h
    by_cases h1 : gv s 0 3 = 4
    · rw [if_neg (by rw [h1]; simp)] at h
      unfold headE at h
      by_cases h2 : P0 s ≤ 8 * s.size
      · rw [if_neg (fun x => x h2)] at h
        unfold decP
        by_cases h3 : gv s 3 1 = 1
        · rw [if_pos h3] at h ⊢
          by_cases h4 : roomE s (P0 s) = 0
          · rw [if_neg (by rw [h4]; simp)] at h
            have := xrun_le s _ _ _ _ h (room_parts h4).2.2
            refine ⟨by omega, ?_⟩
            unfold P0; omega
          · rw [if_pos h4] at h; exact absurd h h4
        · rw [if_neg h3]; exact ⟨h2, by unfold P0; omega⟩
      · rw [if_pos h2] at h; simp at h
    · rw [if_pos h1] at h; simp at h
theorem res14 {W : World} {bx : Nat} {mk : Bool} {ty sq tm ss : Int} {sa ea : Option Addr} {ns sc ne ec : Nat} (tmps : Array Value) (h2 : tmps.getD 2 undef = .pointer (some ⟨bx, 0, none⟩)) (hd : Hd W bx mk ty sq tm ss (.slice sa ns sc) (.slice ea ne ec)) :
    (results Try.f14 tmps).run Try.prog W = .ok (.tuple #[hdr mk ty sq tm ss (.slice sa ns sc) (.slice ea ne ec), tmps.getD 3 undef, tmps.getD 4 undef]) W := by
  obtain ⟨⟨c0, c1, c2, c3, c4, c5, c6⟩, _⟩ := hd.cells
  clear hd
  have h2' : tmps[2]?.getD undef = .pointer (some ⟨bx, 0, none⟩) := by rw [← h2]; simp
  simp [results, Try.results14, h2', c0, c1, c2, c3, c4, c5, c6, go_sem]
/-- What Decode leaves behind. -/
def DecOk (s : ByteArray) (w : World) (e : Ending) (w' : World) : Prop :=
  ∃ v5 v6, e = .returned (.tuple #[hdr (((gw s 8 1 : Int)) == 1) (gw s 9 7 : Int) (gw s 16 16 : Int) (gw s 32 32 : Int) (gw s 64 32 : Int) v5 v6, .int .i64 ((decP s / 8 : Nat) : Int), .int .i64 0]) ∧
    w'.ownsRow w.heap.size 22 1 v5 (gv s 4 4) (srcV s (gv s 4 4)) ∧ w'.ownsRow w.heap.size 47 2 v6 (decX s).length (xcells (decX s))
def DecPost (s : ByteArray) (w : World) (e : Ending) (w' : World) : Prop :=
  Below w.heap.size w w' ∧ ((decE s ≠ 0 ∧ e = .returned (.tuple #[hdr false 0 0 0 0 (.slice none 0 0) (.slice none 0 0), .int .i64 0, .int .i64 (decE s)])) ∨ (decE s = 0 ∧ DecOk s w e w'))
/-- A header stored in block bx. -/
def put7 (w : World) (bx : Nat) (mk : Bool) (ty sq tm ss : Int) (v5 v6 : Value) : World := ((((((w.setCell ⟨bx, 0, none⟩ (.bool mk)).setCell ⟨bx, 1, none⟩ (.int .i64 ty)).setCell ⟨bx, 2, none⟩ (.int .i64 sq)).setCell ⟨bx, 3, none⟩ (.int .u32 tm)).setCell ⟨bx, 4, none⟩ (.int .u32 ss)).setCell ⟨bx, 5, none⟩ v5).setCell ⟨bx, 6, none⟩ v6
theorem put7_eq (w : World) (bx : Nat) (mk : Bool) (ty sq tm ss : Int) (v5 v6 : Value) : ((((((w.setCell ⟨bx, 0, none⟩ (.bool mk)).setCell ⟨bx, 1, none⟩ (.int .i64 ty)).setCell ⟨bx, 2, none⟩ (.int .i64 sq)).setCell ⟨bx, 3, none⟩ (.int .u32 tm)).setCell ⟨bx, 4, none⟩ (.int .u32 ss)).setCell ⟨bx, 5, none⟩ v5).setCell ⟨bx, 6, none⟩ v6 = put7 w bx mk ty sq tm ss v5 v6 := rfl
theorem put7_is {w : World} {bx : Nat} {mk : Bool} {ty sq tm ss : Int} {v5 v6 : Value} (h : Hd w bx mk ty sq tm ss v5 v6) (mk' : Bool) (ty' sq' tm' ss' : Int) (v5' v6' : Value) :
    Hd (put7 w bx mk' ty' sq' tm' ss' v5' v6') bx mk' ty' sq' tm' ss' v5' v6' ∧ Apart (· = bx) w (put7 w bx mk' ty' sq' tm' ss' v5' v6') := h.store mk' ty' sq' tm' ss' v5' v6'
theorem Hd.drewN {w : World} {bx : Nat} {mk : Bool} {ty sq tm ss : Int} {v5 v6 : Value} (h : Hd w bx mk ty sq tm ss v5 v6) (n : Nat) : Hd (w.drewN n) bx mk ty sq tm ss v5 v6 := h
theorem hold7 {w : World} {bx : Nat} {mk : Bool} {ty sq tm ss : Int} {v5 v6 : Value} (h : Hd w bx mk ty sq tm ss v5 v6) :
    (put7 w bx mk ty sq tm ss v5 v6).cell? ⟨bx, 0, none⟩ = some (.bool mk) ∧ (put7 w bx mk ty sq tm ss v5 v6).cell? ⟨bx, 1, none⟩ = some (.int .i64 ty) ∧ (put7 w bx mk ty sq tm ss v5 v6).cell? ⟨bx, 2, none⟩ = some (.int .i64 sq) ∧ (put7 w bx mk ty sq tm ss v5 v6).cell? ⟨bx, 3, none⟩ = some (.int .u32 tm) ∧ (put7 w bx mk ty sq tm ss v5 v6).cell? ⟨bx, 4, none⟩ = some (.int .u32 ss) ∧ (put7 w bx mk ty sq tm ss v5 v6).cell? ⟨bx, 5, none⟩ = some v5 ∧ (put7 w bx mk ty sq tm ss v5 v6).cell? ⟨bx, 6, none⟩ = some v6 :=
  (put7_is h mk ty sq tm ss v5 v6).1.cells.1
set_option maxRecDepth 100000 in
set_option maxHeartbeats 400000 in
theorem dec_any (s : ByteArray) (hs : s.size ≤ 1000000) (w : World) : Calls Try.prog 14 #[.string s] w (DecPost s w) := by
  obtain ⟨bx, HBX⟩ : ∃ bx, Hid (w.heap.size = bx) := ⟨_, rfl⟩
  have HN := mkHid (heap_alloc_new w (.cells #[.bool false, .int .i64 0, .int .i64 0, .int .u32 0, .int .u32 0, .slice none 0 0, .slice none 0 0] 26))
  have B0 := mkHid ((Apart.refl (fun _ => False) w).alloc (.cells #[.bool false, .int .i64 0, .int .i64 0, .int .u32 0, .int .u32 0, .slice none 0 0, .slice none 0 0] 26))
  have HZ := mkHid (show (w.alloc (.cells #[.bool false, .int .i64 0, .int .i64 0, .int .u32 0, .int .u32 0, .slice none 0 0, .slice none 0 0] 26)).heap.size = w.heap.size + 1 by simp)
  rw [HBX.out] at HN HZ
  go_enter Try.func14, Try.ntmps14
  go_wp2_with fail
  refine (read_any s _).mono ?_
  rw [HZ.out]
  rintro e w1 ⟨rfl, h1, p1, z1⟩
  have A1 := mkHid (B0.out.trans p1 (fun _ _ h => h))
  have D1 := mkHid (show Hd w1 bx false 0 0 0 0 (.slice none 0 0) (.slice none 0 0) from p1.heap HN.out (fun h => h))
  have R1 := mkHid (show Rd 78 w1 (bx + 1) s (At s 0) from by unfold At; rw [if_pos (Nat.zero_le _)]; exact h1)
  clear h1 p1 B0 HN HZ
  rw [HBX.out]
  go_wp2_with fail
  refine (head_any (bx + 1) s hs _ R1.out).mono ?_
  rintro e w2 (⟨hne, p2, mk, ty, sq, tm, ss, sa, ns, sc, ea, ne, ec, rfl⟩ | ⟨heq, p2, r2, v5, v6, rfl, o5, o6⟩)
  · have HNE := mkHid hne
    have hne' := hne
    have A2 := mkHid (A1.out.trans (X := fun _ => False) p2 (fun i hi e => by rw [HBX.out] at hi; omega))
    have D2 := mkHid (D1.out.kept p2 (by omega))
    clear hne p2
    obtain ⟨⟨c0, c1, c2, c3, c4, c5, c6⟩, f0, f1, f2, f3, f4, f5, f6⟩ := D2.out.cells
    generalize hE : decE s = E at *
    go_upto_if 14 with fail
    rw [put7_eq]
    obtain ⟨d3, a3⟩ := put7_is D2.out mk ty sq tm ss (.slice sa ns sc) (.slice ea ne ec)
    have D3 := mkHid d3
    have A3 := mkHid (A2.out.trans (X := fun _ => False) a3 (fun i hi e => by rw [HBX.out] at hi; omega))
    generalize put7 w2 bx mk ty sq tm ss (.slice sa ns sc) (.slice ea ne ec) = w3 at *
    clear d3 a3 c0 c1 c2 c3 c4 c5 c6 f0 f1 f2 f3 f4 f5 f6
    obtain ⟨⟨c0, c1, c2, c3, c4, c5, c6⟩, f0, f1, f2, f3, f4, f5, f6⟩ := D3.out.cells
    go_wp2
    rw [put7_eq]
    show bodyPost _ _ _ _ _ _
    obtain ⟨d4, a4⟩ := put7_is D3.out false 0 0 0 0 (.slice none 0 0) (.slice none 0 0)
    refine bodyPost_ret (res14 _ rfl d4) rfl ⟨?_, .inl ⟨by rw [hE]; exact HNE.out, by rw [hE]; rfl⟩⟩
    exact (A3.out.trans (X := fun _ => False) a4 (fun i hi e => by rw [HBX.out] at hi; omega)).belowF _ (Nat.le_refl _)
  · obtain ⟨a5, c5', rfl⟩ := ownsRow_slice o5
    obtain ⟨a6, c6', rfl⟩ := ownsRow_slice o6
    have HEQ := mkHid heq
    have A2 := mkHid (A1.out.trans (X := fun _ => False) p2 (fun i hi e => by rw [HBX.out] at hi; omega))
    have D2 := mkHid (D1.out.kept p2 (by omega))
    have hw1 : bx + 1 < w1.heap.size := R1.out.heap
    have O5 := mkHid o5
    have O6 := mkHid o6
    have R2 := mkHid r2
    obtain ⟨hp8, hp9⟩ := decP_le heq
    clear heq p2 o5 o6 r2
    obtain ⟨mk, HMK⟩ : ∃ mk : Bool, Hid (((gw s 8 1 : Int) == 1) = mk) := ⟨_, rfl⟩
    obtain ⟨ty, HTY⟩ : ∃ ty : Int, Hid ((gw s 9 7 : Int) = ty) := ⟨_, rfl⟩
    obtain ⟨sq, HSQ⟩ : ∃ sq : Int, Hid ((gw s 16 16 : Int) = sq) := ⟨_, rfl⟩
    obtain ⟨tm, HTM⟩ : ∃ tm : Int, Hid ((gw s 32 32 : Int) = tm) := ⟨_, rfl⟩
    obtain ⟨ss, HSS⟩ : ∃ ss : Int, Hid ((gw s 64 32 : Int) = ss) := ⟨_, rfl⟩
    obtain ⟨n5, HN5⟩ : ∃ n5, Hid (gv s 4 4 = n5) := ⟨_, rfl⟩
    obtain ⟨n6, HN6⟩ : ∃ n6, Hid ((decX s).length = n6) := ⟨_, rfl⟩
    rw [HMK.out, HTY.out, HSQ.out, HTM.out, HSS.out, HN5.out, HN6.out]
    rw [HN5.out] at O5
    rw [HN6.out] at O6
    obtain ⟨⟨c0, c1, c2, c3, c4, c5, c6⟩, f0, f1, f2, f3, f4, f5, f6⟩ := D2.out.cells
    go_upto_if 14 with fail
    rw [put7_eq]
    obtain ⟨d3, a3⟩ := put7_is D2.out mk ty sq tm ss (.slice a5 n5 c5') (.slice a6 n6 c6')
    have D3 := mkHid d3
    have A3 := mkHid (A2.out.trans (X := fun _ => False) a3 (fun i hi e => by rw [HBX.out] at hi; omega))
    have R3 := mkHid (R2.out.kept a3 (by omega))
    have Q5 := mkHid (ownsRow_apart O5.out a3 (by intro k hk e; omega))
    have Q6 := mkHid (ownsRow_apart O6.out a3 (by intro k hk e; omega))
    generalize put7 w2 bx mk ty sq tm ss (.slice a5 n5 c5') (.slice a6 n6 c6') = w3 at *
    clear d3 a3 c0 c1 c2 c3 c4 c5 c6 f0 f1 f2 f3 f4 f5 f6 D2 A2 R2 O5 O6
    obtain ⟨⟨c0, c1, c2, c3, c4, c5, c6⟩, f0, f1, f2, f3, f4, f5, f6⟩ := D3.out.cells
    have LF := mkHid (fun w' h => left_any (bx + 1) s hs (At s (decP s)) w' h)
    have hlf : gleft s (At s (decP s)) = 8 * s.size - decP s := by unfold At; rw [if_pos hp8]; rfl
    rw [hlf] at LF
    obtain ⟨q, HQ⟩ : ∃ q, Hid (decP s / 8 = q) := ⟨_, rfl⟩
    obtain ⟨lf, HLF⟩ : ∃ lf : Int, Hid ((8 * s.size - decP s : Int) = lf) := ⟨_, rfl⟩
    rw [HLF.out] at LF
    have hq0 : lf = 8 * (s.size - q) := by rw [← HLF.out, ← HQ.out]; omega
    have hq1 : q ≤ s.size := by rw [← HQ.out]; omega
    have hq2 : lf / 8 = s.size - q := by omega
    have HS := mkHid hs
    clear hlf hp8 hp9
    go_wp2_with fail
    go_region_held3 (fun w' => w'.cell? ⟨bx, 0, none⟩ = some (.bool mk) ∧ w'.cell? ⟨bx, 1, none⟩ = some (.int .i64 ty) ∧ w'.cell? ⟨bx, 2, none⟩ = some (.int .i64 sq) ∧ w'.cell? ⟨bx, 3, none⟩ = some (.int .u32 tm) ∧ w'.cell? ⟨bx, 4, none⟩ = some (.int .u32 ss) ∧ w'.cell? ⟨bx, 5, none⟩ = some (.slice a5 n5 c5') ∧ w'.cell? ⟨bx, 6, none⟩ = some (.slice a6 n6 c6'))
      (first | go_keep | (simp only [put7_eq]; exact hold7 (Hd.drewN D3.out _)))
      (first | (go_at_call 29; refine (LF.out _ (drew_rd 1 R3.out)).mono ?_; rintro e w4 ⟨rfl, nd, rfl⟩))
    go_wp2
    have e1 : IntKind.i64.wrap ((s.size : Int) - q) = s.size - q := by have := HS.out; rw [IntKind.wrap_i64]; omega
    have e2 : IntKind.i64.wrap ((s.size : Int) - (s.size - q)) = q := by have := HS.out; rw [IntKind.wrap_i64]; omega
    rw [e1, e2, put7_eq]
    show bodyPost _ _ _ _ _ _
    obtain ⟨d4, a4⟩ := put7_is (D3.out.drewN (1 + nd)) mk ty sq tm ss (.slice a5 n5 c5') (.slice a6 n6 c6')
    refine bodyPost_ret (res14 _ rfl d4) rfl ⟨?_, .inr ⟨HEQ.out, .slice a5 n5 c5', .slice a6 n6 c6', ?_, ?_, ?_⟩⟩
    · exact ((A3.out.drewN (1 + nd)).trans (X := fun _ => False) a4 (fun i hi e => by rw [HBX.out] at hi; omega)).belowF _ (Nat.le_refl _)
    · rw [HMK.out, HTY.out, HSQ.out, HTM.out, HSS.out, HQ.out]; rfl
    · rw [HN5.out]
      exact ownsRow_base (ownsRow_apart Q5.out (((Apart.refl (· = bx) w3).drewN (1 + nd)).trans a4 (fun _ _ h => h)) (by intro k hk e; omega)) (by rw [HBX.out]; omega)
    · rw [HN6.out]
      exact ownsRow_base (ownsRow_apart Q6.out (((Apart.refl (· = bx) w3).drewN (1 + nd)).trans a4 (fun _ _ h => h)) (by intro k hk e; omega)) (by rw [HBX.out]; omega)
end Go.Proofs.Ytdajcgicpfpeoaa
