/-
  What find hands back; what forget leaves.
-/
import Derived.Test.YtdojphkibgfomaaHiC
namespace Go.Proofs.Ytdojphkibgfomaa
open Go.RowKit Go.Maps

/-- The number that a report means. -/
def nr (nx q : Int) : Int := nV 32768 (nx - 1) q
theorem nr_bd (nx q : Int) (h0 : 0 ≤ nx) (h1 : nx ≤ 1000000000000000) : -100000 ≤ nr nx q ∧ nr nx q ≤ 1000000000100000 := by
  unfold nr nV
  have := Int.emod_nonneg (q - (nx - 1)) (show (2 * 32768 : Int) ≠ 0 by omega)
  have := Int.emod_lt_of_pos (q - (nx - 1)) (show (0 : Int) < 2 * 32768 by omega)
  split <;> omega
theorem near_nr (nx q : Int) (h0 : 0 ≤ nx) (h1 : nx ≤ 1000000000000000) (w : World) :
    Calls Try.prog 42 #[.int .i64 (nx - 1), .int .i64 q, .int .i64 16] w fun e w' => e = .returned (.int .i64 (nr nx q)) ∧ w' = w := by
  have h := near_any (nx - 1) q 16 (by omega) (by omega) w
  have e : clV (nx - 1) = nx - 1 := by unfold clV; repeat' split <;> omega
  rw [e, show hf 16 = 32768 from by decide] at h
  exact h
/-- A packet in a box. -/
def Bs (w : World) (b : Nat) (s : Sn) : Prop := w.heap[b]? = some (.cells #[.int .i64 s.1, .int .i64 s.2.1, .int .i64 s.2.2] 56 (0, 0))
theorem res31 {W : World} {b : Nat} {s : Sn} (tmps : Array Value) (h2 : tmps.getD 4 undef = .pointer (some ⟨b, 0, none⟩)) (hd : Bs W b s) :
    (results Try.f31 tmps).run Try.prog W = .ok (.tuple #[sV s, tmps.getD 5 undef]) W := by
  obtain ⟨c0, c1, c2, -⟩ := cells3 hd
  clear hd
  have h2' : tmps[4]?.getD undef = .pointer (some ⟨b, 0, none⟩) := by rw [← h2]; simp
  simp [results, Try.results31, h2', c0, c1, c2, go_sem, sV]
theorem Bs.kept {w w' : World} {b : Nat} {s : Sn} {X : Nat → Prop} (h : Bs w b s) (ha : Apart X w w') (hx : ¬ X b) : Bs w' b s := ha.heap h hx
theorem Bs.store {w : World} {r : Nat} {s : Sn} (h : Bs w r s) (a b c : Int) : Bs (((w.setCell ⟨r, 0, none⟩ (.int .i64 a)).setCell ⟨r, 1, none⟩ (.int .i64 b)).setCell ⟨r, 2, none⟩ (.int .i64 c)) r (a, b, c) ∧
    Apart (· = r) w (((w.setCell ⟨r, 0, none⟩ (.int .i64 a)).setCell ⟨r, 1, none⟩ (.int .i64 b)).setCell ⟨r, 2, none⟩ (.int .i64 c)) := by
  have x1 := heap_setCell_same w r 0 _ 56 (.int .i64 a) h
  have x2 := heap_setCell_same _ r 1 _ 56 (.int .i64 b) x1
  have x3 := heap_setCell_same _ r 2 _ 56 (.int .i64 c) x2
  exact ⟨x3, ((ap_set w r 0 _).trans (ap_set _ r 1 _) (fun _ _ e => e)).trans (ap_set _ r 2 _) (fun _ _ e => e)⟩
set_option maxRecDepth 100000 in
set_option maxHeartbeats 2000000 in
theorem find_at {w : World} {hb mb : Nat} {T nx la : Int} {L : List Sn} (h : Hs w hb mb T nx la L) (h0 : 0 ≤ nx) (h1 : nx ≤ 1000000000000000) (q : Int) (a b c : Int) (f : Bool)
    (hl : ∀ W, Mp W mb L → (Instr.lookup 69 (.map (some mb)) (.int .i64 (nr nx q)) true).run Try.prog W = .ok (.tuple #[.agg #[.int .i64 a, .int .i64 b, .int .i64 c], .bool f]) W) :
    Calls Try.prog 31 #[.pointer (some ⟨hb, 0, none⟩), .int .i64 q] w fun e w' => e = .returned (.tuple #[sV (a, b, c), .bool f]) ∧ Apart (fun _ => False) w w' := by
  obtain ⟨hlb, hlm⟩ := h.lt
  have NR := mkHid (near_nr nx q h0 h1)
  have HL := mkHid hl
  clear hl
  have hw1 : IntKind.i64.wrap (nx - 1) = nx - 1 := by rw [IntKind.wrap_i64]; omega
  obtain ⟨x, HX⟩ : ∃ x, Hid (nr nx q = x) := ⟨_, rfl⟩
  rw [HX.out] at NR HL
  have A1 := mkHid ((Apart.refl (fun _ => False) w).alloc (.cells #[.int .i64 0, .int .i64 0, .int .i64 0] 56))
  have B1 := mkHid (h.kept A1.out (fun h => h) (fun h => h))
  have N1 := mkHid (heap_alloc_new w (.cells #[.int .i64 0, .int .i64 0, .int .i64 0] 56))
  obtain ⟨rb, HRB⟩ : ∃ b, Hid (w.heap.size = b) := ⟨_, rfl⟩
  obtain ⟨W, HW⟩ : ∃ W, Hid (w.alloc (.cells #[.int .i64 0, .int .i64 0, .int .i64 0] 56) = W) := ⟨_, rfl⟩
  have HZ := mkHid (show W.heap.size = rb + 1 by rw [← HW.out, ← HRB.out]; simp)
  rw [HW.out] at A1 B1 N1
  rw [HRB.out] at N1 hlb hlm
  have B2 := mkHid (B1.out.kept (Apart.refl (fun _ => False) W).drew (fun h => h) (fun h => h))
  have B3 := mkHid (B1.out.kept ((Apart.refl (fun _ => False) W).alloc (.cells #[.int .i64 0, .int .i64 0, .int .i64 0] 56)).drew (fun h => h) (fun h => h))
  have A5 := mkHid (A1.out.alloc (.cells #[.int .i64 a, .int .i64 b, .int .i64 c] 56)).drew
  have R5 := mkHid (show Bs (W.alloc (.cells #[.int .i64 a, .int .i64 b, .int .i64 c] 56)).drew rb (0, 0, 0) from (show Bs W rb (0, 0, 0) from N1.out).kept ((Apart.refl (fun _ => False) W).alloc _).drew (fun h => h))
  have S5 := mkHid (show Bs (W.alloc (.cells #[.int .i64 a, .int .i64 b, .int .i64 c] 56)).drew (rb + 1) (a, b, c) by rw [← HZ.out]; exact heap_alloc_new _ _)
  obtain ⟨W5, HW5⟩ : ∃ W5, Hid ((W.alloc (.cells #[.int .i64 a, .int .i64 b, .int .i64 c] 56)).drew = W5) := ⟨_, rfl⟩
  rw [HW5.out] at A5 R5 S5
  obtain ⟨c0, c1, c2, c3, c4, -⟩ := cells5 B1.out.box
  have l1 := HL.out _ B2.out.map
  have l2 := HL.out _ B3.out.map
  have k1 := (cells5 B3.out.box).2.1
  have k4 := (cells5 B3.out.box).2.2.2.2.1
  clear h
  go_enter Try.func31, Try.ntmps31
  go_upto_region 1 with fail
  rw [HW.out, HRB.out]
  go_region_held3 (fun w' => w'.cell? ⟨hb, 4, none⟩ = some (.map (some mb)) ∧ w'.cell? ⟨hb, 1, none⟩ = some (.int .i64 nx)) (go_keep) (first | (go_at_call 42; refine (NR.out _).mono ?_; rintro e w2 ⟨rfl, rfl⟩))
  all_goals
    clear c0 c1 c2 c3 c4 l1 l2 k1 k4
    rw [HW5.out, HZ.out]
    obtain ⟨d0, d1, d2, f0, f1, f2⟩ := cells3 R5.out
    obtain ⟨e0, e1, e2, -⟩ := cells3 S5.out
    have hne : rb ≠ rb + 1 := by omega
    go_wp2
    obtain ⟨E1, E2⟩ := R5.out.store a b c
    refine bodyPost_ret (res31 _ rfl E1) rfl ⟨rfl, A5.out.trans E2 (fun i hi e => by rw [HRB.out] at hi; omega)⟩
/-- What a report means, if that is remembered. -/
def fd (nx : Int) (L : List Sn) (q : Int) : Option Sn := L.find? fun u => u.1 == nr nx q
theorem find_hit {w : World} {hb mb : Nat} {T nx la : Int} {L : List Sn} (h : Hs w hb mb T nx la L) (hr : Rise L) (h0 : 0 ≤ nx) (h1 : nx ≤ 1000000000000000) (q : Int) (s : Sn) (hs : fd nx L q = some s) :
    Calls Try.prog 31 #[.pointer (some ⟨hb, 0, none⟩), .int .i64 q] w fun e w' => e = .returned (.tuple #[sV s, .bool true]) ∧ Apart (fun _ => False) w w' := by
  have hb := nr_bd nx q h0 h1
  exact find_at h h0 h1 q s.1 s.2.1 s.2.2 true (fun W hW => hW.hit hr _ (by omega) (by omega) s hs)
theorem find_miss {w : World} {hb mb : Nat} {T nx la : Int} {L : List Sn} (h : Hs w hb mb T nx la L) (h0 : 0 ≤ nx) (h1 : nx ≤ 1000000000000000) (q : Int) (hs : fd nx L q = none) :
    Calls Try.prog 31 #[.pointer (some ⟨hb, 0, none⟩), .int .i64 q] w fun e w' => e = .returned (.tuple #[sV (0, 0, 0), .bool false]) ∧ Apart (fun _ => False) w w' := by
  have hb := nr_bd nx q h0 h1
  exact find_at h h0 h1 q 0 0 0 false (fun W hW => hW.miss _ (by omega) (by omega) hs)
/-- Behind forget's store. -/
theorem stored1 {w : World} {hb mb : Nat} {v0 v1 v2 v3 : Value} {L : List Sn} (X : w.heap[hb]? = some (.cells #[v0, v1, v2, v3, .map (some mb)] 71 (0, 0))) (M : Mp w mb L) (hne : hb ≠ mb) (T nx t f : Int) (hf : f = fl L) (h0 : v0 = .int .i64 T := by rfl) (h1 : v1 = .int .i64 nx := by rfl) (h2 : v2 = .int .i64 t := by rfl) :
    Hs (w.setCell ⟨hb, 3, none⟩ (.int .i64 f)) hb mb T nx t L := by
  subst h0 h1 h2 hf
  have x1 := heap_setCell_same w hb 3 _ 71 (.int .i64 (fl L)) X
  exact ⟨x1, M.kept (ap_set w hb 3 _) (fun e => hne e.symm)⟩
set_option maxRecDepth 100000 in
set_option maxHeartbeats 2000000 in
theorem forget_any {w : World} {hb mb : Nat} {T nx la : Int} {L : List Sn} (h : Hs w hb mb T nx la L) (ok : Ok nx la L) (s : Sn) (hs : s ∈ L) (h1 : nx ≤ 1000000000000000) :
    Calls Try.prog 32 #[.pointer (some ⟨hb, 0, none⟩), .agg #[.int .i64 s.1, .int .i64 s.2.1, .int .i64 s.2.2]] w fun e w' => e = .returned (.tuple #[]) ∧ Hs w' hb mb T nx la (L.filter fun u => u.1 != s.1) ∧ Apart (fun k => k = hb ∨ k = mb) w w' := by
  obtain ⟨hlb, hlm⟩ := h.lt
  have hne := h.ne
  have hfl := ok.fl
  have hsn := ok.num s hs
  have hsz := ok.siz s hs
  have hfd := fl_drop ok.rise hs
  have hfl2 := (ok.filter (fun u => u.1 != s.1)).fl
  have FD := mkHid hfd
  have A1 := mkHid ((Apart.refl (fun _ => False) w).alloc (.cells #[.int .i64 s.1, .int .i64 s.2.1, .int .i64 s.2.2] 56))
  have B1 := mkHid (h.kept A1.out (fun h => h) (fun h => h))
  have S1 := mkHid (show Bs (w.alloc (.cells #[.int .i64 s.1, .int .i64 s.2.1, .int .i64 s.2.2] 56)) w.heap.size s from heap_alloc_new _ _)
  obtain ⟨sb, HSB⟩ : ∃ b, Hid (w.heap.size = b) := ⟨_, rfl⟩
  obtain ⟨W, HW⟩ : ∃ W, Hid (w.alloc (.cells #[.int .i64 s.1, .int .i64 s.2.1, .int .i64 s.2.2] 56) = W) := ⟨_, rfl⟩
  rw [HW.out] at A1 B1 S1
  have B2 := mkHid (B1.out.kept (Apart.refl (fun _ => False) W).drew (fun h => h) (fun h => h))
  have S2 := mkHid (S1.out.kept (Apart.refl (fun _ => False) W).drew (fun h => h))
  obtain ⟨w2, hrun, M2, A3⟩ := B2.out.map.drop s.1 (by omega) (by omega) 0
  rw [HSB.out] at S1 S2 hlb hlm
  have BX2 := mkHid (A3.heap B2.out.box (by intro e; exact hne e))
  have SX2 := mkHid (S2.out.kept A3 (by intro e; omega))
  obtain ⟨g, HG⟩ : ∃ g, Hid (fl (L.filter fun u => u.1 != s.1) = g) := ⟨_, rfl⟩
  rw [HG.out] at hfd hfl2
  obtain ⟨n, z, t⟩ := s
  simp only at hrun M2 hfd hsn hsz HW HG ⊢
  have HM2 := mkHid M2
  have HA3 := mkHid A3
  clear M2 A3 h
  obtain ⟨c0, c1, c2, c3, c4, -⟩ := cells5 B1.out.box
  obtain ⟨d0, d1, d2, -⟩ := cells3 S1.out
  obtain ⟨k0, k1, k2, k3, k4, e0, e1, e2, e3, e4⟩ := cells5 BX2.out
  obtain ⟨j0, j1, j2, -⟩ := cells3 SX2.out
  simp only at d0 d1 d2 j0 j1 j2
  have hw : IntKind.i64.wrap (fl L - z) = g := by rw [IntKind.wrap_i64]; omega
  obtain ⟨f, HE1⟩ : ∃ f, Hid (fl L = f) := ⟨_, rfl⟩
  rw [HE1.out] at c3 k3 hw
  have hsb : hb ≠ sb := by omega
  go_enter Try.func32, Try.ntmps32
  go_upto_region 1 with fail
  rw [HW.out, HSB.out]
  go_region_held3 (fun w' => w'.cell? ⟨hb, 4, none⟩ = some (.map (some mb)) ∧ w'.cell? ⟨sb, 0, none⟩ = some (.int .i64 n)) (go_keep) (fail)
  clear hrun c0 c1 c2 c3 c4 d0 d1 d2
  go_upto_region 2 with fail
  go_region
  have E := stored1 BX2.out HM2.out hne T nx la (fl L - z) FD.out.symm
  have AE : Apart (· = hb) w2 (w2.setCell ⟨hb, 3, none⟩ (.int .i64 (fl L - z))).drew := (ap_set w2 hb 3 _).drew
  go_end0
  refine ⟨rfl, E.kept (Apart.refl (fun _ => False) _).drew (fun h => h) (fun h => h), (((A1.out.drew).mono (Y := fun k => k = hb ∨ k = mb) (fun _ _ h => h.elim)).trans HA3.out ?_).trans AE ?_⟩
  · exact fun i hi e => .inr e
  · exact fun i hi e => .inl e
end Go.Proofs.Ytdojphkibgfomaa
