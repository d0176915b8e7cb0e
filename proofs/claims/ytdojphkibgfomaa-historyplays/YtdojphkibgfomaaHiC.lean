/-
  What Send hands back, and what is remembered then.
-/
import Derived.Test.YtdojphkibgfomaaHiB
namespace Go.Proofs.Ytdojphkibgfomaa
open Go.RowKit Go.Maps

theorem send_nil (z t : Int) (w : World) : Calls Try.prog 11 #[.pointer none, .int .i64 z, .int .i64 t] w fun e w' => e = .returned (.tuple #[.int .i64 0, .int .i64 1]) ∧ w' = w := by
  have S := mkHid (senderr_nil z t)
  go_enter Try.func11, Try.ntmps11
  go_wp2_with fail
  refine (S.out _).mono ?_
  rintro e w1 ⟨rfl, rfl⟩
  go_wp2
  go_ret2
  exact ⟨rfl, rfl⟩
theorem send_no {w : World} {hb mb : Nat} {T nx la : Int} {L : List Sn} (h : Hs w hb mb T nx la L) (z t : Int) (hl : L.length ≤ 1024) (x : Int) (hx : sndE la L.length z t = x) (h0 : ¬ x = 0) :
    Calls Try.prog 11 #[.pointer (some ⟨hb, 0, none⟩), .int .i64 z, .int .i64 t] w fun e w' => e = .returned (.tuple #[.int .i64 0, .int .i64 x]) ∧ w' = w := by
  have S := mkHid (senderr_any h z t hl)
  rw [hx] at S
  clear h
  go_enter Try.func11, Try.ntmps11
  go_wp2_with fail
  refine S.out.mono ?_
  rintro e w1 ⟨rfl, rfl⟩
  go_wp2
  go_ret2
  exact ⟨rfl, rfl⟩
/-- Behind Send's three stores. -/
theorem stored {w : World} {hb mb : Nat} {v0 v1 v2 v3 : Value} {L : List Sn} (X : w.heap[hb]? = some (.cells #[v0, v1, v2, v3, .map (some mb)] 71 (0, 0))) (M : Mp w mb L) (hne : hb ≠ mb) (T nx t f : Int) (hf : f = fl L) (h0 : v0 = .int .i64 T := by rfl) :
    Hs (((w.setCell ⟨hb, 3, none⟩ (.int .i64 f)).setCell ⟨hb, 2, none⟩ (.int .i64 t)).setCell ⟨hb, 1, none⟩ (.int .i64 nx)) hb mb T nx t L ∧
      Apart (· = hb) w (((w.setCell ⟨hb, 3, none⟩ (.int .i64 f)).setCell ⟨hb, 2, none⟩ (.int .i64 t)).setCell ⟨hb, 1, none⟩ (.int .i64 nx)) := by
  subst h0 hf
  have x1 := heap_setCell_same w hb 3 _ 71 (.int .i64 (fl L)) X
  have x2 := heap_setCell_same _ hb 2 _ 71 (.int .i64 t) x1
  have x3 := heap_setCell_same _ hb 1 _ 71 (.int .i64 nx) x2
  have A : Apart (· = hb) w (((w.setCell ⟨hb, 3, none⟩ (.int .i64 (fl L))).setCell ⟨hb, 2, none⟩ (.int .i64 t)).setCell ⟨hb, 1, none⟩ (.int .i64 nx)) :=
    ((ap_set w hb 3 _).trans (ap_set _ hb 2 _) (fun _ _ e => e)).trans (ap_set _ hb 1 _) (fun _ _ e => e)
  exact ⟨⟨x3, M.kept A (fun e => hne e.symm)⟩, A⟩
set_option maxRecDepth 100000 in
set_option maxHeartbeats 1000000 in
theorem send_ok {w : World} {hb mb : Nat} {T nx la : Int} {L : List Sn} (h : Hs w hb mb T nx la L) (ok : Ok nx la L) (z t : Int) (hx : sndE la L.length z t = 0) (n1 : nx ≤ 1000000000000000) :
    Calls Try.prog 11 #[.pointer (some ⟨hb, 0, none⟩), .int .i64 z, .int .i64 t] w fun e w' => e = .returned (.tuple #[.int .i64 (nx % 65536), .int .i64 0]) ∧ Hs w' hb mb T (nx + 1) t (L ++ [(nx, z, t)]) ∧ Apart (fun k => k = hb ∨ k = mb) w w' := by
  have S := mkHid (senderr_any h z t ok.len)
  rw [hx] at S
  have hz : 0 ≤ z ∧ z ≤ 1500 ∧ L.length < 1024 := by unfold sndE at hx; repeat' split at hx <;> omega
  obtain ⟨z0, z1, hl⟩ := hz
  have hfl := ok.fl
  have hn := ok.nx0
  obtain ⟨hlb, hlm⟩ := h.lt
  have hne := h.ne
  have C := mkHid (crop_any nx 16 (by omega) (by omega))
  rw [show 2 * hf 16 = 65536 from by decide] at C
  have A1 := mkHid ((Apart.refl (fun _ => False) w).alloc (.cells #[.int .i64 nx, .int .i64 z, .int .i64 t] 56))
  have B1 := mkHid (h.kept A1.out (fun h => h) (fun h => h))
  have N1 := mkHid (heap_alloc_new w (.cells #[.int .i64 nx, .int .i64 z, .int .i64 t] 56))
  obtain ⟨sb, HSB⟩ : ∃ b, Hid (w.heap.size = b) := ⟨_, rfl⟩
  obtain ⟨W, HW⟩ : ∃ W, Hid (w.alloc (.cells #[.int .i64 nx, .int .i64 z, .int .i64 t] 56) = W) := ⟨_, rfl⟩
  rw [HW.out] at A1 B1 N1
  rw [HSB.out] at N1 hlb hlm
  have A2 := mkHid (A1.out.drew)
  have B2 := mkHid (h.kept A1.out.drew (fun h => h) (fun h => h))
  obtain ⟨c0, c1, c2, c3, c4, -⟩ := cells5 h.box
  go_enter Try.func11, Try.ntmps11
  go_wp2_with fail
  refine S.out.mono ?_
  rintro e w1 ⟨rfl, rfl⟩
  go_upto_region 5 with fail
  rw [HW.out, HSB.out]
  clear c0 c1 c2 c3 c4
  obtain ⟨c0, c1, c2, c3, c4, -⟩ := cells5 B1.out.box
  obtain ⟨d0, d1, d2, -⟩ := cells3 N1.out
  obtain ⟨w2, hrun, M2, A3⟩ := B2.out.map.store (nx, z, t) hn (by show nx ≤ _; omega) (fun u hu => (ok.num u hu).2) (by omega)
  have hrun : Sem.run Try.prog (Instr.mapUpdate 69 (.map (some mb)) (.int .i64 nx) (.agg #[.int .i64 nx, .int .i64 z, .int .i64 t])) W.drew = .ok () w2 := hrun
  have HM2 := mkHid M2
  have HA3 := mkHid A3
  have X2 := mkHid (A3.heap B2.out.box (by intro e; exact hne e))
  have N2 := mkHid (A3.heap (show W.drew.heap[sb]? = _ from N1.out) (by intro e; omega))
  clear M2 A3
  obtain ⟨k0, k1, k2, k3, k4, e0, e1, e2, e3, e4⟩ := cells5 X2.out
  obtain ⟨j0, j1, j2, -⟩ := cells3 N2.out
  go_region_held3 (fun w' => w'.cell? ⟨hb, 4, none⟩ = some (.map (some mb)) ∧ w'.cell? ⟨sb, 0, none⟩ = some (.int .i64 nx) ∧ w'.cell? ⟨sb, 1, none⟩ = some (.int .i64 z) ∧ w'.cell? ⟨sb, 2, none⟩ = some (.int .i64 t)) (go_keep) (fail)
  clear hrun c0 c1 c2 c3 c4 d0 d1 d2
  have hsb : hb ≠ sb := by omega
  go_wp2_with fail
  refine (C.out _).mono ?_
  rintro e w3 ⟨rfl, rfl⟩
  have E := stored X2.out HM2.out hne T (nx + 1) t (fl L + z) (fl_end L (nx, z, t)).symm
  go_wp2
  go_ret2
  refine ⟨rfl, E.1, ((A2.out.mono (Y := fun k => k = hb ∨ k = mb) (fun _ _ h => h.elim)).trans HA3.out ?_).trans E.2 ?_⟩
  · exact fun i hi e => .inr e
  · exact fun i hi e => .inl e
end Go.Proofs.Ytdojphkibgfomaa
