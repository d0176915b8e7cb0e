/-
  What wakes hands back; a list of reports that the call itself lays.
-/
import Derived.Test.YtdojphkibgfomaaHiI
namespace Go.Proofs.Ytdojphkibgfomaa
open Go.RowKit Go.Maps

theorem send_fit {w : World} {hb mb : Nat} {T nx la : Int} {L : List Sn} (h : Hs w hb mb T nx la L) (ok : Ok nx la L) (z t x : Int) (hx : sndE la L.length z t = 0) (n1 : nx ≤ 1000000000000000) (hy : nx % 65536 = x) :
    Calls Try.prog 11 #[.pointer (some ⟨hb, 0, none⟩), .int .i64 z, .int .i64 t] w fun e w' => e = .returned (.tuple #[.int .i64 x, .int .i64 0]) ∧ Hs w' hb mb T (nx + 1) t (L ++ [(nx, z, t)]) ∧ Apart (fun k => k = hb ∨ k = mb) w w' := by
  have := send_ok h ok z t hx n1
  rw [hy] at this
  exact this
/-- Two reports, or one, that the call has laid. -/
theorem ra_one (w : World) (hb mb : Nat) (r : Rp) (t : TypeId) (h1 : hb < w.heap.size) (h2 : mb < w.heap.size) : RA (fun b => b < (w.alloc (.cells #[.int .i64 r.q, .bool r.g, .int .i64 r.t, .bool r.la, .bool r.ec] t)).heap.size ∧ b ≠ hb ∧ b ≠ mb) (w.alloc (.cells #[.int .i64 r.q, .bool r.g, .int .i64 r.t, .bool r.la, .bool r.ec] t)) (some ⟨w.heap.size, 0, none⟩) [r] := by
  refine .inr ⟨w.heap.size, 0, rfl, ⟨by simp, by omega, by omega⟩, fun i p hi => ?_⟩
  have c := cells6 (heap_alloc_new w (.cells #[.int .i64 r.q, .bool r.g, .int .i64 r.t, .bool r.la, .bool r.ec] t))
  match i, hi with
  | 0, hi =>
    cases hi
    exact c
theorem below_of {hb mb B : Nat} {w w' : World} (h : Apart (fun k => k = hb ∨ k = mb) w w') (hB : B ≤ w.heap.size) (h1 : B ≤ hb) (h2 : B ≤ mb) : Below B w w' := h.below B hB (fun k e => by rcases e with e | e <;> omega)
set_option maxRecDepth 100000 in
set_option maxHeartbeats 2000000 in
theorem wakes_any (w : World) : Calls Try.prog 26 #[] w fun e w' => e = .returned (.bool true) ∧ Below w.heap.size w w' := by
  have N := mkHid (new_any 1000 (by omega) (by omega) w)
  go_enter Try.func26, Try.ntmps26
  go_wp2_with fail
  refine N.out.mono ?_
  rintro e w1 ⟨⟨hb, mb, rfl, h1, hb0, mb0⟩, a1⟩
  have S := mkHid (send_fit h1 (Ok.nil (by omega) (by omega) (by omega)) 100 5 0 (by decide) (by omega) rfl)
  have A1 := mkHid a1
  clear a1 h1
  go_wp2_with fail
  refine S.out.mono ?_
  rintro e w2 ⟨rfl, h2, a2⟩
  have hlt := h2.lt
  have A2 := mkHid ((A1.out.mono (Y := fun k => k = hb ∨ k = mb) (fun _ _ h => h.elim)).trans a2 (fun _ _ h => h))
  have A3 := mkHid (A2.out.alloc (.cells #[.int .i64 0, .bool false, .int .i64 0, .bool false, .bool false] 62))
  have H3 := mkHid (h2.kept ((Apart.refl (fun _ => False) w2).alloc (.cells #[.int .i64 0, .bool false, .int .i64 0, .bool false, .bool false] 62)) (fun h => h) (fun h => h))
  have R3 := mkHid (ra_one w2 hb mb ⟨0, false, 0, false, false⟩ 62 hlt.1 hlt.2)
  have O3 := mkHid (show Ok (0 + 1) 5 ([] ++ [(0, 100, 5)]) from (Ok.nil (nx := 0) (la := 0) (by omega) (by omega) (by omega)).send 100 5 (by omega) (by omega) (by omega) (by omega) (by simp))
  have HE := mkHid (hear_any H3.out O3.out (by omega) _ 1 [⟨0, false, 0, false, false⟩] 9 R3.out (by simp))
  clear a2 h2
  go_wp2_with fail
  refine HE.out.mono ?_
  rintro e w4 ⟨vg, vl, rfl, h4⟩
  have e1 : hrG (0 + 1) ([] ++ [(0, 100, 5)]) [⟨0, false, 0, false, false⟩] = [] := rfl
  have e2 : hrL (0 + 1) ([] ++ [(0, 100, 5)]) [⟨0, false, 0, false, false⟩] = [(0, 100, 5)] := rfl
  have e3 : hrR (0 + 1) ([] ++ [(0, 100, 5)]) [⟨0, false, 0, false, false⟩] = [] := rfl
  rw [e1, e2, e3] at h4
  obtain ⟨g1, k1, hg⟩ := ownsRow_slice h4.og
  obtain ⟨g2, k2, hl⟩ := ownsRow_slice h4.ol
  subst hg hl
  have FL := mkHid (flight_any h4.hs)
  have NX := mkHid (next_any h4.hs)
  have A4 := mkHid (below_of (A3.out.trans h4.ap (fun _ _ h => h)) (Nat.le_refl _) hb0 mb0)
  clear h4 e1 e2 e3
  go_wp2_with (first
    | (go_at_call 20; refine FL.out.mono ?_; rintro e w5 ⟨rfl, rfl⟩)
    | (go_at_call 24; refine NX.out.mono ?_; rintro e w6 ⟨rfl, rfl⟩))
  go_ret
  exact ⟨rfl, A4.out⟩
end Go.Proofs.Ytdojphkibgfomaa
