/-
  A history in memory; what New, InFlight, Count, Next hand back.
-/
import Derived.Test.YtdojphkibgfomaaHiM
namespace Go.Proofs.Ytdojphkibgfomaa
open Go.RowKit Go.Maps

/-- A history in block hb, its map in block mb: its timeout, how many were sent, when the last one was, what is remembered. -/
structure Hs (w : World) (hb mb : Nat) (T nx la : Int) (L : List Sn) : Prop where
  box : w.heap[hb]? = some (.cells #[.int .i64 T, .int .i64 nx, .int .i64 la, .int .i64 (fl L), .map (some mb)] 71 (0, 0))
  map : Mp w mb L
theorem Hs.ne {w : World} {hb mb : Nat} {T nx la : Int} {L : List Sn} (h : Hs w hb mb T nx la L) : hb ≠ mb := by
  intro e
  obtain ⟨es, clock, hm, _⟩ := h.map
  have := h.box
  rw [e, hm] at this
  cases this
theorem Hs.kept {w w' : World} {hb mb : Nat} {T nx la : Int} {L : List Sn} {X : Nat → Prop} (h : Hs w hb mb T nx la L) (ha : Apart X w w') (h1 : ¬ X hb) (h2 : ¬ X mb) : Hs w' hb mb T nx la L :=
  ⟨ha.heap h.box h1, h.map.kept ha h2⟩
theorem Hs.lt {w : World} {hb mb : Nat} {T nx la : Int} {L : List Sn} (h : Hs w hb mb T nx la L) : hb < w.heap.size ∧ mb < w.heap.size := ⟨lt_of_heap h.box, h.map.lt⟩

def pV (b : Nat) : Value := .pointer (some ⟨b, 0, none⟩)
set_option maxHeartbeats 400000 in
theorem new_any (T : Int) (h1 : 1 ≤ T) (h2 : T ≤ 1125899906842624) (w : World) :
    Calls Try.prog 9 #[.int .i64 T] w fun e w' => (∃ hb mb, e = .returned (.tuple #[.pointer (some ⟨hb, 0, none⟩), .int .i64 0]) ∧ Hs w' hb mb T 0 0 [] ∧ w.heap.size ≤ hb ∧ w.heap.size ≤ mb) ∧ Apart (fun _ => False) w w' := by
  have M0 := mkHid (Mp.made w)
  have hmm := @run_makeMap Try.prog
  have A0 := mkHid (((Apart.refl (fun _ => False) w).alloc (.map #[] 0)))
  obtain ⟨mb, HMB⟩ : ∃ mb, Hid (w.heap.size = mb) := ⟨_, rfl⟩
  obtain ⟨W, HW⟩ : ∃ W, Hid (w.alloc (.map #[] 0) = W) := ⟨_, rfl⟩
  have HZ := mkHid (show W.heap.size = mb + 1 by rw [← HW.out, ← HMB.out]; simp)
  rw [HW.out] at M0 A0
  rw [HMB.out] at M0
  go_enter Try.func9, Try.ntmps9
  go_wp2
  rw [HW.out, HMB.out]
  go_ret2
  refine ⟨⟨_, mb, rfl, ⟨?_, ?_⟩, ?_, ?_⟩, ?_⟩
  · rw [← HZ.out]; exact heap_alloc_new _ _
  · exact M0.out.kept ((Apart.refl (fun _ => False) W).alloc _) (fun h => h)
  · omega
  · omega
  · exact A0.out.alloc _
theorem new_no (T : Int) (h : T < 1 ∨ 1125899906842624 < T) (w : World) :
    Calls Try.prog 9 #[.int .i64 T] w fun e w' => e = .returned (.tuple #[.pointer none, .int .i64 1]) ∧ w' = w := by
  rcases h with h | h
  · go_enter Try.func9, Try.ntmps9
    go_wp2
    go_ret2
    exact ⟨rfl, rfl⟩
  · have h2 : ¬ T < 1 := by omega
    go_enter Try.func9, Try.ntmps9
    go_wp2
    go_ret2
    exact ⟨rfl, rfl⟩
theorem flight_any {w : World} {hb mb : Nat} {T nx la : Int} {L : List Sn} (h : Hs w hb mb T nx la L) :
    Calls Try.prog 20 #[.pointer (some ⟨hb, 0, none⟩)] w fun e w' => e = .returned (.int .i64 (fl L)) ∧ w' = w := by
  obtain ⟨c0, c1, c2, c3, c4, -⟩ := cells5 h.box
  clear h
  go_enter Try.func20, Try.ntmps20
  go_wp2
  go_ret
  exact ⟨rfl, rfl⟩
theorem next_any {w : World} {hb mb : Nat} {T nx la : Int} {L : List Sn} (h : Hs w hb mb T nx la L) :
    Calls Try.prog 24 #[.pointer (some ⟨hb, 0, none⟩)] w fun e w' => e = .returned (.int .i64 nx) ∧ w' = w := by
  obtain ⟨c0, c1, c2, c3, c4, -⟩ := cells5 h.box
  clear h
  go_enter Try.func24, Try.ntmps24
  go_wp2
  go_ret
  exact ⟨rfl, rfl⟩
theorem count_any {w : World} {hb mb : Nat} {T nx la : Int} {L : List Sn} (h : Hs w hb mb T nx la L) :
    Calls Try.prog 22 #[.pointer (some ⟨hb, 0, none⟩)] w fun e w' => e = .returned (.int .i64 (L.length : Int)) ∧ w' = w := by
  obtain ⟨c0, c1, c2, c3, c4, -⟩ := cells5 h.box
  have hl := fun ty => h.map.len ty
  clear h
  go_enter Try.func22, Try.ntmps22
  go_wp2
  go_ret
  exact ⟨rfl, rfl⟩
theorem flight_nil (w : World) : Calls Try.prog 20 #[.pointer none] w fun e w' => e = .returned (.int .i64 0) ∧ w' = w := by
  go_enter Try.func20, Try.ntmps20
  go_wp2
  go_ret
  exact ⟨rfl, rfl⟩
theorem next_nil (w : World) : Calls Try.prog 24 #[.pointer none] w fun e w' => e = .returned (.int .i64 0) ∧ w' = w := by
  go_enter Try.func24, Try.ntmps24
  go_wp2
  go_ret
  exact ⟨rfl, rfl⟩
theorem count_nil (w : World) : Calls Try.prog 22 #[.pointer none] w fun e w' => e = .returned (.int .i64 0) ∧ w' = w := by
  go_enter Try.func22, Try.ntmps22
  go_wp2
  go_ret
  exact ⟨rfl, rfl⟩
theorem hear_nil (v : Value) (now : Int) (w : World) : Calls Try.prog 13 #[.pointer none, v, .int .i64 now] w fun e w' => e = .returned (.tuple #[.slice none 0 0, .slice none 0 0]) ∧ w' = w := by
  go_enter Try.func13, Try.ntmps13
  go_wp2
  go_ret2
  exact ⟨rfl, rfl⟩
theorem expire_nil (now : Int) (w : World) : Calls Try.prog 18 #[.pointer none, .int .i64 now] w fun e w' => e = .returned (.slice none 0 0) ∧ w' = w := by
  go_enter Try.func18, Try.ntmps18
  go_wp2
  go_ret
  exact ⟨rfl, rfl⟩
/-- Why a packet can't be remembered. -/
def sndE (la : Int) (n : Nat) (z t : Int) : Int := if z < 0 ∨ 1500 < z ∨ t < 0 ∨ 1125899906842624 < t then 1 else if t < la then 130 else if 1024 ≤ n then 250 else 0
theorem senderr_nil (z t : Int) (w : World) : Calls Try.prog 28 #[.pointer none, .int .i64 z, .int .i64 t] w fun e w' => e = .returned (.int .i64 1) ∧ w' = w := by
  go_enter Try.func28, Try.ntmps28
  go_wp2
  go_ret
  exact ⟨rfl, rfl⟩
theorem senderr_any {w : World} {hb mb : Nat} {T nx la : Int} {L : List Sn} (h : Hs w hb mb T nx la L) (z t : Int) (hl : L.length ≤ 1024) :
    Calls Try.prog 28 #[.pointer (some ⟨hb, 0, none⟩), .int .i64 z, .int .i64 t] w fun e w' => e = .returned (.int .i64 (sndE la L.length z t)) ∧ w' = w := by
  obtain ⟨c0, c1, c2, c3, c4, -⟩ := cells5 h.box
  have hlen := fun ty => h.map.len ty
  clear h
  obtain ⟨n, HN⟩ : ∃ n, Hid (L.length = n) := ⟨_, rfl⟩
  rw [HN.out] at hlen hl ⊢
  have hl' : (n : Int) ≤ 1024 := by omega
  clear hl
  have HE : Hid (∀ x : Int, x = sndE la n z t → Ending.returned (.int .i64 x) = .returned (.int .i64 (sndE la n z t))) := fun x e => by rw [e]
  go_each [z < 0, 1500 < z, t < 0, 1125899906842624 < t, t < la, 1024 ≤ (n : Int)] => (
    go_enter Try.func28, Try.ntmps28
    go_wp2
    go_ret
    exact ⟨HE.out _ (by unfold sndE; repeat' split <;> omega), rfl⟩)
end Go.Proofs.Ytdojphkibgfomaa
