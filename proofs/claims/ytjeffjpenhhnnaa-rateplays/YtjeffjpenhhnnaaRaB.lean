/-
  The meter in memory; what its small functions hand back.
-/
import Derived.Test.YtjeffjpenhhnnaaRaQ
import Derived.Test.YtjeffjpenhhnnaaSatWalks
import Derived.Test.YtjeffjpenhhnnaaUnA
import Derived.Deep.RegionHeld3
namespace Go.Proofs.Ytjeffjpenhhnnaa
open Go.RowKit

def Bx (w : World) (b : Nat) (win ear en : Int) (qv : Value) (gone byt fa pk : Int) : Prop :=
  w.heap[b]? = some (.cells #[.int .i64 win, .int .i64 ear, .int .i64 en, qv, .int .i64 gone, .int .i64 byt, .int .u64 fa, .int .i64 pk] 50 (0, 0))
theorem cells8 {w : World} {b : Nat} {v0 v1 v2 v3 v4 v5 v6 v7 : Value} {T : TypeId} (h : w.heap[b]? = some (.cells #[v0, v1, v2, v3, v4, v5, v6, v7] T (0, 0))) :
    w.cell? ⟨b, 0, none⟩ = some v0 ∧ w.cell? ⟨b, 1, none⟩ = some v1 ∧ w.cell? ⟨b, 2, none⟩ = some v2 ∧ w.cell? ⟨b, 3, none⟩ = some v3 ∧ w.cell? ⟨b, 4, none⟩ = some v4 ∧ w.cell? ⟨b, 5, none⟩ = some v5 ∧ w.cell? ⟨b, 6, none⟩ = some v6 ∧ w.cell? ⟨b, 7, none⟩ = some v7 ∧
    (∀ j, w.frozen? ⟨b, j, none⟩ = false) :=
  ⟨cell_of_row w b 0 _ T _ h, cell_of_row w b 1 _ T _ h, cell_of_row w b 2 _ T _ h, cell_of_row w b 3 _ T _ h, cell_of_row w b 4 _ T _ h, cell_of_row w b 5 _ T _ h, cell_of_row w b 6 _ T _ h, cell_of_row w b 7 _ T _ h, fun j => frozen_of h j⟩
theorem Bx.kept {w w' : World} {b : Nat} {win ear en : Int} {qv : Value} {gone byt fa pk : Int} {X : Nat → Prop} (h : Bx w b win ear en qv gone byt fa pk) (ha : Apart X w w') (hx : ¬ X b) : Bx w' b win ear en qv gone byt fa pk := ha.heap h hx
theorem Bx.lt {w : World} {b : Nat} {win ear en : Int} {qv : Value} {gone byt fa pk : Int} (h : Bx w b win ear en qv gone byt fa pk) : b < w.heap.size := lt_of_heap h

theorem Bx.set_ear {w : World} {b : Nat} {win ear en : Int} {qv : Value} {gone byt fa pk : Int} (h : Bx w b win ear en qv gone byt fa pk) (x : Int) : Bx (w.setCell ⟨b, 1, none⟩ (.int .i64 x)) b win x en qv gone byt fa pk := heap_setCell_same w b 1 _ 50 _ h
theorem Bx.set_en {w : World} {b : Nat} {win ear en : Int} {qv : Value} {gone byt fa pk : Int} (h : Bx w b win ear en qv gone byt fa pk) (x : Int) : Bx (w.setCell ⟨b, 2, none⟩ (.int .i64 x)) b win ear x qv gone byt fa pk := heap_setCell_same w b 2 _ 50 _ h
theorem Bx.set_gone {w : World} {b : Nat} {win ear en : Int} {qv : Value} {gone byt fa pk : Int} (h : Bx w b win ear en qv gone byt fa pk) (x : Int) : Bx (w.setCell ⟨b, 4, none⟩ (.int .i64 x)) b win ear en qv x byt fa pk := heap_setCell_same w b 4 _ 50 _ h
theorem Bx.set_byt {w : World} {b : Nat} {win ear en : Int} {qv : Value} {gone byt fa pk : Int} (h : Bx w b win ear en qv gone byt fa pk) (x : Int) : Bx (w.setCell ⟨b, 5, none⟩ (.int .i64 x)) b win ear en qv gone x fa pk := heap_setCell_same w b 5 _ 50 _ h
theorem Bx.set_fa {w : World} {b : Nat} {win ear en : Int} {qv : Value} {gone byt fa pk : Int} (h : Bx w b win ear en qv gone byt fa pk) (x : Int) : Bx (w.setCell ⟨b, 6, none⟩ (.int .u64 x)) b win ear en qv gone byt x pk := heap_setCell_same w b 6 _ 50 _ h
theorem Bx.set_pk {w : World} {b : Nat} {win ear en : Int} {qv : Value} {gone byt fa pk : Int} (h : Bx w b win ear en qv gone byt fa pk) (x : Int) : Bx (w.setCell ⟨b, 7, none⟩ (.int .i64 x)) b win ear en qv gone byt fa x := heap_setCell_same w b 7 _ 50 _ h
theorem Bx.set_qv {w : World} {b : Nat} {win ear en : Int} {qv : Value} {gone byt fa pk : Int} (h : Bx w b win ear en qv gone byt fa pk) (x : Value) : Bx (w.setCell ⟨b, 3, none⟩ x) b win ear en x gone byt fa pk := heap_setCell_same w b 3 _ 50 _ h

set_option maxHeartbeats 400000 in
theorem new_any (T : Int) (h1 : 1 ≤ T) (h2 : T ≤ 1125899906842624) (w : World) :
    Calls Try.prog 8 #[.int .i64 T] w fun e w' => (∃ b, e = .returned (.tuple #[.pointer (some ⟨b, 0, none⟩), .int .i64 0]) ∧ Bx w' b T 1125899906842624 (-1125899906842624) (.slice none 0 0) 0 0 0 0 ∧ b = w.heap.size) ∧ Apart (fun _ => False) w w' := by
  have A0 := mkHid ((Apart.refl (fun _ => False) w).alloc (.cells #[.int .i64 T, .int .i64 1125899906842624, .int .i64 (-1125899906842624), .slice none 0 0, .int .i64 0, .int .i64 0, .int .u64 0, .int .i64 0] 50))
  go_enter Try.func8, Try.ntmps8
  go_wp2
  go_ret2
  exact ⟨⟨w.heap.size, rfl, heap_alloc_new w _, rfl⟩, A0.out⟩
theorem new_no (T : Int) (h : T < 1 ∨ 1125899906842624 < T) (w : World) :
    Calls Try.prog 8 #[.int .i64 T] w fun e w' => e = .returned (.tuple #[.pointer none, .int .i64 1]) ∧ w' = w := by
  by_cases h1 : T < 1
  · clear h
    go_enter Try.func8, Try.ntmps8
    go_wp2
    go_ret2
    exact ⟨rfl, rfl⟩
  · have h2 : 1125899906842624 < T := by omega
    clear h
    go_enter Try.func8, Try.ntmps8
    go_wp2
    go_ret2
    exact ⟨rfl, rfl⟩
set_option maxHeartbeats 400000 in
theorem over_any {w : World} {b : Nat} {win ear en : Int} {qv : Value} {gone byt fa pk : Int} (h : Bx w b win ear en qv gone byt fa pk) (e1 : -1125899906842624 ≤ ear) (e2 : ear ≤ 1125899906842624) (n1 : -1125899906842624 ≤ en) (n2 : en ≤ 1125899906842624) :
    Calls Try.prog 32 #[.pointer (some ⟨b, 0, none⟩)] w fun e w' => e = .returned (.int .i64 (en - ear)) ∧ Apart (fun _ => False) w w' := by
  have S := mkHid (fun W => (Sat.sub_any en ear (by omega) (by omega) (by omega) (by omega) W).mono (fun e w' ⟨h1, h2⟩ => And.intro h1 (below_apart h2)))
  have E : Sat.satH (en - ear) = en - ear := Sat.satH_in _ (by omega) (by omega)
  rw [E] at S
  have c1 := fun p => (cells8 (wd_heap h p)).2.1
  have c2 := fun p => (cells8 (wd_heap h p)).2.2.1
  clear h E
  go_enter Try.func32, Try.ntmps32
  go_upto_region 1 with fail
  refine wp_region_wd (by kernel_rfl) (by kernel_rfl) ?_
  repeat (go_big_quiet_step ((go_at_call 40; exact wd_call (S.out _))))
  refine wpQuiet_nil ?_
  rintro _ ⟨p, rfl⟩
  go_wp2
  go_ret
  exact ⟨rfl, wd_apart _ _⟩
/-- Over how long a rate is told. -/
def spn (win ear en : Int) : Int := min (max (en - ear) 1000) win
set_option maxHeartbeats 400000 in
theorem span_any {w : World} {b : Nat} {win ear en : Int} {qv : Value} {gone byt fa pk : Int} (h : Bx w b win ear en qv gone byt fa pk) (e1 : -1125899906842624 ≤ ear) (e2 : ear ≤ 1125899906842624) (n1 : -1125899906842624 ≤ en) (n2 : en ≤ 1125899906842624) :
    Calls Try.prog 30 #[.pointer (some ⟨b, 0, none⟩)] w fun e w' => e = .returned (.int .i64 (spn win ear en)) ∧ Apart (fun _ => False) w w' := by
  have O := mkHid (fun p => over_any (w := wd w p) (wd_heap h p) e1 e2 n1 n2)
  have c0 := fun p => (cells8 (wd_heap h p)).1
  clear h
  go_enter Try.func30, Try.ntmps30
  go_upto_region 1 with fail
  refine wp_region_wd (by kernel_rfl) (by kernel_rfl) ?_
  repeat (go_big_quiet_step ((go_at_call 32; exact wd_call (O.out _))))
  all_goals refine wpQuiet_nil ?_
  all_goals rintro _ ⟨p, rfl⟩
  all_goals go_wp2
  all_goals go_ret
  all_goals exact ⟨ret_i (by unfold spn; omega), wd_apart _ _⟩
set_option maxHeartbeats 400000 in
theorem counts_any {w : World} {b : Nat} {win ear en : Int} {qv : Value} {gone byt fa pk : Int} (h : Bx w b win ear en qv gone byt fa pk) (e1 : 1 ≤ win) (e2 : win ≤ 1125899906842624) (n1 : -1125899906842624 ≤ en) (n2 : en ≤ 1125899906842624) (x z : Int) :
    Calls Try.prog 43 #[.pointer (some ⟨b, 0, none⟩), .agg #[.int .i64 x, .int .i64 z]] w fun e w' => e = .returned (.bool (decide (en - win < x))) ∧ Apart (fun _ => False) w w' := by
  have S := mkHid (fun W => (Sat.sub_any en win (by omega) (by omega) (by omega) (by omega) W).mono (fun e w' ⟨h1, h2⟩ => And.intro h1 (below_apart h2)))
  have E : Sat.satH (en - win) = en - win := Sat.satH_in _ (by omega) (by omega)
  rw [E] at S
  have A0 := mkHid ((Apart.refl (fun _ => False) w).alloc (.cells #[.int .i64 x, .int .i64 z] 56))
  have S0 := mkHid (heap_alloc_new w (.cells #[.int .i64 x, .int .i64 z] 56))
  obtain ⟨W, HW⟩ : ∃ W, Hid (w.alloc (.cells #[.int .i64 x, .int .i64 z] 56) = W) := ⟨_, rfl⟩
  obtain ⟨sb, HSB⟩ : ∃ b, Hid (w.heap.size = b) := ⟨_, rfl⟩
  rw [HW.out, HSB.out] at S0
  rw [HW.out] at A0
  have H := mkHid (h.kept A0.out (fun h => h))
  have c0 := fun p => (cells8 (wd_heap H.out p)).1
  have c2 := fun p => (cells8 (wd_heap H.out p)).2.2.1
  have d0 := fun p => (cells2 (wd_heap S0.out p)).1
  have d1 := fun p => (cells2 (wd_heap S0.out p)).2.1
  clear h E
  go_enter Try.func43, Try.ntmps43
  go_upto_region 1 with fail
  rw [HW.out, HSB.out]
  refine wp_region_wd (by kernel_rfl) (by kernel_rfl) ?_
  repeat (go_big_quiet_step ((go_at_call 40; exact wd_call (S.out _))))
  refine wpQuiet_nil ?_
  rintro _ ⟨p, rfl⟩
  go_wp2
  go_ret
  exact ⟨rfl, A0.out.zz (wd_apart _ _)⟩
set_option maxHeartbeats 400000 in
theorem goes_any {w : World} {b : Nat} {win ear en : Int} {a : Option Addr} {n c : Nat} {gone : Nat} {byt fa pk : Int} (h : Bx w b win ear en (.slice a n c) gone byt fa pk) (e1 : 1 ≤ win) (e2 : win ≤ 1125899906842624) (n1 : -1125899906842624 ≤ en) (n2 : en ≤ 1125899906842624)
    (g1 : gone ≤ n) (g2 : n ≤ gone + 4096) (x z : Int) :
    Calls Try.prog 37 #[.pointer (some ⟨b, 0, none⟩), .agg #[.int .i64 x, .int .i64 z]] w fun e w' => e = .returned (.bool (!decide (en - win < x))) ∧ Apart (fun _ => False) w w' := by
  have A0 := mkHid ((Apart.refl (fun _ => False) w).alloc (.cells #[.int .i64 x, .int .i64 z] 56))
  have S0 := mkHid (heap_alloc_new w (.cells #[.int .i64 x, .int .i64 z] 56))
  obtain ⟨W, HW⟩ : ∃ W, Hid (w.alloc (.cells #[.int .i64 x, .int .i64 z] 56) = W) := ⟨_, rfl⟩
  obtain ⟨sb, HSB⟩ : ∃ b, Hid (w.heap.size = b) := ⟨_, rfl⟩
  rw [HW.out, HSB.out] at S0
  rw [HW.out] at A0
  have H := mkHid (h.kept A0.out (fun h => h))
  have C := mkHid (fun p => counts_any (w := wd W p) (wd_heap H.out p) e1 e2 n1 n2 x z)
  have c3 := fun p => (cells8 (wd_heap H.out p)).2.2.2.1
  have c4 := fun p => (cells8 (wd_heap H.out p)).2.2.2.2.1
  have d0 := fun p => (cells2 (wd_heap S0.out p)).1
  have d1 := fun p => (cells2 (wd_heap S0.out p)).2.1
  have g4 : ¬ (4096 < (n : Int) - (gone : Int)) := by omega
  have g5 : IntKind.i64.wrap ((n : Int) - (gone : Int)) = (n : Int) - (gone : Int) := by rw [IntKind.wrap_i64]; omega
  clear h g1 g2
  cases ht : decide (en - win < x) <;> rw [ht] at C <;> clear ht
  · go_enter Try.func37, Try.ntmps37
    go_upto_region 1 with fail
    rw [HW.out, HSB.out]
    refine wp_region_wd (by kernel_rfl) (by kernel_rfl) ?_
    repeat (go_big_quiet_step ((go_at_call 43; exact wd_call (C.out _))))
    refine wpQuiet_nil ?_
    rintro _ ⟨p, rfl⟩
    go_wp2
    go_ret
    exact ⟨rfl, A0.out.zz (wd_apart _ _)⟩
  · go_enter Try.func37, Try.ntmps37
    go_upto_region 1 with fail
    rw [HW.out, HSB.out]
    refine wp_region_wd (by kernel_rfl) (by kernel_rfl) ?_
    repeat (go_big_quiet_step ((go_at_call 43; exact wd_call (C.out _))))
    refine wpQuiet_nil ?_
    rintro _ ⟨p, rfl⟩
    go_wp2
    go_ret
    exact ⟨rfl, A0.out.zz (wd_apart _ _)⟩
end Go.Proofs.Ytjeffjpenhhnnaa
