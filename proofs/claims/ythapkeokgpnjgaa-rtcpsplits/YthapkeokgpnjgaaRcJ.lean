/-
  What is thrown within Join is caught: Join's answer.
-/
import Derived.Test.YthapkeokgpnjgaaRcX
import Derived.Defers
import Derived.Recover
import Derived.Laws.Pointers
namespace Go.Proofs.Ythapkeokgpnjgaa
open Go.RowKit

theorem ta_hit (e : Int) (w : World) : (Instr.typeAssert (.iface 26 (.int .i64 e)) 20 26 true).run Try.prog w = .ok (.tuple #[.int .i64 e, .bool true]) w := by kernel_rfl
theorem ta_miss (w : World) : (Instr.typeAssert .nilIface 20 26 true).run Try.prog w = .ok (.tuple #[.int .i64 0, .bool false]) w := by kernel_rfl
theorem jcatch (p q : Addr) (e : Int) (older : List PanicEntry) (w : World) (v0 v1 : Value) (hc : w.cell? p = some v0) (hz : w.frozen? p = false) (hq : w.cell? q = some v1) (hy : w.frozen? q = false) (hpq : ¬ p.block = q.block) :
    CallsD Try.prog 16 #[.pointer (some p), .pointer (some q)] (.panicking ({ v := .iface 26 (.int .i64 e), recovered := false } :: older)) w fun en u' w' =>
      en = .returned (.tuple #[]) ∧ u' = .panicking ({ v := .iface 26 (.int .i64 e), recovered := true } :: older) ∧ w' = (w.setCell p (.string ⟨#[]⟩)).setCell q (.int .i64 e) := by
  have hq2 : ∀ u, (w.setCell p u).cell? q = some v1 := fun u => (World.cell?_of_block (w := w) (Below.heap_setCell w p u q.block (fun h => hpq h.symm))).trans hq
  refine callsD_of_wpS Try.func16 rfl fun c₀ cs hu => ?_
  have e0 : ({ tmps := #[Value.pointer (some p), Value.pointer (some q)] ++ Array.replicate (Try.f16.ntmps - #[Value.pointer (some p), Value.pointer (some q)].size) undef, defers := [] } : Act) = { tmps := #[.pointer (some p), .pointer (some q), undef, undef, undef, undef, undef, undef, undef, undef, undef], defers := [] } := by rw [Try.ntmps16]; rfl
  rw [e0]
  apply wpS_seq
  apply wpS_region
  simp [wpOpsS, go_sem, recoverD, hu, Exit.thenS, ta_hit, Oper.upon, Act.put]
  apply wpS_seq
  apply wpS_region
  simp [wpOpsS, go_sem, Exit.thenS, Oper.upon, Act.put]
  refine wpS_cond (t := true) (by simp [Act.eval]) ?_
  simp only [if_true]
  apply wpS_region
  simp [wpOpsS, go_sem, hc, hz, hq2, hy, bodyPostS, results, Try.results16]
theorem jidle (p q : Addr) (w : World) :
    CallsD Try.prog 16 #[.pointer (some p), .pointer (some q)] .returning w fun en u' w' => en = .returned (.tuple #[]) ∧ u' = .returning ∧ w' = w := by
  refine callsD_of_wpS Try.func16 rfl fun c₀ cs hu => ?_
  have e0 : ({ tmps := #[Value.pointer (some p), Value.pointer (some q)] ++ Array.replicate (Try.f16.ntmps - #[Value.pointer (some p), Value.pointer (some q)].size) undef, defers := [] } : Act) = { tmps := #[.pointer (some p), .pointer (some q), undef, undef, undef, undef, undef, undef, undef, undef, undef], defers := [] } := by rw [Try.ntmps16]; rfl
  rw [e0]
  apply wpS_seq
  apply wpS_region
  simp [wpOpsS, go_sem, recoverD, hu, Exit.thenS, ta_miss, Oper.upon, Act.put]
  apply wpS_seq
  apply wpS_region
  simp [wpOpsS, go_sem, Exit.thenS, Oper.upon, Act.put]
  refine wpS_cond (t := false) (by simp [Act.eval]) ?_
  simp only [Bool.false_eq_true, if_false]
  refine wpS_of_wp (wp_skip ?_)
  cases c₀
  simp_all [bodyPostS, results, Try.results16]
/-- What Join answers. -/
def jE (l : List Pt) : Int := if l = [] ∨ allOk l = false then 1 else if 65536 < sz l then 2 else 0
def jS (l : List Pt) : ByteArray := if jE l = 0 then bA l else ⟨#[]⟩
/-- Two results in blocks of their own. -/
def Two (w : World) (b : Nat) (v0 v1 : Value) (T0 T1 : TypeId) : Prop := w.heap[b]? = some (.cells #[v0] T0 (0, 0)) ∧ w.heap[b + 1]? = some (.cells #[v1] T1 (0, 0))
theorem Two.cells {w : World} {b : Nat} {v0 v1 : Value} {T0 T1 : TypeId} (h : Two w b v0 v1 T0 T1) :
    w.cell? ⟨b, 0, none⟩ = some v0 ∧ w.cell? ⟨b + 1, 0, none⟩ = some v1 ∧ w.frozen? ⟨b, 0, none⟩ = false ∧ w.frozen? ⟨b + 1, 0, none⟩ = false :=
  ⟨cell_of_row w b 0 _ T0 _ h.1, cell_of_row w (b + 1) 0 _ T1 _ h.2, frozen_of_row w b 0 _ T0 h.1, frozen_of_row w (b + 1) 0 _ T1 h.2⟩
theorem Two.kept {w w' : World} {b : Nat} {v0 v1 : Value} {T0 T1 : TypeId} (h : Two w b v0 v1 T0 T1) {B : Nat} (hb : Below B w w') (hB : b + 1 < B) : Two w' b v0 v1 T0 T1 :=
  ⟨(hb.block b (by omega)).trans h.1, (hb.block (b + 1) (by omega)).trans h.2⟩
theorem Two.new (w : World) (v0 v1 : Value) (T0 T1 : TypeId) : Two ((w.alloc (.cells #[v0] T0)).alloc (.cells #[v1] T1)) w.heap.size v0 v1 T0 T1 := by
  refine ⟨?_, ?_⟩
  · rw [Below.heap_alloc _ _ _ (by simp)]; exact heap_alloc_new _ _
  · have := heap_alloc_new (w.alloc (.cells #[v0] T0)) (.cells #[v1] T1)
    simp only [World.size_alloc] at this
    exact this
theorem two_below {w w' : World} {b : Nat} (hb : Below b w w') (u0 u1 : Value) : Below b w ((w'.setCell ⟨b, 0, none⟩ u0).setCell ⟨b + 1, 0, none⟩ u1) :=
  (hb.setCell (p := ⟨b, 0, none⟩) (Nat.le_refl _) _).setCell (p := ⟨b + 1, 0, none⟩) (by simp) _
theorem Two.set {w : World} {b : Nat} {v0 v1 : Value} {T0 T1 : TypeId} (h : Two w b v0 v1 T0 T1) (u0 u1 : Value) : Two ((w.setCell ⟨b, 0, none⟩ u0).setCell ⟨b + 1, 0, none⟩ u1) b u0 u1 T0 T1 := by
  have h1 := heap_setCell_same w b 0 _ T0 u0 h.1
  have h2 : (w.setCell ⟨b, 0, none⟩ u0).heap[b + 1]? = some (.cells #[v1] T1 (0, 0)) := by rw [Below.heap_setCell _ _ _ _ (by simp)]; exact h.2
  refine ⟨?_, ?_⟩
  · rw [Below.heap_setCell _ _ _ _ (by simp), h1]; rfl
  · rw [heap_setCell_same _ (b + 1) 0 _ T1 u1 h2]; rfl
theorem res11 {W : World} {b : Nat} {x y : Value} (tmps : Array Value) (h2 : tmps.getD 2 undef = .pointer (some ⟨b, 0, none⟩)) (h3 : tmps.getD 3 undef = .pointer (some ⟨b + 1, 0, none⟩)) (h : Two W b x y 9 26) :
    (results Try.f11 tmps).run Try.prog W = .ok (.tuple #[x, y]) W := by
  obtain ⟨c0, c1, _, _⟩ := h.cells
  clear h
  have h2' : tmps[2]?.getD undef = .pointer (some ⟨b, 0, none⟩) := by rw [← h2]; simp
  have h3' : tmps[3]?.getD undef = .pointer (some ⟨b + 1, 0, none⟩) := by rw [← h3]; simp
  simp [results, Try.results11, h2', h3', c0, c1, go_sem]
set_option maxRecDepth 100000 in
theorem join_any (a : Option Addr) (cap : Nat) (l : List Pt) (hz : sz l ≤ 10000000) (w : World) (h : PA w.heap.size w a l) :
    Calls Try.prog 11 #[.slice a l.length cap] w fun e w' => e = .returned (.tuple #[.string (jS l), .int .i64 (jE l)]) ∧ Below w.heap.size w w' := by
  have hmf : ∀ (fn : Fn) (first cap : Array Value) (w : World), (Instr.makeFunc fn first cap).run Try.prog w = .ok (.func fn first cap) w := fun _ _ _ _ => rfl
  have TW := mkHid (Two.new w (.string ⟨#[]⟩) (.int .i64 0) 9 26)
  have B0 := mkHid (show Below w.heap.size w ((w.alloc (.cells #[.string ⟨#[]⟩] 9)).alloc (.cells #[.int .i64 0] 26)) from ((Below.refl _ _).alloc (Nat.le_refl _) _).alloc (by simp) _)
  have P0 := mkHid (h.on B0.out)
  have Z0 := mkHid (show ((w.alloc (.cells #[.string ⟨#[]⟩] 9)).alloc (.cells #[.int .i64 0] 26)).heap.size = w.heap.size + 2 from by simp)
  have SZ := mkHid (size_any a cap l hz _ P0.out)
  have HZ := mkHid hz
  obtain ⟨b, HB⟩ : ∃ b, Hid (w.heap.size = b) := ⟨_, rfl⟩
  rw [HB.out] at TW B0 Z0
  clear h hz
  by_cases hl : l = []
  · subst hl
    clear SZ P0 TW
    have TW := mkHid (Two.new w (.string ⟨#[]⟩) (.int .i64 1) 9 26)
    rw [HB.out] at TW
    go_enter_defers Try.func11, Try.ntmps11
    go_wp2
    rw [HB.out]
    refine leaves_cons (f := 16) (args := #[.pointer (some ⟨b, 0, none⟩), .pointer (some ⟨b + 1, 0, none⟩)]) (by simp) (by simp [go_sem]) ?_
    refine (jidle ⟨b, 0, none⟩ ⟨b + 1, 0, none⟩ _).mono ?_
    rintro e u' w'' ⟨rfl, rfl, rfl⟩
    refine ⟨_, res11 _ rfl rfl TW.out, rfl, ?_⟩
    rw [← HB.out]
    exact ((Below.refl _ _).alloc (Nat.le_refl _) _).alloc (by simp) _
  · obtain ⟨n, HN⟩ : ∃ n, Hid (l.length = n) := ⟨_, rfl⟩
    have hn0 : ¬ (n : Int) = 0 := by have := HN.out; have := List.length_pos_iff.2 hl; omega
    have HL := mkHid hl
    rw [HN.out] at SZ ⊢
    clear hl
    go_enter_defers Try.func11, Try.ntmps11
    go_wp2_with fail
    rw [HB.out]
    refine (SZ.out).mono ?_
    rw [Z0.out]
    rintro e w1 ⟨(⟨hok, rfl⟩ | ⟨hok, rfl⟩), hb⟩
    · have T1 := mkHid (TW.out.kept hb (by omega))
      have B1 := mkHid (B0.out.trans (hb.mono (by omega)))
      have P1 := mkHid ((P0.out).on (by rw [Z0.out]; exact hb))
      obtain ⟨c0, c1, f0, f1⟩ := T1.out.cells
      have HOK := mkHid hok
      clear hok
      by_cases hs : 65536 < sz l
      · have HJ := mkHid (show jE l = 2 from by unfold jE; rw [if_neg (by rintro (h | h); exact HL.out h; rw [HOK.out] at h; cases h), if_pos hs])
        have HS := mkHid (show jS l = ⟨#[]⟩ from by unfold jS; rw [HJ.out]; rfl)
        have hs' : (65536 : Int) < sz l := by omega
        have hs2 : (sz l : Int) ≤ 10000000 := by have := HZ.out; omega
        generalize sz l = x at *
        go_wp2
        refine leaves_cons (f := 16) (args := #[.pointer (some ⟨b, 0, none⟩), .pointer (some ⟨b + 1, 0, none⟩)]) (by simp) (by simp [go_sem]) ?_
        refine (jidle ⟨b, 0, none⟩ ⟨b + 1, 0, none⟩ _).mono ?_
        rintro e u' w'' ⟨rfl, rfl, rfl⟩
        refine ⟨_, res11 _ rfl rfl (T1.out.set _ _), by rw [HJ.out, HS.out], by rw [HB.out]; exact two_below B1.out _ _⟩
      · have HJ := mkHid (show jE l = 0 from by unfold jE; rw [if_neg (by rintro (h | h); exact HL.out h; rw [HOK.out] at h; cases h), if_neg hs])
        have HS := mkHid (show jS l = bA l from by unfold jS; rw [HJ.out]; rfl)
        have WR := mkHid (written_any a cap l (by omega) HOK.out _ P1.out)
        rw [HN.out] at WR
        have hz1 : b + 2 ≤ w1.heap.size := by have := hb.size; rw [Z0.out] at this; exact this
        have hs' : ¬ (65536 : Int) < sz l := by omega
        have hs2 : (sz l : Int) ≤ 10000000 := by have := HZ.out; omega
        generalize sz l = x at *
        generalize bA l = S at *
        clear hb
        go_wp2_with fail
        refine (WR.out).mono ?_
        rintro e w2 ⟨rfl, hb2⟩
        have T2 := mkHid (T1.out.kept hb2 (by omega))
        have B2 := mkHid (B1.out.trans (hb2.mono (by omega)))
        clear c0 c1 f0 f1 hb2
        obtain ⟨c0, c1, f0, f1⟩ := T2.out.cells
        go_wp2
        refine leaves_cons (f := 16) (args := #[.pointer (some ⟨b, 0, none⟩), .pointer (some ⟨b + 1, 0, none⟩)]) (by simp) (by simp [go_sem]) ?_
        refine (jidle ⟨b, 0, none⟩ ⟨b + 1, 0, none⟩ _).mono ?_
        rintro e u' w'' ⟨rfl, rfl, rfl⟩
        refine ⟨_, res11 _ rfl rfl (T2.out.set _ _), by rw [HJ.out, HS.out], by rw [HB.out]; exact two_below B2.out _ _⟩
    · have T1 := mkHid (TW.out.kept hb (by omega))
      have B1 := mkHid (B0.out.trans (hb.mono (by omega)))
      obtain ⟨c0, c1, f0, f1⟩ := T1.out.cells
      have HJ := mkHid (show jE l = 1 from by unfold jE; rw [if_pos (.inr hok)])
      have HS := mkHid (show jS l = ⟨#[]⟩ from by unfold jS; rw [HJ.out]; rfl)
      clear hok hb
      go_wp2
      refine leaves_cons (f := 16) (args := #[.pointer (some ⟨b, 0, none⟩), .pointer (some ⟨b + 1, 0, none⟩)]) (by simp) (by simp [go_sem]) ?_
      refine (jcatch ⟨b, 0, none⟩ ⟨b + 1, 0, none⟩ 1 [] _ _ _ c0 f0 c1 f1 (by simp)).mono ?_
      rintro e u' w'' ⟨rfl, rfl, rfl⟩
      refine ⟨_, res11 _ rfl rfl (T1.out.set _ _), by rw [HJ.out, HS.out], by rw [HB.out]; exact two_below B1.out _ _⟩
end Go.Proofs.Ythapkeokgpnjgaa
