/-
  What is thrown within Split is caught: Split's answer.
-/
import Derived.Test.YthapkeokgpnjgaaRcR
import Derived.Test.YthapkeokgpnjgaaRcJ
namespace Go.Proofs.Ythapkeokgpnjgaa
open Go.RowKit

theorem scatch (p q : Addr) (e : Int) (older : List PanicEntry) (w : World) (v0 v1 : Value) (hc : w.cell? p = some v0) (hz : w.frozen? p = false) (hq : w.cell? q = some v1) (hy : w.frozen? q = false) (hpq : ¬ p.block = q.block) :
    CallsD Try.prog 19 #[.pointer (some p), .pointer (some q)] (.panicking ({ v := .iface 26 (.int .i64 e), recovered := false } :: older)) w fun en u' w' =>
      en = .returned (.tuple #[]) ∧ u' = .panicking ({ v := .iface 26 (.int .i64 e), recovered := true } :: older) ∧ w' = (w.setCell p (.slice none 0 0)).setCell q (.int .i64 e) := by
  have hq2 : ∀ u, (w.setCell p u).cell? q = some v1 := fun u => (World.cell?_of_block (w := w) (Below.heap_setCell w p u q.block (fun h => hpq h.symm))).trans hq
  refine callsD_of_wpS Try.func19 rfl fun c₀ cs hu => ?_
  have e0 : ({ tmps := #[Value.pointer (some p), Value.pointer (some q)] ++ Array.replicate (Try.f19.ntmps - #[Value.pointer (some p), Value.pointer (some q)].size) undef, defers := [] } : Act) = { tmps := #[.pointer (some p), .pointer (some q), undef, undef, undef, undef, undef, undef, undef, undef, undef], defers := [] } := by rw [Try.ntmps19]; rfl
  rw [e0]
  apply wpS_seq
  apply wpS_region
  simp [wpOpsS, go_sem, recoverD, hu, Exit.thenS, ta_hit, Oper.upon, Act.put]
  apply wpS_seq
  apply wpS_region
  simp [wpOpsS, go_sem, Exit.thenS, Oper.upon, Act.put]
  refine wpS_cond (t := true) (by simp [Act.eval]) ?_
  simp only [if_true]
  apply wpS_region
  simp [wpOpsS, go_sem, hc, hz, hq2, hy, bodyPostS, results, Try.results19]
theorem sidle (p q : Addr) (w : World) :
    CallsD Try.prog 19 #[.pointer (some p), .pointer (some q)] .returning w fun en u' w' => en = .returned (.tuple #[]) ∧ u' = .returning ∧ w' = w := by
  refine callsD_of_wpS Try.func19 rfl fun c₀ cs hu => ?_
  have e0 : ({ tmps := #[Value.pointer (some p), Value.pointer (some q)] ++ Array.replicate (Try.f19.ntmps - #[Value.pointer (some p), Value.pointer (some q)].size) undef, defers := [] } : Act) = { tmps := #[.pointer (some p), .pointer (some q), undef, undef, undef, undef, undef, undef, undef, undef, undef], defers := [] } := by rw [Try.ntmps19]; rfl
  rw [e0]
  apply wpS_seq
  apply wpS_region
  simp [wpOpsS, go_sem, recoverD, hu, Exit.thenS, ta_miss, Oper.upon, Act.put]
  apply wpS_seq
  apply wpS_region
  simp [wpOpsS, go_sem, Exit.thenS, Oper.upon, Act.put]
  refine wpS_cond (t := false) (by simp [Act.eval]) ?_
  simp only [Bool.false_eq_true, if_false]
  refine wpS_of_wp (wp_skip ?_)
  cases c₀
  simp_all [bodyPostS, results, Try.results19]
theorem res14 {W : World} {b : Nat} {x y : Value} (tmps : Array Value) (h2 : tmps.getD 2 undef = .pointer (some ⟨b, 0, none⟩)) (h3 : tmps.getD 3 undef = .pointer (some ⟨b + 1, 0, none⟩)) (h : Two W b x y 22 26) :
    (results Try.f14 tmps).run Try.prog W = .ok (.tuple #[x, y]) W := by
  obtain ⟨c0, c1, _, _⟩ := h.cells
  clear h
  have h2' : tmps[2]?.getD undef = .pointer (some ⟨b, 0, none⟩) := by rw [← h2]; simp
  have h3' : tmps[3]?.getD undef = .pointer (some ⟨b + 1, 0, none⟩) := by rw [← h3]; simp
  simp [results, Try.results14, h2', h3', c0, c1, go_sem]
/-- What Split answers. -/
def rE (s : ByteArray) : Int := if 65536 < s.size then 2 else sE (fr s 0)
def rL (s : ByteArray) : List Pt := if rE s = 0 then sL (fr s 0) else []
def SplitPost (s : ByteArray) (w : World) (e : Ending) (w' : World) : Prop :=
  (∃ a cap, e = .returned (.tuple #[.slice a (rL s).length cap, .int .i64 (rE s)]) ∧ PA w'.heap.size w' a (rL s)) ∧ Below w.heap.size w w'
theorem pa_nil (B : Nat) (w : World) (a : Option Addr) : PA B w a [] := ⟨Nat.zero_le _, .inl rfl⟩
set_option maxRecDepth 100000 in
theorem split_any (s : ByteArray) (hs : s.size ≤ 1000000) (w : World) : Calls Try.prog 14 #[.string s] w (SplitPost s w) := by
  have hmf : ∀ (fn : Fn) (first cap : Array Value) (w : World), (Instr.makeFunc fn first cap).run Try.prog w = .ok (.func fn first cap) w := fun _ _ _ _ => rfl
  have TW := mkHid (Two.new w (.slice none 0 0) (.int .i64 0) 22 26)
  have B0 := mkHid (show Below w.heap.size w ((w.alloc (.cells #[.slice none 0 0] 22)).alloc (.cells #[.int .i64 0] 26)) from ((Below.refl _ _).alloc (Nat.le_refl _) _).alloc (by simp) _)
  have Z0 := mkHid (show ((w.alloc (.cells #[.slice none 0 0] 22)).alloc (.cells #[.int .i64 0] 26)).heap.size = w.heap.size + 2 from by simp)
  have RD := mkHid (read_all s hs ((w.alloc (.cells #[.slice none 0 0] 22)).alloc (.cells #[.int .i64 0] 26)))
  obtain ⟨b, HB⟩ : ∃ b, Hid (w.heap.size = b) := ⟨_, rfl⟩
  rw [HB.out] at TW B0 Z0
  have hs1 : (s.size : Int) ≤ 1000000 := by omega
  clear hs
  by_cases hl : 65536 < s.size
  · have HE := mkHid (show rE s = 2 by unfold rE; rw [if_pos hl])
    have HR := mkHid (show rL s = [] by unfold rL; rw [HE.out]; rfl)
    have hl' : (65536 : Int) < s.size := by omega
    clear TW RD
    have TW := mkHid (Two.new w (.slice none 0 0) (.int .i64 2) 22 26)
    rw [HB.out] at TW
    clear hl
    go_enter_defers Try.func14, Try.ntmps14
    go_wp2
    rw [HB.out]
    refine leaves_cons (f := 19) (args := #[.pointer (some ⟨b, 0, none⟩), .pointer (some ⟨b + 1, 0, none⟩)]) (by simp) (by simp [go_sem]) ?_
    refine (sidle ⟨b, 0, none⟩ ⟨b + 1, 0, none⟩ _).mono ?_
    rintro e u' w'' ⟨rfl, rfl, rfl⟩
    refine ⟨_, res14 _ rfl rfl TW.out, ⟨none, 0, by rw [HE.out, HR.out]; rfl, by rw [HR.out]; exact pa_nil _ _ _⟩, ?_⟩
    exact ((Below.refl _ _).alloc (Nat.le_refl _) _).alloc (by simp) _
  · have HE := mkHid (show rE s = sE (fr s 0) by unfold rE; rw [if_neg hl])
    have hl' : ¬ (65536 : Int) < s.size := by omega
    clear hl
    go_enter_defers Try.func14, Try.ntmps14
    go_wp2_with fail
    rw [HB.out]
    refine (RD.out).mono ?_
    unfold ReadPost
    rw [Z0.out]
    rintro e w1 ⟨(⟨hE, a, cap, rfl, hp, hpx⟩ | ⟨hE, rfl⟩), hb⟩
    · have T1 := mkHid (TW.out.kept hb (by omega))
      have B1 := mkHid (B0.out.trans (hb.mono (by omega)))
      obtain ⟨c0, c1, f0, f1⟩ := T1.out.cells
      have HR := mkHid (show rL s = sL (fr s 0) by unfold rL; rw [HE.out, if_pos hE])
      have HE0 := mkHid hE
      have HP := mkHid hp
      have HPX := mkHid hpx
      clear hE hp hb hpx
      go_wp2
      refine leaves_cons (f := 19) (args := #[.pointer (some ⟨b, 0, none⟩), .pointer (some ⟨b + 1, 0, none⟩)]) (by simp) (by simp [go_sem]) ?_
      refine (sidle ⟨b, 0, none⟩ ⟨b + 1, 0, none⟩ _).mono ?_
      rintro e u' w'' ⟨rfl, rfl, rfl⟩
      refine ⟨_, res14 _ rfl rfl (T1.out.set _ _), ⟨a, cap, by rw [HE.out, HR.out, HE0.out], ?_⟩, by rw [HB.out]; exact two_below B1.out _ _⟩
      rw [HR.out]
      refine PA.up (PA.apart HP.out (Nat.le_refl _) (X := fun k => k = b ∨ k = b + 1) ?_ (fun x hx e => by have := HPX.out x hx; omega)) (by simp)
      exact Apart.setCell (Apart.setCell (Apart.refl _ w1) (p := ⟨b, 0, none⟩) (fun _ => .inl rfl) _) (p := ⟨b + 1, 0, none⟩) (fun _ => .inr rfl) _
    · have T1 := mkHid (TW.out.kept hb (by omega))
      have B1 := mkHid (B0.out.trans (hb.mono (by omega)))
      obtain ⟨c0, c1, f0, f1⟩ := T1.out.cells
      have HR := mkHid (show rL s = [] by unfold rL; rw [HE.out, if_neg hE])
      clear hE hb
      obtain ⟨x, HX⟩ : ∃ x, Hid (sE (fr s 0) = x) := ⟨_, rfl⟩
      rw [HX.out] at HE ⊢
      go_wp2
      refine leaves_cons (f := 19) (args := #[.pointer (some ⟨b, 0, none⟩), .pointer (some ⟨b + 1, 0, none⟩)]) (by simp) (by simp [go_sem]) ?_
      refine (scatch ⟨b, 0, none⟩ ⟨b + 1, 0, none⟩ x [] _ _ _ c0 f0 c1 f1 (by simp)).mono ?_
      rintro e u' w'' ⟨rfl, rfl, rfl⟩
      refine ⟨_, res14 _ rfl rfl (T1.out.set _ _), ⟨none, 0, by rw [HE.out, HR.out]; rfl, by rw [HR.out]; exact pa_nil _ _ _⟩, by rw [HB.out]; exact two_below B1.out _ _⟩
end Go.Proofs.Ythapkeokgpnjgaa
