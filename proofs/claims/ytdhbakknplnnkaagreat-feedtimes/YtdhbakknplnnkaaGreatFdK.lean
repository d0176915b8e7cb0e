/-
  What a part is, as the program has it; too many; what is wrong of all.
-/
import Derived.Test.YtdhbakknplnnkaaGreatFdI
import Derived.Test.YtdhbakknplnnkaaGreatFdX
import Derived.Test.YtdhbakknplnnkaaGreatCc2
import Derived.Test.YtdhbakknplnnkaaGreatTw2
namespace Go.Proofs.YtdhbakknplnnkaaGreat.Fd
open Go.RowKit Go.Proofs.YtdhbakknplnnkaaGreat.Nk

theorem many_any (n : Int) (w : World) : Calls Tryz.prog 42 #[.int .i64 n] w fun e w' => e = .returned (.bool (decide (4096 < n))) ∧ w' = w := by
  by_cases h : 4096 < n
  · go_enter Tryz.func42, Tryz.ntmps42
    go_wp2
    go_ret
    simp [h]
  · go_enter Tryz.func42, Tryz.ntmps42
    go_wp2
    go_ret
    simp [h]
/-- What is wrong of all parts. -/
def whE (k : Bool) (n m : Nat) : Int := if k = true then (if 4096 < n ∨ 4096 < m then 3 else 0) else 120
theorem whole_any (a : Option Addr) (n c : Nat) (a' : Option Addr) (n' c' : Nat) (k : Bool) (hn : n ≤ 1073741824) (hn' : n' ≤ 1073741824) (w : World) :
    Calls Tryz.prog 21 #[fv a n c a' n' c', .bool k] w fun e w' => e = .returned (.int .i64 (whE k n n')) ∧ Below w.heap.size w w' := by
  unfold fv
  have N0 := mkHid (heap_alloc_new w (.cells #[.slice a n c, .slice a' n' c'] 26))
  have B0 := mkHid ((Below.refl w.heap.size w).alloc (Nat.le_refl _) (.cells #[.slice a n c, .slice a' n' c'] 26))
  obtain ⟨W, HW⟩ : ∃ W, Hid (w.alloc (.cells #[.slice a n c, .slice a' n' c'] 26) = W) := ⟨_, rfl⟩
  rw [HW.out] at N0 B0
  obtain ⟨bx, HBX⟩ : ∃ b, Hid (w.heap.size = b) := ⟨_, rfl⟩
  rw [HBX.out] at N0
  obtain ⟨⟨c0, c1⟩, -, -⟩ := cells2 N0.out
  have M1 := mkHid (many_any (n : Int))
  have M2 := mkHid (many_any (n' : Int))
  have B0' := mkHid (show Below bx w W by rw [← HBX.out]; exact B0.out)
  cases k with
  | false =>
    go_enter Tryz.func21, Tryz.ntmps21
    go_wp2_with fail
    rw [HW.out, HBX.out]
    go_wp2
    go_ret
    exact ⟨rfl, by first | exact B0'.out | exact B0.out⟩
  | true =>
    by_cases h1 : 4096 < n
    · have e1 : decide (4096 < (n : Int)) = true := by simp; omega
      have e3 : whE true n n' = 3 := by unfold whE; rw [if_pos rfl, if_pos (.inl h1)]
      rw [e1] at M1
      rw [e3]
      clear e1 e3
      go_enter Tryz.func21, Tryz.ntmps21
      go_wp2_with fail
      rw [HW.out, HBX.out]
      refine (M1.out _).mono ?_
      rintro e w1 ⟨rfl, rfl⟩
      go_wp2
      go_ret
      exact ⟨rfl, by first | exact B0'.out | exact B0.out⟩
    · have e1 : decide (4096 < (n : Int)) = false := by simp; omega
      rw [e1] at M1
      by_cases h2 : 4096 < n'
      · have e2 : decide (4096 < (n' : Int)) = true := by simp; omega
        have e3 : whE true n n' = 3 := by unfold whE; rw [if_pos rfl, if_pos (.inr h2)]
        rw [e2] at M2
        rw [e3]
        clear e1 e2 e3
        go_enter Tryz.func21, Tryz.ntmps21
        go_wp2_with fail
        rw [HW.out, HBX.out]
        refine (M1.out _).mono ?_
        rintro e w1 ⟨rfl, rfl⟩
        go_wp2_with fail
        refine (M2.out _).mono ?_
        rintro e w2 ⟨rfl, rfl⟩
        go_wp2
        go_ret
        exact ⟨rfl, by first | exact B0'.out | exact B0.out⟩
      · have e2 : decide (4096 < (n' : Int)) = false := by simp; omega
        have e3 : whE true n n' = 0 := by unfold whE; rw [if_pos rfl, if_neg (by omega)]
        rw [e2] at M2
        rw [e3]
        clear e1 e2 e3
        go_enter Tryz.func21, Tryz.ntmps21
        go_wp2_with fail
        rw [HW.out, HBX.out]
        refine (M1.out _).mono ?_
        rintro e w1 ⟨rfl, rfl⟩
        go_wp2_with fail
        refine (M2.out _).mono ?_
        rintro e w2 ⟨rfl, rfl⟩
        go_wp2
        go_ret
        exact ⟨rfl, by first | exact B0'.out | exact B0.out⟩
/-- What a part is, as the program has it. -/
def Told (w : World) (x : Value) (p : Rc.Pt) : Prop :=
  if p.t = 205 then (if p.c = 11 then ∃ a c, x = .iface 97 (Cc.rv (Cc.decSd p.d) a (Cc.decL p.d).length c (Cc.decSt p.d)) ∧ Cc.BA w.heap.size w a (Cc.decL p.d)
    else if p.c = 15 then ∃ a c a' c', x = .iface 100 (Tw.rv (Tw.decR p.d) a (Tw.decR p.d).st.length c a' (Tw.decR p.d).dl.length c') ∧ IA w.heap.size w a c (Tw.decR p.d).st ∧ IA w.heap.size w a' c' (Tw.decR p.d).dl
    else if p.c = 1 then ∃ a c, x = .iface 78 (nv (Nk.decR p.d) a (Nk.decR p.d).lo.length c) ∧ IA w.heap.size w a c (Nk.decR p.d).lo
    else x = .nilIface) else x = .nilIface
theorem told_11 (w : World) (x : Value) (d : ByteArray) : Told w x ⟨11, 205, d⟩ = ∃ a c, x = .iface 97 (Cc.rv (Cc.decSd d) a (Cc.decL d).length c (Cc.decSt d)) ∧ Cc.BA w.heap.size w a (Cc.decL d) := by unfold Told; simp
theorem told_15 (w : World) (x : Value) (d : ByteArray) : Told w x ⟨15, 205, d⟩ = ∃ a c a' c', x = .iface 100 (Tw.rv (Tw.decR d) a (Tw.decR d).st.length c a' (Tw.decR d).dl.length c') ∧ IA w.heap.size w a c (Tw.decR d).st ∧ IA w.heap.size w a' c' (Tw.decR d).dl := by unfold Told; simp
theorem told_1 (w : World) (x : Value) (d : ByteArray) : Told w x ⟨1, 205, d⟩ = ∃ a c, x = .iface 78 (nv (Nk.decR d) a (Nk.decR d).lo.length c) ∧ IA w.heap.size w a c (Nk.decR d).lo := by unfold Told; simp
theorem told_else (w : World) (x : Value) (c : Int) (d : ByteArray) (h1 : ¬ c = 11) (h2 : ¬ c = 15) (h3 : ¬ c = 1) : Told w x ⟨c, 205, d⟩ = (x = .nilIface) := by unfold Told; simp [h1, h2, h3]
theorem told_other (w : World) (x : Value) (c t : Int) (d : ByteArray) (h : ¬ t = 205) : Told w x ⟨c, t, d⟩ = (x = .nilIface) := by unfold Told; simp [h]
set_option maxHeartbeats 2000000 in
theorem decoded_any (p : Rc.Pt) (hd : p.d.size ≤ 1000000) (w : World) :
    Calls Tryz.prog 19 #[.agg #[.int .i64 p.c, .int .i64 p.t, .string p.d]] w fun e w' => (∃ x, e = .returned (.tuple #[x, .int .i64 (pE p)]) ∧ Told w' x p) ∧ Below w.heap.size w w' := by
  obtain ⟨pc, pt, d⟩ := p
  simp only at hd ⊢
  have N0 := mkHid (heap_alloc_new w (.cells #[.int .i64 pc, .int .i64 pt, .string d] 56))
  have B0 := mkHid ((Below.refl w.heap.size w).alloc (Nat.le_refl _) (.cells #[.int .i64 pc, .int .i64 pt, .string d] 56))
  have Z0 := mkHid (show w.heap.size ≤ (w.alloc (.cells #[.int .i64 pc, .int .i64 pt, .string d] 56)).heap.size by simp)
  obtain ⟨W, HW⟩ : ∃ W, Hid (w.alloc (.cells #[.int .i64 pc, .int .i64 pt, .string d] 56) = W) := ⟨_, rfl⟩
  rw [HW.out] at N0 B0 Z0
  obtain ⟨bx, HBX⟩ : ∃ b, Hid (w.heap.size = b) := ⟨_, rfl⟩
  rw [HBX.out] at N0
  obtain ⟨c0, c1, c2, -⟩ := cells3 N0.out
  have d1 : (d.size : Int) ≤ 9223372036854775807 := by omega
  by_cases ht : pt = 205
  · subst ht
    by_cases h11 : pc = 11
    · subst h11
      have DC := mkHid (Cc.dec_any d hd)
      have PX := p_11 d 0
      rw [PX.1]
      simp only [told_11]
      unfold Cc.rv
      obtain ⟨sd, HSD⟩ : ∃ x, Hid (Cc.decSd d = x) := ⟨_, rfl⟩
      obtain ⟨st, HST⟩ : ∃ x, Hid (Cc.decSt d = x) := ⟨_, rfl⟩
      obtain ⟨bl, HBL⟩ : ∃ x, Hid (Cc.decL d = x) := ⟨_, rfl⟩
      obtain ⟨E, HE⟩ : ∃ x, Hid (Cc.decE d = x) := ⟨_, rfl⟩
      unfold Cc.DecPost Cc.rv at DC
      rw [HSD.out, HST.out, HBL.out, HE.out] at DC ⊢
      go_enter Tryz.func19, Tryz.ntmps19
      go_wp2_with fail
      rw [HW.out, HBX.out]
      refine (DC.out _).mono ?_
      rintro e w1 ⟨⟨a1, k1, rfl, ba⟩, b1⟩
      have BA1 := mkHid (ba.on (((Apart.refl (fun _ => False) w1).alloc (.cells #[.int .u32 sd, .slice a1 bl.length k1, .int .u32 st] 53)).belowZ))
      have B1 := mkHid ((B0.out.trans (b1.mono Z0.out)).trans (((Below.refl w1.heap.size w1).alloc (Nat.le_refl _) (.cells #[.int .u32 sd, .slice a1 bl.length k1, .int .u32 st] 53)).mono (Nat.le_trans Z0.out b1.size)))
      clear ba b1
      obtain ⟨x0, x1, x2, -⟩ := cells3 (heap_alloc_new w1 (.cells #[.int .u32 sd, .slice a1 bl.length k1, .int .u32 st] 53))
      go_wp2
      go_returns
      exact ⟨⟨_, rfl, a1, k1, rfl, BA1.out⟩, B1.out⟩
    · by_cases h15 : pc = 15
      · subst h15
        have DC := mkHid (Tw.dec_any d hd)
        have PX := p_15 d 0
        rw [PX.1]
        simp only [told_15]
        unfold Tw.rv
        obtain ⟨r, HRR⟩ : ∃ x, Hid (Tw.decR d = x) := ⟨_, rfl⟩
        obtain ⟨E, HE⟩ : ∃ x, Hid (Tw.decE d = x) := ⟨_, rfl⟩
        unfold Tw.DecPost Tw.rv at DC
        rw [HRR.out, HE.out] at DC ⊢
        go_enter Tryz.func19, Tryz.ntmps19
        go_wp2_with fail
        rw [HW.out, HBX.out]
        refine (DC.out _).mono ?_
        rintro e w1 ⟨⟨a1, k1, a2, k2, rfl, ia, ja⟩, b1⟩
        have AL := mkHid ((Below.refl w1.heap.size w1).alloc (Nat.le_refl _) (.cells #[.int .u32 r.sd, .int .u32 r.md, .int .i64 r.fi, .int .i64 r.ba, .int .i64 r.co, .slice a1 r.st.length k1, .slice a2 r.dl.length k2] 63))
        have IA1 := mkHid (IA.on (show IA w1.heap.size w1 a1 k1 r.st from ia) AL.out)
        have JA1 := mkHid (IA.on (show IA w1.heap.size w1 a2 k2 r.dl from ja) AL.out)
        have B1 := mkHid ((B0.out.trans (b1.mono Z0.out)).trans (AL.out.mono (Nat.le_trans Z0.out b1.size)))
        clear ia ja b1
        obtain ⟨x0, x1, x2, x3, x4, x5, x6⟩ := Tw.cells7 (heap_alloc_new w1 (.cells #[.int .u32 r.sd, .int .u32 r.md, .int .i64 r.fi, .int .i64 r.ba, .int .i64 r.co, .slice a1 r.st.length k1, .slice a2 r.dl.length k2] 63))
        go_wp2
        go_returns
        exact ⟨⟨_, rfl, a1, k1, a2, k2, rfl, IA1.out, JA1.out⟩, B1.out⟩
      · by_cases h1 : pc = 1
        · subst h1
          have DC := mkHid (Nk.dec_any d d1)
          have PX := p_1 d 0
          rw [PX.1]
          simp only [told_1]
          unfold nv
          obtain ⟨r, HRR⟩ : ∃ x, Hid (Nk.decR d = x) := ⟨_, rfl⟩
          obtain ⟨E, HE⟩ : ∃ x, Hid (Nk.decE d = x) := ⟨_, rfl⟩
          unfold Nk.DecPost nv at DC
          rw [HRR.out, HE.out] at DC ⊢
          go_enter Tryz.func19, Tryz.ntmps19
          go_wp2_with fail
          rw [HW.out, HBX.out]
          refine (DC.out _).mono ?_
          rintro e w1 ⟨⟨a1, k1, rfl, ia⟩, b1⟩
          have AL := mkHid ((Below.refl w1.heap.size w1).alloc (Nat.le_refl _) (.cells #[.int .u32 r.sd, .int .u32 r.md, .slice a1 r.lo.length k1] 78))
          have IA1 := mkHid (IA.on ia AL.out)
          have B1 := mkHid ((B0.out.trans (b1.mono Z0.out)).trans (AL.out.mono (Nat.le_trans Z0.out b1.size)))
          clear ia b1
          obtain ⟨x0, x1, x2, -⟩ := cells3 (heap_alloc_new w1 (.cells #[.int .u32 r.sd, .int .u32 r.md, .slice a1 r.lo.length k1] 78))
          go_wp2
          go_returns
          exact ⟨⟨_, rfl, a1, k1, rfl, IA1.out⟩, B1.out⟩
        · have PX := p_else (d := d) (near := 0) h11 h15 h1
          rw [PX.1]
          simp only [told_else _ _ _ _ h11 h15 h1]
          go_enter Tryz.func19, Tryz.ntmps19
          go_wp2_with fail
          rw [HW.out, HBX.out]
          go_wp2
          go_returns
          exact ⟨⟨_, rfl, rfl⟩, by rw [← HBX.out]; exact B0.out⟩
  · have PX := p_other (c := pc) (d := d) (near := 0) ht
    rw [PX.1]
    simp only [told_other _ _ _ _ _ ht]
    go_enter Tryz.func19, Tryz.ntmps19
    go_wp2_with fail
    rw [HW.out, HBX.out]
    go_wp2
    go_returns
    exact ⟨⟨_, rfl, rfl⟩, by rw [← HBX.out]; exact B0.out⟩
end Go.Proofs.YtdhbakknplnnkaaGreat.Fd
