/-
  What Decode hands back.
-/
import Derived.Test.YtmnpghelglohlaaNkL
namespace Go.Proofs.Ytmnpghelglohlaa
open Go.RowKit

/-- A list in block bx. -/
def Td (w : World) (bx : Nat) (v0 v1 v2 : Value) : Prop := w.heap[bx]? = some (.cells #[v0, v1, v2] 25 (0, 0))
section
variable {w w' : World} {bx : Nat} {v0 v1 v2 : Value}
theorem Td.kept {X : Nat → Prop} (h : Td w bx v0 v1 v2) (ha : Apart X w w') (hx : ¬ X bx) : Td w' bx v0 v1 v2 := ha.heap h hx
theorem Td.c (h : Td w bx v0 v1 v2) : w.cell? ⟨bx, 0, none⟩ = some v0 ∧ w.cell? ⟨bx, 1, none⟩ = some v1 ∧ w.cell? ⟨bx, 2, none⟩ = some v2 := ⟨(cells3 h).1, (cells3 h).2.1, (cells3 h).2.2.1⟩
theorem Td.f (h : Td w bx v0 v1 v2) : w.frozen? ⟨bx, 0, none⟩ = false ∧ w.frozen? ⟨bx, 1, none⟩ = false ∧ w.frozen? ⟨bx, 2, none⟩ = false := (cells3 h).2.2.2
theorem Td.set0 (h : Td w bx v0 v1 v2) (x : Value) : Td (w.setCell ⟨bx, 0, none⟩ x) bx x v1 v2 := by unfold Td; rw [heap_setCell_same _ bx 0 _ 25 _ h]; rfl
theorem Td.set1 (h : Td w bx v0 v1 v2) (x : Value) : Td (w.setCell ⟨bx, 1, none⟩ x) bx v0 x v2 := by unfold Td; rw [heap_setCell_same _ bx 1 _ 25 _ h]; rfl
theorem Td.set2 (h : Td w bx v0 v1 v2) (x : Value) : Td (w.setCell ⟨bx, 2, none⟩ x) bx v0 v1 x := by unfold Td; rw [heap_setCell_same _ bx 2 _ 25 _ h]; rfl
theorem Td.box (w : World) (v0 v1 v2 : Value) : Td (w.alloc (.cells #[v0, v1, v2] 25)) w.heap.size v0 v1 v2 := heap_alloc_new _ _
end
def put3 (w : World) (bx : Nat) (v0 v1 v2 : Value) : World := ((w.setCell ⟨bx, 0, none⟩ v0).setCell ⟨bx, 1, none⟩ v1).setCell ⟨bx, 2, none⟩ v2
theorem put3_is {w : World} {bx : Nat} {u0 u1 u2 : Value} (h : Td w bx u0 u1 u2) (v0 v1 v2 : Value) : Td (put3 w bx v0 v1 v2) bx v0 v1 v2 := ((h.set0 v0).set1 v1).set2 v2
theorem put3_ap (w : World) (bx : Nat) (v0 v1 v2 : Value) : Apart (· = bx) w (put3 w bx v0 v1 v2) :=
  ((ap_set w bx 0 v0).trans (ap_set _ bx 1 v1) (fun _ _ h => h)).trans (ap_set _ bx 2 v2) (fun _ _ h => h)
/-- A list as a value, of any numbers. -/
def tv (sd md : Int) (v2 : Value) : Value := .agg #[.int .u32 sd, .int .u32 md, v2]
theorem res13 {W : World} {bx : Nat} {sd md : Int} {a : Option Addr} {n c : Nat} (tmps : Array Value) (h2 : tmps.getD 2 undef = .pointer (some ⟨bx, 0, none⟩)) (hd : Td W bx (.int .u32 sd) (.int .u32 md) (.slice a n c)) :
    (results Try.f13 tmps).run Try.prog W = .ok (.tuple #[tv sd md (.slice a n c), tmps.getD 3 undef]) W := by
  obtain ⟨c0, c1, c2⟩ := hd.c
  clear hd
  have h2' : tmps[2]?.getD undef = .pointer (some ⟨bx, 0, none⟩) := by rw [← h2]; simp
  unfold tv
  simp [results, Try.results13, h2', c0, c1, c2, go_sem]
def DecPost (s : ByteArray) (w : World) (e : Ending) (w' : World) : Prop :=
  (∃ a c, e = .returned (.tuple #[nv (decR s) a (decR s).lo.length c, .int .i64 (decE s)]) ∧ IA w'.heap.size w' a c (decR s).lo) ∧ Below w.heap.size w w'
/-- Where Decode stands: its reader in b, what it makes in nb, its result in q. -/
structure Sw (w wr : World) (q nb b : Nat) (s : ByteArray) (p : Nat) (v0 v1 v2 : Value) : Prop where
  rd : Rd 78 wr b s (some p)
  r : Td wr q (.int .u32 0) (.int .u32 0) (.slice none 0 0)
  t : Td wr nb v0 v1 v2
  a : Apart (fun _ => False) w wr
  z : w.heap.size ≤ q ∧ q < nb ∧ nb < b
section
variable {w wr w2 : World} {q nb b p p2 : Nat} {s : ByteArray} {v0 v1 v2 : Value}
theorem Sw.get (h : Sw w wr q nb b s p v0 v1 v2) (a : Apart (· = b) wr w2) (r : Rd 78 w2 b s (some p2)) : Sw w w2 q nb b s p2 v0 v1 v2 :=
  ⟨r, h.r.kept a (by have := h.z; omega), h.t.kept a (by have := h.z; omega), h.a.trans a (fun i hi e => by have := h.z; omega), h.z⟩
theorem Sw.put (h : Sw w wr q nb b s p v0 v1 v2) {u0 u1 u2 : Value} (a : Apart (· = nb) wr w2) (t : Td w2 nb u0 u1 u2) : Sw w w2 q nb b s p u0 u1 u2 :=
  ⟨h.rd.kept a (by have := h.z; omega), h.r.kept a (by have := h.z; omega), t, h.a.trans a (fun i hi e => by have := h.z; omega), h.z⟩
end
/-- What is left of Sw where the reader isn't wanted any more. -/
structure Bw (w wr : World) (q : Nat) : Prop where
  r : Td wr q (.int .u32 0) (.int .u32 0) (.slice none 0 0)
  a : Apart (fun _ => False) w wr
  z : w.heap.size ≤ q
theorem dec_none {s : ByteArray} {w w' : World} {e : Ending} (h0 : ¬ decE s = 0) (he : e = .returned (.tuple #[tv 0 0 (.slice none 0 0), .int .i64 (decE s)])) (hb : Below w.heap.size w w') : DecPost s w e w' := by
  have hr : decR s = ⟨0, 0, []⟩ := by unfold decR; rw [if_neg h0]
  refine ⟨⟨none, 0, ?_, ?_⟩, hb⟩
  · rw [hr, he]; rfl
  · rw [hr]; exact IA.nil _ _ _ _ (Nat.zero_le _)
/-- The end where something is wrong. -/
theorem Bw.no {w wr : World} {q : Nat} {s : ByteArray} (h : Bw w wr q) {E : Int} (hE : decE s = E) (h0 : ¬ E = 0) (tmps : Array Value) (h2 : tmps.getD 2 undef = .pointer (some ⟨q, 0, none⟩)) (h3 : tmps.getD 3 undef = .int .i64 E) (d : List Deferred) (hd : d = []) :
    bodyPost Try.prog Try.f13 (DecPost s w) Exit.ret { tmps := tmps, defers := d } (put3 wr q (.int .u32 0) (.int .u32 0) (.slice none 0 0)) := by
  subst hd
  refine bodyPost_ret (res13 _ h2 (put3_is h.r _ _ _)) rfl (dec_none (by rw [hE]; exact h0) (by rw [hE, h3]) ?_)
  exact (h.a.trans (put3_ap wr q _ _ _) (fun i hi e => by have := h.z; omega)).belowZ
theorem lenE_zero {n : Nat} (h : lenE n = 0) : n ≤ 65536 ∧ n % 4 = 0 ∧ 12 ≤ n := by
  unfold lenE at h
  split at h
  · omega
  · split at h
    · omega
    · split at h <;> omega
theorem decE_len {s : ByteArray} (h : ¬ lenE s.size = 0) : decE s = lenE s.size := by
  unfold decE
  unfold lenE at h ⊢
  split
  · rfl
  · split
    · rfl
    · split
      · rfl
      · rename_i h1 h2 h3
        rw [if_neg h1, if_neg h2, if_neg h3] at h
        exact (h rfl).elim
theorem decE_fit {s : ByteArray} (h : lenE s.size = 0) : decE s = if 4096 < (lost s).length then 3 else if isL (lost s) = true then 0 else 110 := by
  obtain ⟨h1, h2, h3⟩ := lenE_zero h
  unfold decE
  rw [if_neg (by omega), if_neg (by omega), if_neg (by omega)]
set_option maxRecDepth 100000 in
set_option maxHeartbeats 2000000 in
theorem dec_any (s : ByteArray) (hs : (s.size : Int) ≤ 9223372036854775807) (w : World) : Calls Try.prog 13 #[.string s] w (DecPost s w) := by
  have N0 := mkHid (Td.box w (.int .u32 0) (.int .u32 0) (.slice none 0 0))
  have A0 := mkHid ((Apart.refl (fun _ => False) w).alloc (.cells #[.int .u32 0, .int .u32 0, .slice none 0 0] 25))
  have Z0 := mkHid (show (w.alloc (.cells #[.int .u32 0, .int .u32 0, .slice none 0 0] 25)).heap.size = w.heap.size + 1 by simp)
  obtain ⟨q, HQ⟩ : ∃ q, Hid (w.heap.size = q) := ⟨_, rfl⟩
  obtain ⟨W, HW⟩ : ∃ W, Hid (w.alloc (.cells #[.int .u32 0, .int .u32 0, .slice none 0 0] 25) = W) := ⟨_, rfl⟩
  rw [HQ.out, HW.out] at N0 Z0
  rw [HW.out] at A0
  have LE := mkHid (lenerr_any s.size hs)
  obtain ⟨E, HE⟩ : ∃ E, Hid (lenE s.size = E) := ⟨_, rfl⟩
  rw [HE.out] at LE
  have BW0 := mkHid (show Bw w W q from ⟨N0.out, A0.out, by rw [HQ.out]; exact Nat.le_refl _⟩)
  by_cases hE : E = 0
  · subst hE
    have HEL := mkHid (lenE_zero HE.out)
    have HDE := mkHid (decE_fit HE.out)
    go_enter Try.func13, Try.ntmps13
    go_wp2_with fail
    rw [HW.out, HQ.out]
    refine (LE.out _).mono ?_
    rintro e w1 ⟨rfl, rfl⟩
    have N1 := mkHid (Td.box w1 (.int .u32 0) (.int .u32 0) (.slice none 0 0))
    have P1 := mkHid ((Apart.refl (fun _ => False) w1).alloc (.cells #[.int .u32 0, .int .u32 0, .slice none 0 0] 25))
    have Z1 := mkHid (show (w1.alloc (.cells #[.int .u32 0, .int .u32 0, .slice none 0 0] 25)).heap.size = w1.heap.size + 1 by simp)
    obtain ⟨nb, HNB⟩ : ∃ nb, Hid (w1.heap.size = nb) := ⟨_, rfl⟩
    obtain ⟨W1, HW1⟩ : ∃ W1, Hid (w1.alloc (.cells #[.int .u32 0, .int .u32 0, .slice none 0 0] 25) = W1) := ⟨_, rfl⟩
    rw [HNB.out, HW1.out] at N1 Z1
    rw [HW1.out] at P1
    have M1 := mkHid (N0.out.kept P1.out (fun h => h))
    have A1 := mkHid (A0.out.zz P1.out)
    have HQN := mkHid (show q < nb by have := Z0.out; have := HNB.out; omega)
    clear N0 A0 P1 BW0 LE
    go_wp2_with fail
    rw [HW1.out, HNB.out]
    refine (read_any s _).mono ?_
    rw [Z1.out]
    rintro e w2 ⟨rfl, r2, a2, z2⟩
    obtain ⟨b, HBB⟩ : ∃ b, Hid (nb + 1 = b) := ⟨_, rfl⟩
    rw [HBB.out] at r2 ⊢
    have S2 := mkHid (show Sw w w2 q nb b s 0 (.int .u32 0) (.int .u32 0) (.slice none 0 0) from ⟨r2, M1.out.kept a2 (fun h => h), N1.out.kept a2 (fun h => h), A1.out.zz a2, by rw [HQ.out]; exact Nat.le_refl _, HQN.out, by have := HBB.out; omega⟩)
    clear r2 a2 z2 M1 N1 A1
    obtain ⟨sd, HSD⟩ : ∃ x : Int, Hid ((gv s 0 32 : Int) = x) := ⟨_, rfl⟩
    obtain ⟨md, HMD⟩ : ∃ x : Int, Hid ((gv s 32 32 : Int) = x) := ⟨_, rfl⟩
    have G1 := mkHid (get_fit b s (by have := HEL.out; omega) 0 32 32 rfl (by omega) (by have := HEL.out; omega) w2 S2.out.rd)
    rw [HSD.out] at G1
    go_wp2_with fail
    refine (G1.out).mono ?_
    rintro e w3 ⟨rfl, r3, a3⟩
    have S3 := mkHid (S2.out.get a3 r3)
    have S4 := mkHid (S3.out.put (ap_set w3 nb 0 (.int .u32 sd)) (S3.out.t.set0 (.int .u32 sd)))
    obtain ⟨c0, c1, c2⟩ := S3.out.t.c
    obtain ⟨f0, f1, f2⟩ := S3.out.t.f
    clear r3 a3 G1 S2 S3
    have G2 := mkHid (get_fit b s (by have := HEL.out; omega) 32 32 32 rfl (by omega) (by have := HEL.out; omega) _ S4.out.rd)
    rw [HMD.out] at G2
    go_wp2_with fail
    refine (G2.out).mono ?_
    rintro e w5 ⟨rfl, r5, a5⟩
    have S5 := mkHid (S4.out.get a5 r5)
    have S6 := mkHid (S5.out.put (ap_set w5 nb 1 (.int .u32 md)) (S5.out.t.set1 (.int .u32 md)))
    clear c0 c1 c2 f0 f1 f2
    obtain ⟨c0, c1, c2⟩ := S5.out.t.c
    obtain ⟨f0, f1, f2⟩ := S5.out.t.f
    clear r5 a5 G2 S4 S5
    have HZB := mkHid (S6.out.rd.heap)
    have GL := mkHid (getlost_any b s HEL.out.1 (s.size / 4 - 2) (by have := HEL.out; omega) _ S6.out.rd)
    have HLO := mkHid (show deL s 64 (s.size / 4 - 2) = lost s from rfl)
    rw [HLO.out] at GL
    go_wp2_with fail
    refine (GL.out).mono ?_
    obtain ⟨BB, HBBB⟩ : ∃ BB, Hid ((w5.setCell ⟨nb, 1, none⟩ (.int .u32 md)).heap.size = BB) := ⟨_, rfl⟩
    rw [HBBB.out] at HZB ⊢
    rintro e w7 ⟨⟨v7, l7, rfl, o7, hl7⟩, a7⟩
    obtain ⟨ad, cp, rfl⟩ := ownsRow_slice o7
    obtain ⟨n, HN⟩ : ∃ n, Hid (l7.length = n) := ⟨_, rfl⟩
    obtain ⟨F, HF⟩ : ∃ F : Int, Hid ((if 4096 < l7.length then (3 : Int) else if isL l7 = true then 0 else 110) = F) := ⟨_, rfl⟩
    have HDF := mkHid (show decE s = F by
      rw [HDE.out, ← HF.out]
      rcases hl7 with rfl | ⟨h1, h2⟩
      · rfl
      · rw [if_pos h1, if_pos h2])
    have HDR := mkHid (show F = 0 → decR s = ⟨sd, md, l7⟩ by
      intro h0
      unfold decR
      rw [if_pos (by rw [HDF.out]; exact h0), HSD.out, HMD.out]
      rcases hl7 with rfl | ⟨h1, h2⟩
      · rfl
      · have := HF.out; rw [if_pos h1] at this; omega)
    have hz6 := S6.out.z
    have T7 := S6.out.t.kept a7 (by omega)
    have R7 := S6.out.r.kept a7 (by omega)
    have A7 := S6.out.a.trans a7 (fun i hi e => by omega)
    have O8 := mkHid (show OI BB (w7.setCell ⟨nb, 2, none⟩ (.slice ad l7.length cp)) (.slice ad l7.length cp) l7 from ownsRow_apart o7 (ap_set w7 nb 2 _) (fun k hk e => by have := HZB.out; omega))
    have T8 := mkHid (T7.set2 (.slice ad l7.length cp))
    have R8 := mkHid (R7.kept (ap_set w7 nb 2 (.slice ad l7.length cp)) (by omega))
    have A8 := mkHid (A7.trans (ap_set w7 nb 2 (.slice ad l7.length cp)) (fun i hi e => by omega))
    obtain ⟨ad', cp', hv8, I8'⟩ := own_ia O8.out
    simp only [Value.slice.injEq] at hv8
    obtain ⟨rfl, -, rfl⟩ := hv8
    have I8 := mkHid I8'
    have HBB2 := mkHid (show nb < BB by have := HZB.out; omega)
    have HQZ := mkHid (show w.heap.size ≤ q ∧ q < nb from ⟨hz6.1, hz6.2.1⟩)
    have LO := mkHid (losterr_any _ _ ad cp l7 I8.out)
    rw [HF.out] at LO
    clear c0 c1 c2 f0 f1 f2
    obtain ⟨c0, c1, c2⟩ := T7.c
    obtain ⟨f0, f1, f2⟩ := T7.f
    clear hl7 o7 a7 hz6 T7 R7 A7 I8' GL S6
    rw [HN.out] at O8 T8 R8 A8 I8 LO ⊢
    go_wp2_with fail
    refine (LO.out).mono ?_
    rintro e w8 ⟨rfl, hw8⟩
    have HW8 := mkHid hw8.symm
    clear hw8
    rw [HW8.out] at O8 T8 R8 A8 I8
    clear c0 c1 c2 f0 f1 f2 LO
    by_cases hF : F = 0
    · subst hF
      have DR := mkHid (HDR.out rfl)
      obtain ⟨c0, c1, c2⟩ := T8.out.c
      obtain ⟨f0, f1, f2⟩ := R8.out.f
      obtain ⟨b0, b1, b2⟩ := R8.out.c
      go_wp2
      have dd := put3_is R8.out (.int .u32 sd) (.int .u32 md) (.slice ad n cp)
      have ap := put3_ap w8 q (.int .u32 sd) (.int .u32 md) (.slice ad n cp)
      have o10 := ownsRow_apart O8.out ap (by intro k hk e; have := HBB2.out; have := HQZ.out; omega)
      obtain ⟨_, _, hv1, ia1⟩ := own_ia o10
      simp only [Value.slice.injEq] at hv1
      obtain ⟨rfl, _, rfl⟩ := hv1
      refine bodyPost_ret (res13 _ rfl dd) rfl ⟨⟨ad, cp, ?_, by rw [DR.out]; exact ia1⟩, ?_⟩
      · rw [DR.out, HDF.out]
        simp only
        rw [HN.out]
        rfl
      · exact (A8.out.trans ap (fun i hi e => by have := HQZ.out; omega)).belowZ
    · have BW := mkHid (show Bw w w8 q from ⟨R8.out, A8.out, HQZ.out.1⟩)
      obtain ⟨f0, f1, f2⟩ := BW.out.r.f
      obtain ⟨b0, b1, b2⟩ := BW.out.r.c
      go_wp2
      exact BW.out.no HDF.out hF _ rfl rfl _ rfl
  · have HDE := mkHid (show decE s = E by rw [decE_len (by rw [HE.out]; exact hE), HE.out])
    obtain ⟨f0, f1, f2⟩ := BW0.out.r.f
    obtain ⟨b0, b1, b2⟩ := BW0.out.r.c
    go_enter Try.func13, Try.ntmps13
    go_wp2_with fail
    rw [HW.out, HQ.out]
    refine (LE.out _).mono ?_
    rintro e w1 ⟨rfl, rfl⟩
    go_wp2
    exact BW0.out.no HDE.out hE _ rfl rfl _ rfl
end Go.Proofs.Ytmnpghelglohlaa
