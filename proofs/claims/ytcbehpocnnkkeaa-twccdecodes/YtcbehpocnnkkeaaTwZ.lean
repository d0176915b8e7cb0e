/-
  Where the reference's Decode stands.
-/
import Derived.Test.YtcbehpocnnkkeaaTwC
import Derived.Test.YtcbehpocnnkkeaaTwI
import Derived.Test.YtcbehpocnnkkeaaBiQ
import Derived.Deep.LoopGhost
import Derived.Deep.RegionLaw
import Derived.Deep.AppendLies
namespace Go.Proofs.Ytcbehpocnnkkeaa
open Go.RowKit

theorem rchunk_any (s : ByteArray) (p n : Nat) (hn : 0 < n) (hn4 : n ≤ 4096) (w : World) :
    Calls Try.prog 44 #[.int .u32 (gv s p 16 : Int), .int .i64 (n : Int)] w (RcPost (ckD s p n) w) := by
  have h0 := gv_lt s p 1
  have h1 := gv_lt s (p + 1) 1
  simp only [Nat.pow_one] at h0 h1
  by_cases e0 : gv s p 1 = 0
  · exact rchunk_run s p n hn hn4 e0 w
  · by_cases e1 : gv s (p + 1) 1 = 0
    · have := rchunk_row 14 1 (.inl ⟨rfl, rfl⟩) s p n hn hn4 (by omega) (by omega) w
      unfold ckD
      rw [if_neg e0, if_pos e1]
      exact this
    · have := rchunk_row 7 2 (.inr ⟨rfl, rfl⟩) s p n hn hn4 (by omega) (by omega) w
      unfold ckD
      rw [if_neg e0, if_neg e1]
      exact this
/-- What a chunk came out as. -/
def RcRes (o : Option (List Int)) (w : World) (v : Value) (E : Int) : Prop :=
  (∃ (l : List Int) (a : Option Addr) (c : Nat), o = some l ∧ v = .slice a l.length c ∧ E = 0 ∧ SrcN w 1 (.slice a l.length c) l.length (IC l)) ∨ (o = none ∧ v = .slice none 0 0 ∧ E = 100)
theorem rchunk_at (s : ByteArray) (p n : Nat) (hn : 0 < n) (hn4 : n ≤ 4096) {y : Int} {o : Option (List Int)} (hy : (gv s p 16 : Int) = y) (ho : ckD s p n = o) (w : World) :
    Calls Try.prog 44 #[.int .u32 y, .int .i64 (n : Int)] w fun e w' => ∃ v E, e = .returned (.tuple #[v, .int .i64 E]) ∧ RcRes o w' v E ∧ Below w.heap.size w w' := by
  subst hy ho
  refine (rchunk_any s p n hn hn4 w).mono ?_
  rintro e w' ⟨(⟨l, a, c, h, rfl, h2⟩ | ⟨h, rfl⟩), hb⟩
  · exact ⟨_, _, rfl, .inl ⟨l, a, c, h, rfl, rfl, h2⟩, hb⟩
  · exact ⟨_, _, rfl, .inr ⟨h, rfl, rfl⟩, hb⟩
theorem res17 {W : World} {bx : Nat} {sd md fi ba co : Int} {a a' : Option Addr} {n c n' c' : Nat} (tmps : Array Value) (h2 : tmps.getD 2 undef = .pointer (some ⟨bx, 0, none⟩)) (hd : Td W bx (.int .u32 sd) (.int .u32 md) (.int .i64 fi) (.int .i64 ba) (.int .i64 co) (.slice a n c) (.slice a' n' c')) :
    (results Try.f17 tmps).run Try.prog W = .ok (.tuple #[tv sd md fi ba co (.slice a n c) (.slice a' n' c'), tmps.getD 3 undef]) W := by
  obtain ⟨c0, c1, c2, c3, c4, c5, c6⟩ := hd.c
  clear hd
  have h2' : tmps[2]?.getD undef = .pointer (some ⟨bx, 0, none⟩) := by rw [← h2]; simp
  unfold tv
  simp [results, Try.results17, h2', c0, c1, c2, c3, c4, c5, c6, go_sem]
/-- The end where something is wrong. -/
theorem Bw.rno {w wr : World} {q : Nat} {s : ByteArray} (h : Bw w wr q) {E : Int} (hE : decE s = E) (h0 : ¬ E = 0) (tmps : Array Value) (h2 : tmps.getD 2 undef = .pointer (some ⟨q, 0, none⟩)) (h3 : tmps.getD 3 undef = .int .i64 E) (d : List Deferred) (hd : d = []) :
    bodyPost Try.prog Try.f17 (DecPost s w) Exit.ret { tmps := tmps, defers := d } (put7 wr q (.int .u32 0) (.int .u32 0) (.int .i64 0) (.int .i64 0) (.int .i64 0) (.slice none 0 0) (.slice none 0 0)) := by
  subst hd
  refine bodyPost_ret (res17 _ h2 (put7_is h.r _ _ _ _ _ _ _)) rfl (dec_none (by rw [hE]; exact h0) (by rw [hE, h3]) ?_)
  exact (h.a.trans (put7_ap wr q _ _ _ _ _ _ _) (fun i hi e => by have := h.z; omega)).belowZ
/-- Where the loop over the chunks stands: the result, the reader, what is put together. -/
structure Fw (w wr : World) (q rb ob B : Nat) (s : ByteArray) (p : Nat) (v0 v1 v2 v3 v4 : Value) (va : Option Addr) (n vc : Nat) (st : List Int) : Prop where
  rd : Rd 89 wr rb s (some p)
  o : Td wr ob v0 v1 v2 v3 v4 (.slice va n vc) (.slice none 0 0)
  r : Td wr q (.int .u32 0) (.int .u32 0) (.int .i64 0) (.int .i64 0) (.int .i64 0) (.slice none 0 0) (.slice none 0 0)
  ow : wr.ownsRow B 3 1 (.slice va n vc) n (IC st)
  a : Apart (fun _ => False) w wr
  z : w.heap.size ≤ q ∧ q < rb ∧ rb < ob ∧ ob < B ∧ B ≤ wr.heap.size
section
variable {w wr w2 : World} {q rb ob B : Nat} {s : ByteArray} {p p2 : Nat} {v0 v1 v2 v3 v4 : Value} {va : Option Addr} {n vc : Nat} {st : List Int}
theorem Fw.move (h : Fw w wr q rb ob B s p v0 v1 v2 v3 v4 va n vc st) (ha : Apart (· = rb) wr w2) (hr : Rd 89 w2 rb s (some p2)) : Fw w w2 q rb ob B s p2 v0 v1 v2 v3 v4 va n vc st := by
  obtain ⟨z0, z1, z2, z3, z4⟩ := h.z
  exact ⟨hr, h.o.kept ha (by omega), h.r.kept ha (by omega), ownsRow_apart h.ow ha (by intro k hk e; omega), h.a.trans ha (fun i hi e => by omega), z0, z1, z2, z3, Nat.le_trans z4 ha.size⟩
theorem Fw.drewN (h : Fw w wr q rb ob B s p v0 v1 v2 v3 v4 va n vc st) (k : Nat) : Fw w (wr.drewN k) q rb ob B s p v0 v1 v2 v3 v4 va n vc st :=
  h.move ((Apart.refl _ _).drewN k) (drew_rd k h.rd)
theorem Fw.on (h : Fw w wr q rb ob B s p v0 v1 v2 v3 v4 va n vc st) (hb : Below wr.heap.size wr w2) : Fw w w2 q rb ob B s p v0 v1 v2 v3 v4 va n vc st :=
  h.move ((below_apart hb).mono (fun _ _ h => h.elim)) (h.rd.kept (below_apart hb) (fun h => h))
theorem Fw.bad (h : Fw w wr q rb ob B s p v0 v1 v2 v3 v4 va n vc st) : Bw w wr q := ⟨h.r, h.a, h.z.1⟩
theorem Fw.nb (h : Fw w wr q rb ob B s p v0 v1 v2 v3 v4 va n vc st) (hg : wr.grownBy w2 (Value.slice va n vc).ownBlock) : Td w2 ob v0 v1 v2 v3 v4 (.slice va n vc) (.slice none 0 0) :=
  h.o.kept (Apart.grown (X := fun j => (Value.slice va n vc).ownBlock = some j) (Apart.refl _ _) hg (fun _ _ e => e)) (fun e => by have := (h.ow.lt ob e).1; have := h.z; omega)
theorem Fw.app {va3 : Option Addr} {n3 vc3 : Nat} {l : List Int} (h : Fw w wr q rb ob B s p v0 v1 v2 v3 v4 va n vc st) (ho : w2.ownsRow B 3 1 (.slice va3 n3 vc3) n3 (IC st ++ IC l)) (hg : wr.grownBy w2 (Value.slice va n vc).ownBlock) :
    Fw w (w2.setCell ⟨ob, 5, none⟩ (.slice va3 n3 vc3)) q rb ob B s p v0 v1 v2 v3 v4 va3 n3 vc3 (st ++ l) := by
  obtain ⟨z0, z1, z2, z3, z4⟩ := h.z
  have A : Apart (fun j => (Value.slice va n vc).ownBlock = some j) wr w2 := Apart.grown (Apart.refl _ _) hg (fun _ _ e => e)
  have L : ∀ j, (Value.slice va n vc).ownBlock = some j → B ≤ j := fun j e => (h.ow.lt j e).1
  have S := ap_set w2 ob 5 (.slice va3 n3 vc3)
  rw [← IC_app] at ho
  refine ⟨(h.rd.kept A (fun e => by have := L rb e; omega)).kept S (by omega), (h.o.kept A (fun e => by have := L ob e; omega)).set5 _, (h.r.kept A (fun e => by have := L q e; omega)).kept S (by omega), ownsRow_apart ho S (by intro k hk e; omega), ?_, z0, z1, z2, z3, ?_⟩
  · exact (h.a.trans A (fun i hi e => by have := L i e; omega)).trans S (fun i hi e => by omega)
  · have := A.size; simp; omega
end
/-- Where the loop over the Deltas stands. -/
structure Gw (w wr : World) (q rb ob B D : Nat) (s : ByteArray) (p : Nat) (v0 v1 v2 v3 v4 : Value) (va : Option Addr) (n vc : Nat) (st : List Int) (da : Option Addr) (m dc : Nat) (dl : List Int) : Prop where
  rd : Rd 89 wr rb s (some p)
  o : Td wr ob v0 v1 v2 v3 v4 (.slice va n vc) (.slice da m dc)
  r : Td wr q (.int .u32 0) (.int .u32 0) (.int .i64 0) (.int .i64 0) (.int .i64 0) (.slice none 0 0) (.slice none 0 0)
  ow : wr.ownsRow B 3 1 (.slice va n vc) n (IC st)
  sl : ∀ k, (Value.slice va n vc).ownBlock = some k → k < D
  od : wr.ownsRow D 3 1 (.slice da m dc) m (IC dl)
  a : Apart (fun _ => False) w wr
  z : w.heap.size ≤ q ∧ q < rb ∧ rb < ob ∧ ob < B ∧ B ≤ D ∧ D ≤ wr.heap.size
theorem Fw.gw {w wr : World} {q rb ob B : Nat} {s : ByteArray} {p : Nat} {v0 v1 v2 v3 v4 : Value} {va : Option Addr} {n vc : Nat} {st : List Int} (h : Fw w wr q rb ob B s p v0 v1 v2 v3 v4 va n vc st) :
    Gw w wr q rb ob B wr.heap.size s p v0 v1 v2 v3 v4 va n vc st none 0 0 [] :=
  ⟨h.rd, h.o, h.r, h.ow, fun k e => (h.ow.lt k e).2, World.ownsRow_nil _ _ _ _, h.a, h.z.1, h.z.2.1, h.z.2.2.1, h.z.2.2.2.1, h.z.2.2.2.2, Nat.le_refl _⟩
section
variable {w wr w2 : World} {q rb ob B D : Nat} {s : ByteArray} {p p2 : Nat} {v0 v1 v2 v3 v4 : Value} {va : Option Addr} {n vc : Nat} {st : List Int} {da : Option Addr} {m dc : Nat} {dl : List Int}
theorem Gw.move (h : Gw w wr q rb ob B D s p v0 v1 v2 v3 v4 va n vc st da m dc dl) (ha : Apart (· = rb) wr w2) (hr : Rd 89 w2 rb s (some p2)) : Gw w w2 q rb ob B D s p2 v0 v1 v2 v3 v4 va n vc st da m dc dl := by
  obtain ⟨z0, z1, z2, z3, z4, z5⟩ := h.z
  exact ⟨hr, h.o.kept ha (by omega), h.r.kept ha (by omega), ownsRow_apart h.ow ha (by intro k hk e; omega), h.sl, ownsRow_apart h.od ha (by intro k hk e; omega), h.a.trans ha (fun i hi e => by omega), z0, z1, z2, z3, z4, Nat.le_trans z5 ha.size⟩
theorem Gw.drewN (h : Gw w wr q rb ob B D s p v0 v1 v2 v3 v4 va n vc st da m dc dl) (k : Nat) : Gw w (wr.drewN k) q rb ob B D s p v0 v1 v2 v3 v4 va n vc st da m dc dl :=
  h.move ((Apart.refl _ _).drewN k) (drew_rd k h.rd)
theorem Gw.drew (h : Gw w wr q rb ob B D s p v0 v1 v2 v3 v4 va n vc st da m dc dl) : Gw w wr.drew q rb ob B D s p v0 v1 v2 v3 v4 va n vc st da m dc dl :=
  h.move ((Apart.refl _ _).drew) (h.rd.kept ((Apart.refl (fun _ => False) _).drew) (fun h => h))
theorem Gw.alloc (h : Gw w wr q rb ob B D s p v0 v1 v2 v3 v4 va n vc st da m dc dl) (u : Obj) : Gw w (wr.alloc u) q rb ob B D s p v0 v1 v2 v3 v4 va n vc st da m dc dl :=
  h.move ((Apart.refl _ _).alloc u) (h.rd.kept ((Apart.refl (fun _ => False) _).alloc u) (fun h => h))
theorem Gw.bad (h : Gw w wr q rb ob B D s p v0 v1 v2 v3 v4 va n vc st da m dc dl) : Bw w wr q := ⟨h.r, h.a, h.z.1⟩
theorem Gw.ia (h : Gw w wr q rb ob B D s p v0 v1 v2 v3 v4 va n vc st da m dc dl) : st.length = n ∧ IA wr.heap.size wr va vc st := by
  obtain ⟨a, c, hv, hi⟩ := own_ia h.ow
  simp only [Value.slice.injEq] at hv
  obtain ⟨rfl, h1, rfl⟩ := hv
  exact ⟨h1.symm, hi⟩
theorem Gw.ja (h : Gw w wr q rb ob B D s p v0 v1 v2 v3 v4 va n vc st da m dc dl) : dl.length = m ∧ IA wr.heap.size wr da dc dl := by
  obtain ⟨a, c, hv, hi⟩ := own_ia h.od
  simp only [Value.slice.injEq] at hv
  obtain ⟨rfl, h1, rfl⟩ := hv
  exact ⟨h1.symm, hi⟩
theorem Gw.nb (h : Gw w wr q rb ob B D s p v0 v1 v2 v3 v4 va n vc st da m dc dl) (hg : wr.grownBy w2 (Value.slice da m dc).ownBlock) : Td w2 ob v0 v1 v2 v3 v4 (.slice va n vc) (.slice da m dc) :=
  h.o.kept (Apart.grown (X := fun j => (Value.slice da m dc).ownBlock = some j) (Apart.refl _ _) hg (fun _ _ e => e)) (fun e => by have := (h.od.lt ob e).1; have := h.z; omega)
theorem Gw.app {da3 : Option Addr} {m3 dc3 : Nat} {y : Int} (h : Gw w wr q rb ob B D s p v0 v1 v2 v3 v4 va n vc st da m dc dl) (ho : w2.ownsRow D 3 1 (.slice da3 m3 dc3) m3 (IC dl ++ [.int .i64 y])) (hg : wr.grownBy w2 (Value.slice da m dc).ownBlock) :
    Gw w (w2.setCell ⟨ob, 6, none⟩ (.slice da3 m3 dc3)) q rb ob B D s p v0 v1 v2 v3 v4 va n vc st da3 m3 dc3 (dl ++ [y]) := by
  obtain ⟨z0, z1, z2, z3, z4, z5⟩ := h.z
  have A : Apart (fun j => (Value.slice da m dc).ownBlock = some j) wr w2 := Apart.grown (Apart.refl _ _) hg (fun _ _ e => e)
  have L : ∀ j, (Value.slice da m dc).ownBlock = some j → D ≤ j := fun j e => (h.od.lt j e).1
  have S := ap_set w2 ob 6 (.slice da3 m3 dc3)
  have e : IC dl ++ [.int .i64 y] = IC (dl ++ [y]) := by rw [IC_app]; rfl
  rw [e] at ho
  refine ⟨(h.rd.kept A (fun e => by have := L rb e; omega)).kept S (by omega), (h.o.kept A (fun e => by have := L ob e; omega)).set6 _, (h.r.kept A (fun e => by have := L q e; omega)).kept S (by omega), ?_, h.sl, ownsRow_apart ho S (by intro k hk e; omega), ?_, z0, z1, z2, z3, z4, ?_⟩
  · exact ownsRow_apart (ownsRow_apart2 h.ow A (fun k hk e => by have := h.sl k hk; have := L k e; omega)) S (by intro k hk e; omega)
  · exact (h.a.trans A (fun i hi e => by have := L i e; omega)).trans S (fun i hi e => by omega)
  · have := A.size; simp; omega
end
theorem stD_mod (s : ByteArray) (f : Nat) : ∀ p n, p % 8 = 0 → (stD s f p n).p % 8 = 0 := by
  induction f with
  | zero => intro p n h; exact h
  | succ f ih =>
    intro p n h
    rw [stD]
    split
    · exact h
    · split
      · exact h
      · cases ckD s p n with
        | none => exact h
        | some l => exact ih (p + 16) (n - l.length) (by omega)
theorem dlD_mod (s : ByteArray) : ∀ (st : List Int) (p : Nat), p % 8 = 0 → (dlD s p st).p % 8 = 0 := by
  intro st
  induction st with
  | nil => intro p h; exact h
  | cons x st ih =>
    intro p h
    rw [dlD]
    split
    · exact ih p h
    · split
      · exact h
      · exact ih (p + dW x) (by unfold dW; split <;> omega)
theorem dlR_mod (s : ByteArray) : (dlR s).p % 8 = 0 := dlD_mod s _ _ (stD_mod s _ 128 _ (by omega))
theorem dlD_bd (s : ByteArray) : ∀ (st : List Int) (p : Nat), p ≤ 8 * s.size → (dlD s p st).p ≤ 8 * s.size := by
  intro st
  induction st with
  | nil => intro p h; exact h
  | cons x st ih =>
    intro p h
    rw [dlD]
    split
    · exact ih p h
    · split
      · exact h
      · exact ih (p + dW x) (by omega)
end Go.Proofs.Ytcbehpocnnkkeaa
