/-
  Reports in memory; what Hear tells, in plain words; what stands while it goes on.
-/
import Derived.Test.YtdojphkibgfomaaHiD
namespace Go.Proofs.Ytdojphkibgfomaa
open Go.RowKit Go.Maps

/-- A report: its number, whether it was got, when; late; marked. -/
structure Rp where
  q : Int
  g : Bool
  t : Int
  la : Bool
  ec : Bool
/-- A packet that was got: itself, when it came; late; marked. -/
structure Ak where
  s : Sn
  c : Int
  la : Bool
  ec : Bool
def mk (s : Sn) (r : Rp) : Ak := ⟨s, r.t, r.la, r.ec⟩
def aE (a : Ak) : List Value := [.int .i64 a.s.1, .int .i64 a.s.2.1, .int .i64 a.s.2.2, .int .i64 a.c, .bool a.la, .bool a.ec]
def aC (l : List Ak) : List Value := l.flatMap aE
@[simp] theorem aE_len (s : Ak) : (aE s).length = 6 := rfl
@[simp] theorem aC_len (l : List Ak) : (aC l).length = l.length * 6 := by
  induction l with
  | nil => rfl
  | cons s l ih => show (aE s ++ aC l).length = _; rw [List.length_append, ih, aE_len, List.length_cons]; omega
theorem aC_app (l m : List Ak) : aC (l ++ m) = aC l ++ aC m := by unfold aC; rw [List.flatMap_append]
theorem aC_one (s : Ak) : aC [s] = aE s := by unfold aC; simp
theorem one_aC (l : List Ak) : ∀ u ∈ aC l, u.oneCell' = true := by
  intro u hu
  obtain ⟨s, _, hs⟩ := List.mem_flatMap.1 hu
  simp only [aE, List.mem_cons, List.not_mem_nil, or_false] at hs
  rcases hs with rfl | rfl | rfl | rfl | rfl | rfl <;> rfl

/-- What is told as got, as lost, and what is still remembered. -/
def hrG (nx : Int) : List Sn → List Rp → List Ak
  | _, [] => []
  | L, r :: rs => match fd nx L r.q with
    | none => hrG nx L rs
    | some s => if r.g then mk s r :: hrG nx (L.filter fun u => u.1 != s.1) rs else hrG nx (L.filter fun u => u.1 != s.1) rs
def hrL (nx : Int) : List Sn → List Rp → List Sn
  | _, [] => []
  | L, r :: rs => match fd nx L r.q with
    | none => hrL nx L rs
    | some s => if r.g then hrL nx (L.filter fun u => u.1 != s.1) rs else s :: hrL nx (L.filter fun u => u.1 != s.1) rs
def hrR (nx : Int) : List Sn → List Rp → List Sn
  | L, [] => L
  | L, r :: rs => match fd nx L r.q with
    | none => hrR nx L rs
    | some s => hrR nx (L.filter fun u => u.1 != s.1) rs
theorem hrG_len (nx : Int) : ∀ (l : List Rp) (L : List Sn), (hrG nx L l).length ≤ l.length
  | [], _ => by simp [hrG]
  | r :: rs, L => by
    unfold hrG
    split
    · have := hrG_len nx rs L; simp; omega
    · rename_i s _
      have := hrG_len nx rs (L.filter fun u => u.1 != s.1)
      split <;> simp <;> omega
theorem hrL_len (nx : Int) : ∀ (l : List Rp) (L : List Sn), (hrL nx L l).length ≤ l.length
  | [], _ => by simp [hrL]
  | r :: rs, L => by
    unfold hrL
    split
    · have := hrL_len nx rs L; simp; omega
    · rename_i s _
      have := hrL_len nx rs (L.filter fun u => u.1 != s.1)
      split <;> simp <;> omega
theorem drop_at {α : Type} {l : List α} {i : Nat} {r : α} (h : l[i]? = some r) : l.drop i = r :: l.drop (i + 1) := by
  obtain ⟨hi, rfl⟩ := List.getElem?_eq_some_iff.1 h
  exact List.drop_eq_getElem_cons hi
theorem step_none {nx : Int} {L : List Sn} {l : List Rp} {i : Nat} {r : Rp} (h : l[i]? = some r) (hf : fd nx L r.q = none) :
    hrG nx L (l.drop i) = hrG nx L (l.drop (i + 1)) ∧ hrL nx L (l.drop i) = hrL nx L (l.drop (i + 1)) ∧ hrR nx L (l.drop i) = hrR nx L (l.drop (i + 1)) := by
  rw [drop_at h]
  refine ⟨?_, ?_, ?_⟩ <;> simp only [hrG, hrL, hrR, hf]
theorem step_got {nx : Int} {L : List Sn} {l : List Rp} {i : Nat} {r : Rp} {s : Sn} (h : l[i]? = some r) (hf : fd nx L r.q = some s) (hg : r.g = true) :
    hrG nx L (l.drop i) = mk s r :: hrG nx (L.filter fun u => u.1 != s.1) (l.drop (i + 1)) ∧ hrL nx L (l.drop i) = hrL nx (L.filter fun u => u.1 != s.1) (l.drop (i + 1)) ∧ hrR nx L (l.drop i) = hrR nx (L.filter fun u => u.1 != s.1) (l.drop (i + 1)) := by
  rw [drop_at h]
  refine ⟨?_, ?_, ?_⟩ <;> simp only [hrG, hrL, hrR, hf, hg, if_true]
theorem step_lost {nx : Int} {L : List Sn} {l : List Rp} {i : Nat} {r : Rp} {s : Sn} (h : l[i]? = some r) (hf : fd nx L r.q = some s) (hg : r.g = false) :
    hrG nx L (l.drop i) = hrG nx (L.filter fun u => u.1 != s.1) (l.drop (i + 1)) ∧ hrL nx L (l.drop i) = s :: hrL nx (L.filter fun u => u.1 != s.1) (l.drop (i + 1)) ∧ hrR nx L (l.drop i) = hrR nx (L.filter fun u => u.1 != s.1) (l.drop (i + 1)) := by
  rw [drop_at h]
  refine ⟨?_, ?_, ?_⟩ <;> simp only [hrG, hrL, hrR, hf, hg, if_false, Bool.false_eq_true]
theorem hr_end {nx : Int} {L : List Sn} {l : List Rp} {i : Nat} (h : l.length ≤ i) : hrG nx L (l.drop i) = [] ∧ hrL nx L (l.drop i) = [] ∧ hrR nx L (l.drop i) = L := by
  rw [List.drop_eq_nil_of_le h]
  exact ⟨rfl, rfl, rfl⟩

/-- A report's cells. -/
def rE (r : Rp) : List Value := [.int .i64 r.q, .bool r.g, .int .i64 r.t, .bool r.la, .bool r.ec]
def RC (w : World) (b o : Nat) (r : Rp) : Prop := w.cell? ⟨b, o, none⟩ = some (.int .i64 r.q) ∧ w.cell? ⟨b, o + 1, none⟩ = some (.bool r.g) ∧ w.cell? ⟨b, o + 2, none⟩ = some (.int .i64 r.t) ∧ w.cell? ⟨b, o + 3, none⟩ = some (.bool r.la) ∧ w.cell? ⟨b, o + 4, none⟩ = some (.bool r.ec)
/-- Reports, in a block of which N holds. -/
def RA (N : Nat → Prop) (w : World) (a : Option Addr) (l : List Rp) : Prop :=
  l = [] ∨ ∃ b off, a = some ⟨b, off, none⟩ ∧ N b ∧ ∀ i r, l[i]? = some r → RC w b (off + i * 5) r
theorem RC.kept {w w' : World} {b o : Nat} {r : Rp} {X : Nat → Prop} (h : RC w b o r) (ha : Apart X w w') (hl : b < w.heap.size) (hx : ¬ X b) : RC w' b o r := by
  obtain ⟨c0, c1, c2, c3, c4⟩ := h
  exact ⟨by rw [ha.cell (p := ⟨b, o, none⟩) hl hx]; exact c0, by rw [ha.cell (p := ⟨b, o + 1, none⟩) hl hx]; exact c1, by rw [ha.cell (p := ⟨b, o + 2, none⟩) hl hx]; exact c2, by rw [ha.cell (p := ⟨b, o + 3, none⟩) hl hx]; exact c3, by rw [ha.cell (p := ⟨b, o + 4, none⟩) hl hx]; exact c4⟩
theorem RA.kept {N : Nat → Prop} {w w' : World} {a : Option Addr} {l : List Rp} {X : Nat → Prop} (h : RA N w a l) (ha : Apart X w w') (hx : ∀ b, N b → b < w.heap.size ∧ ¬ X b) : RA N w' a l := by
  rcases h with h0 | ⟨b, off, e, hn, hc⟩
  · exact .inl h0
  · exact .inr ⟨b, off, e, hn, fun i p hi => (hc i p hi).kept ha (hx b hn).1 (hx b hn).2⟩
theorem RA.at {N : Nat → Prop} {w : World} {a : Option Addr} {l : List Rp} (h : RA N w a l) (i : Nat) (hi : i < l.length) : ∃ b off r, a = some ⟨b, off, none⟩ ∧ N b ∧ l[i]? = some r ∧ RC w b (off + i * 5) r := by
  rcases h with h0 | ⟨b, off, e, hn, hc⟩
  · subst h0; simp at hi
  · exact ⟨b, off, l[i], e, hn, List.getElem?_eq_getElem hi, hc i _ (List.getElem?_eq_getElem hi)⟩
theorem RA.mono {N M : Nat → Prop} {w : World} {a : Option Addr} {l : List Rp} (h : RA N w a l) (hx : ∀ b, N b → M b) : RA M w a l := by
  rcases h with h0 | ⟨b, off, e, hn, hc⟩
  · exact .inl h0
  · exact .inr ⟨b, off, e, hx b hn, hc⟩

theorem info58 : ∃ i, Try.prog.info? 58 = some i ∧ i.zero = some (.agg #[.int .i64 0, .int .i64 0, .int .i64 0, .int .i64 0, .bool false, .bool false]) ∧ i.size = 6 ∧ i.bytes = 40 := by
  obtain ⟨i, hi, hh⟩ := Option.map_eq_some_iff.1 (show (Try.prog.info? 58).map (fun i => (i.zero, i.size, i.bytes)) = some (some (.agg #[.int .i64 0, .int .i64 0, .int .i64 0, .int .i64 0, .bool false, .bool false]), 6, 40) by kernel_rfl)
  simp only [Prod.mk.injEq] at hh
  exact ⟨i, hi, hh.1, hh.2.1, hh.2.2⟩
theorem info56 : ∃ i, Try.prog.info? 56 = some i ∧ i.zero = some (.agg #[.int .i64 0, .int .i64 0, .int .i64 0]) ∧ i.size = 3 ∧ i.bytes = 24 := by
  obtain ⟨i, hi, hh⟩ := Option.map_eq_some_iff.1 (show (Try.prog.info? 56).map (fun i => (i.zero, i.size, i.bytes)) = some (some (.agg #[.int .i64 0, .int .i64 0, .int .i64 0]), 3, 24) by kernel_rfl)
  simp only [Prod.mk.injEq] at hh
  exact ⟨i, hi, hh.1, hh.2.1, hh.2.2⟩
/-- A new row of one element can be read. -/
theorem src_new (w : World) (cs : List Value) (t : TypeId) (size : Nat) (h : cs.length = size) : SrcN (w.alloc (.cells cs.toArray t)) size (.slice (some ⟨w.heap.size, 0, none⟩) 1 1) 1 cs := by
  refine .inr ⟨_, 1, rfl, by omega, fun j u hj => ?_⟩
  rw [Addr.add_lit, Nat.zero_add, cell_of_row _ _ j _ t _ (heap_alloc_new _ _)]
  simpa using hj

/-- What stands while Hear goes on. -/
structure Hw (w0 : World) (hb mb : Nat) (T nx la : Int) (wr : World) (vg vl : Value) (ag : List Ak) (al : List Sn) (L : List Sn) : Prop where
  hs : Hs wr hb mb T nx la L
  ok : Ok nx la L
  og : wr.ownsRow w0.heap.size 58 6 vg ag.length (aC ag)
  ol : wr.ownsRow w0.heap.size 56 3 vl al.length (sC al)
  ne : ∀ k, vg.ownBlock = some k → vl.ownBlock ≠ some k
  ap : Apart (fun k => k = hb ∨ k = mb) w0 wr
  lt : hb < w0.heap.size ∧ mb < w0.heap.size
section
variable {w0 : World} {hb mb : Nat} {T nx la : Int} {wr w2 : World} {vg vl v2 : Value} {ag : List Ak} {al L L2 : List Sn}
theorem Hw.on (h : Hw w0 hb mb T nx la wr vg vl ag al L) (a : Apart (fun _ => False) wr w2) : Hw w0 hb mb T nx la w2 vg vl ag al L :=
  ⟨h.hs.kept a (fun h => h) (fun h => h), h.ok, ownsRow_apart2 h.og a (fun _ _ h => h), ownsRow_apart2 h.ol a (fun _ _ h => h), h.ne, h.ap.trans a (fun _ _ h => h.elim), h.lt⟩
theorem Hw.less (h : Hw w0 hb mb T nx la wr vg vl ag al L) (hs : Hs w2 hb mb T nx la L2) (ok : Ok nx la L2) (a : Apart (fun k => k = hb ∨ k = mb) wr w2) : Hw w0 hb mb T nx la w2 vg vl ag al L2 := by
  have hlt := h.lt
  exact ⟨hs, ok, ownsRow_apart2 h.og a (fun k hk e => by have := (h.og.lt k hk).1; omega), ownsRow_apart2 h.ol a (fun k hk e => by have := (h.ol.lt k hk).1; omega), h.ne, h.ap.trans a (fun _ _ h => h), h.lt⟩
theorem grown_apart {row : Option Nat} (g : wr.grownBy w2 row) : Apart (fun k => row = some k) wr w2 := ⟨g.os, g.tape, g.output, g.size, fun k hk hx => g.block k hk (fun e => hx e.symm)⟩
theorem Hw.got (h : Hw w0 hb mb T nx la wr vg vl ag al L) {n : Nat} {a : Ak} (hown : w2.ownsRow w0.heap.size 58 6 v2 (n + 1) (aC ag ++ aE a)) (hn : n = ag.length) (hg : wr.grownBy w2 vg.ownBlock) (hx : ∀ k, v2.ownBlock = some k → vg.ownBlock = some k ∨ wr.heap.size ≤ k) :
    Hw w0 hb mb T nx la w2 v2 vl (ag ++ [a]) al L := by
  have hlt := h.lt
  have A := grown_apart hg
  subst hn
  refine ⟨h.hs.kept A (fun e => by have := (h.og.lt _ e).1; omega) (fun e => by have := (h.og.lt _ e).1; omega), h.ok, ?_, ownsRow_apart2 h.ol A (fun k hk e => h.ne k e hk), ?_, h.ap.trans A (fun i hi e => by have := (h.og.lt _ e).1; omega), h.lt⟩
  · rw [aC_app, aC_one, List.length_append]; exact hown
  · intro k hk hk'
    rcases hx k hk with e | e
    · exact h.ne k e hk'
    · have := (h.ol.lt k hk').2; omega
theorem Hw.lost (h : Hw w0 hb mb T nx la wr vg vl ag al L) {n : Nat} {a : Sn} (hown : w2.ownsRow w0.heap.size 56 3 v2 (n + 1) (sC al ++ sE a)) (hn : n = al.length) (hg : wr.grownBy w2 vl.ownBlock) (hx : ∀ k, v2.ownBlock = some k → vl.ownBlock = some k ∨ wr.heap.size ≤ k) :
    Hw w0 hb mb T nx la w2 vg v2 ag (al ++ [a]) L := by
  have hlt := h.lt
  have A := grown_apart hg
  subst hn
  refine ⟨h.hs.kept A (fun e => by have := (h.ol.lt _ e).1; omega) (fun e => by have := (h.ol.lt _ e).1; omega), h.ok, ownsRow_apart2 h.og A (fun k hk e => h.ne k hk e), ?_, ?_, h.ap.trans A (fun i hi e => by have := (h.ol.lt _ e).1; omega), h.lt⟩
  · rw [sC_app, sC_one, List.length_append]; exact hown
  · intro k hk hk'
    rcases hx k hk' with e | e
    · exact h.ne k hk e
    · have := (h.og.lt k hk).2; omega
end
theorem Hw.start {w : World} {hb mb : Nat} {T nx la : Int} {L : List Sn} (h : Hs w hb mb T nx la L) (ok : Ok nx la L) : Hw w hb mb T nx la w (.slice none 0 0) (.slice none 0 0) [] [] L :=
  ⟨h, ok, World.ownsRow_nil _ _ _ _, World.ownsRow_nil _ _ _ _, by simp [Value.ownBlock], Apart.refl _ _, h.lt⟩
end Go.Proofs.Ytdojphkibgfomaa
