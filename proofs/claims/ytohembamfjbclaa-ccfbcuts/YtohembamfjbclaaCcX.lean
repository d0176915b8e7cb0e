/-
  What the reference's Decode hands back: the walk.
-/
import Derived.Test.YtohembamfjbclaaCcU
namespace Go.Proofs.Ytohembamfjbclaa
open Go.RowKit

/-- Where the loop over a source's packets stands. -/
structure Iw (w7 wr : World) (rb bb : Nat) (s : ByteArray) (p : Nat) (ss f : Int) (ma : Option Addr) (k mc : Nat) (ml : List Mt) : Prop where
  rd : Rd 88 wr rb s (some p)
  b : wr.heap[bb]? = some (.cells #[.int .u32 ss, .int .i64 f, .slice ma k mc] 44 (0, 0))
  ow : wr.ownsRow (bb + 1) 47 3 (.slice ma k mc) ml.length (mC ml)
  a : Apart (· = rb) w7 wr
  z : rb < w7.heap.size ∧ w7.heap.size ≤ bb
theorem Iw.move {w7 wr w2 : World} {rb bb : Nat} {s : ByteArray} {p p2 : Nat} {ss f : Int} {ma : Option Addr} {k mc : Nat} {ml : List Mt} (h : Iw w7 wr rb bb s p ss f ma k mc ml) (ha : Apart (· = rb) wr w2) (hr : Rd 88 w2 rb s (some p2)) : Iw w7 w2 rb bb s p2 ss f ma k mc ml := by
  obtain ⟨z0, z1⟩ := h.z
  exact ⟨hr, ha.heap h.b (by omega), ownsRow_apart h.ow ha (by intro j hj e; omega), h.a.trans ha (fun _ _ h => h), h.z⟩
theorem Iw.alloc {w7 wr : World} {rb bb : Nat} {s : ByteArray} {p : Nat} {ss f : Int} {ma : Option Addr} {k mc : Nat} {ml : List Mt} (h : Iw w7 wr rb bb s p ss f ma k mc ml) (o : Obj) : Iw w7 (wr.alloc o) rb bb s p ss f ma k mc ml :=
  h.move ((Apart.refl _ _).alloc o) (h.rd.kept ((Apart.refl (fun _ => False) wr).alloc o) (fun h => h))
theorem Iw.drewN {w7 wr : World} {rb bb : Nat} {s : ByteArray} {p : Nat} {ss f : Int} {ma : Option Addr} {k mc : Nat} {ml : List Mt} (h : Iw w7 wr rb bb s p ss f ma k mc ml) (n : Nat) : Iw w7 (wr.drewN n) rb bb s p ss f ma k mc ml :=
  h.move ((Apart.refl _ _).drewN n) (drew_rd n h.rd)
/-- A packet more. -/
theorem Iw.app {w7 wr w3 : World} {rb bb : Nat} {s : ByteArray} {p : Nat} {ss f : Int} {ma va3 : Option Addr} {k mc vc3 : Nat} {ml : List Mt} {m : Mt} (h : Iw w7 wr rb bb s p ss f ma k mc ml) (hk : ml.length = k)
    (ho : w3.ownsRow (bb + 1) 47 3 (.slice va3 (k + 1) vc3) (k + 1) (mC ml ++ [.bool m.g, .int .i64 m.e, .int .i64 m.a])) (hg : wr.grownBy w3 (Value.slice ma k mc).ownBlock) :
    Iw w7 (w3.setCell ⟨bb, 2, none⟩ (.slice va3 (k + 1) vc3)) rb bb s p ss f va3 (k + 1) vc3 (ml ++ [m]) := by
  obtain ⟨z0, z1⟩ := h.z
  have A : Apart (fun j => (Value.slice ma k mc).ownBlock = some j) wr w3 := Apart.grown (Apart.refl _ _) hg (fun _ _ e => e)
  have L : ∀ j, (Value.slice ma k mc).ownBlock = some j → bb + 1 ≤ j := fun j e => (h.ow.lt j e).1
  have S := ap_set w3 bb 2 (.slice va3 (k + 1) vc3)
  have e : mC ml ++ [.bool m.g, .int .i64 m.e, .int .i64 m.a] = mC (ml ++ [m]) := by rw [mC_app]; rfl
  rw [e] at ho
  refine ⟨(h.rd.kept A (fun e => by have := L rb e; omega)).kept S (by omega), set2 (A.heap h.b (fun e => by have := L bb e; omega)) _, ?_, ?_, h.z⟩
  · rw [List.length_append, hk]
    exact ownsRow_apart ho S (by intro j hj e; omega)
  · exact (h.a.trans A (fun i hi e => by have := L i e; omega)).trans S (fun i hi e => by omega)
theorem Iw.nb {w7 wr w3 : World} {rb bb : Nat} {s : ByteArray} {p : Nat} {ss f : Int} {ma : Option Addr} {k mc : Nat} {ml : List Mt} (h : Iw w7 wr rb bb s p ss f ma k mc ml) (hg : wr.grownBy w3 (Value.slice ma k mc).ownBlock) :
    w3.heap[bb]? = some (.cells #[.int .u32 ss, .int .i64 f, .slice ma k mc] 44 (0, 0)) := by
  have A : Apart (fun j => (Value.slice ma k mc).ownBlock = some j) wr w3 := Apart.grown (Apart.refl _ _) hg (fun _ _ e => e)
  exact A.heap h.b (fun e => by have := (h.ow.lt bb e).1; omega)
theorem Dw.nb {w wr w3 : World} {q rb ob B : Nat} {s : ByteArray} {p : Nat} {g0 : Int} {va : Option Addr} {n vc : Nat} {acc : List Kx} (h : Dw w wr q rb ob B s p g0 va n vc acc) (o : Obj) (hg : (wr.alloc o).grownBy w3 (Value.slice va n vc).ownBlock) :
    w3.heap[ob]? = some (.cells #[.int .u32 g0, .slice va n vc, .int .u32 0] 25 (0, 0)) := by
  have A : Apart (fun j => (Value.slice va n vc).ownBlock = some j) wr w3 := Apart.grown ((Apart.refl _ _).alloc o) hg (fun _ _ e => e)
  exact A.heap h.o (fun e => by have := (h.ow.lt ob e).1; have := h.z; omega)
/-- A source more. -/
theorem Dw.app {w w7 wr w3 : World} {q rb ob B bb : Nat} {s : ByteArray} {p0 p : Nat} {g0 : Int} {va va3 : Option Addr} {n vc vc3 : Nat} {acc : List Kx} {ss f : Int} {ma : Option Addr} {M mc : Nat} {ml : List Mt}
    (D : Dw w w7 q rb ob B s p0 g0 va n vc acc) (I : Iw w7 wr rb bb s p ss f ma M mc ml) (hB : B ≤ w7.heap.size) (hn : acc.length = n) (hM : ml.length = M) (hMl : M ≤ 4096) (h0 : 0 ≤ ss) (h1 : ss < 4294967296) (o : Obj)
    (ho : w3.ownsRow B 44 3 (.slice va3 (n + 1) vc3) (n + 1) (kC acc ++ [.int .u32 ss, .int .i64 f, .slice ma M mc])) (hg : (wr.alloc o).grownBy w3 (Value.slice va n vc).ownBlock)
    (hw : ∀ k, (Value.slice va3 (n + 1) vc3).ownBlock = some k → (Value.slice va n vc).ownBlock = some k ∨ (wr.alloc o).heap.size ≤ k) :
    Dw w (w3.setCell ⟨ob, 1, none⟩ (.slice va3 (n + 1) vc3)) q rb ob B s p g0 va3 (n + 1) vc3 (acc ++ [⟨⟨ss, f, ml⟩, ma, mc⟩]) := by
  have D' := D.move I.a I.rd
  obtain ⟨z0, z1, z2, z3⟩ := D.z
  obtain ⟨i0, i1⟩ := I.z
  have L7 : ∀ j, (Value.slice va n vc).ownBlock = some j → B ≤ j ∧ j < w7.heap.size := fun j e => D.ow.lt j e
  have L8 : ∀ j, (Value.slice ma M mc).ownBlock = some j → bb + 1 ≤ j := fun j e => (I.ow.lt j e).1
  subst hM
  obtain ⟨a9, c9, hv9, mx0⟩ := own_mx (X := fun j => j < B ∨ (Value.slice va n vc).ownBlock = some j) I.ow (by unfold maxLen; omega) (by
    intro j hj e
    have := L8 j hj
    rcases e with e | e
    · omega
    · have := (L7 j e).2; omega)
  simp only [Value.slice.injEq] at hv9
  obtain ⟨rfl, _, rfl⟩ := hv9
  have A3 : Apart (fun j => (Value.slice va n vc).ownBlock = some j) wr w3 := Apart.grown ((Apart.refl _ wr).alloc o) hg (fun _ _ e => e)
  have S := ap_set w3 ob 1 (.slice va3 (n + 1) vc3)
  have hown : ∀ j, j < wr.heap.size → (Value.slice va3 (n + 1) vc3).ownBlock = some j → (Value.slice va n vc).ownBlock = some j := by
    intro j hj e
    rcases hw j e with e | e
    · exact e
    · rw [World.size_alloc] at e; omega
  have K3 := D'.kx.kept (X' := (fun j => j < B ∨ (Value.slice va3 (n + 1) vc3).ownBlock = some j)) A3 (fun _ _ e => .inr e) (fun j hj e => e.imp id (hown j hj))
  have mx3 := mx0.kept (X' := (fun j => j < B ∨ (Value.slice va3 (n + 1) vc3).ownBlock = some j)) A3 (fun _ _ e => .inr e) (fun j hj e => e.imp id (hown j hj))
  have K4 := K3.snoc ⟨⟨ss, f, ml⟩, ma, mc⟩ mx3 h0 h1
  have HPQ : kC acc ++ [.int .u32 ss, .int .i64 f, .slice ma ml.length mc] = kC (acc ++ [(⟨⟨ss, f, ml⟩, ma, mc⟩ : Kx)]) := by rw [kC_app]; rfl
  rw [HPQ] at ho
  refine ⟨(D'.rd.kept A3 (fun e => by have := (L7 rb e).1; omega)).kept S (by omega), set1 (A3.heap D'.o (fun e => by have := (L7 ob e).1; omega)) _, S.heap (A3.heap D'.r (fun e => by have := (L7 q e).1; omega)) (by omega), ?_, ?_, ?_, D.z⟩
  · rw [List.length_append, hn]
    exact ownsRow_apart ho S (by intro j hj e; omega)
  · exact K4.kept S (fun j _ e => .inl (by omega)) (fun _ _ h => h)
  · exact (D'.a.trans A3 (fun i hi e => by have := (L7 i e).1; omega)).trans S (fun i hi e => by omega)
theorem decE_2 {s : ByteArray} (h : 65536 < s.size) : decE s = 2 := by
  have e : lenE s.size = 2 := by unfold lenE; rw [if_pos h]
  rw [decE_len (by rw [e]; decide), e]
theorem decE_90 {s : ByteArray} (h : ¬ 65536 < s.size) (h1 : ¬ s.size % 4 = 0) : decE s = 90 := by
  have e : lenE s.size = 90 := by unfold lenE; rw [if_neg h, if_pos h1]
  rw [decE_len (by rw [e]; decide), e]
theorem decE_60 {s : ByteArray} (h : ¬ 65536 < s.size) (h1 : s.size % 4 = 0) (h2 : s.size < 8) : decE s = 60 := by
  have e : lenE s.size = 60 := by unfold lenE; rw [if_neg h, if_neg (by omega), if_pos h2]
  rw [decE_len (by rw [e]; decide), e]
theorem decL_in {s : ByteArray} (h : decE s = 0) : decL s = dL s 16 32 ∧ decSd s = gv s 0 32 ∧ decSt s = gv s (8 * s.size - 32) 32 := by
  unfold decL decSd decSt; rw [if_pos h, if_pos h, if_pos h]; exact ⟨rfl, rfl, rfl⟩
/-- What holds where the loop over the sources begins a round. -/
def Rw (w wr : World) (q rb ob B : Nat) (s : ByteArray) (g0 : Int) (p n : Nat) (va : Option Addr) (vc : Nat) (acc : List Kx) : Prop :=
  acc.length = n ∧ n ≤ 16 ∧ p % 32 = 0 ∧ p + 32 ≤ 8 * s.size ∧ dE s 16 32 = dE s (16 - n) p ∧ dL s 16 32 = acc.map (·.k) ++ dL s (16 - n) p ∧ Dw w wr q rb ob B s p g0 va n vc acc ∧ B ≤ wr.heap.size
end Go.Proofs.Ytohembamfjbclaa
