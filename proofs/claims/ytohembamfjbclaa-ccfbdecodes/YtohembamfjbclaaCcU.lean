/-
  What the reference's Decode hands back.
-/
import Derived.Test.YtohembamfjbclaaCcF
import Derived.Test.YtohembamfjbclaaBiQ
import Derived.Deep.LoopGhost
namespace Go.Proofs.Ytohembamfjbclaa
open Go.RowKit

theorem rget_fit (b : Nat) (s : ByteArray) (hs : s.size ≤ 1000000) (p : Nat) (n : Int) (m : Nat) (e : n = m) (h1 : m ≤ 32) (h2 : p + m ≤ 8 * s.size) (w : World) (h : Rd 88 w b s (some p)) :
    Calls Try.prog 34 #[.pointer (some ⟨b, 0, none⟩), .int .i64 n] w fun e w' => e = .returned (.int .u32 (gv s p m)) ∧ Rd 88 w' b s (some (p + m)) ∧ Apart (· = b) w w' := by
  subst e
  exact rget_ok b s hs p m h1 h2 w h
theorem rleft_at (b : Nat) (s : ByteArray) (hs : s.size ≤ 1000000) (p : Nat) (w : World) (h : Rd 88 w b s (some p)) (L : Int) (hL : 8 * (s.size : Int) - p = L) :
    Calls Try.prog 35 #[.pointer (some ⟨b, 0, none⟩)] w fun e w' => e = .returned (.int .i64 L) ∧ ∃ n, w' = w.drewN n := by
  have := rleft_any b s hs (some p) w h
  have e : gleft s (some p) = L := hL
  rw [e] at this
  exact this
theorem res17 {W : World} {bx : Nat} {sd st : Int} {a : Option Addr} {n c : Nat} (tmps : Array Value) (h2 : tmps.getD 2 undef = .pointer (some ⟨bx, 0, none⟩)) (hd : W.heap[bx]? = some (.cells #[.int .u32 sd, .slice a n c, .int .u32 st] 25 (0, 0))) :
    (results Try.f17 tmps).run Try.prog W = .ok (.tuple #[rv sd a n c st, tmps.getD 3 undef]) W := by
  obtain ⟨⟨c0, c1, c2⟩, _⟩ := cells3' hd
  clear hd
  have h2' : tmps[2]?.getD undef = .pointer (some ⟨bx, 0, none⟩) := by rw [← h2]; simp
  unfold rv
  simp [results, Try.results17, h2', c0, c1, c2, go_sem]
/-- Where the reference's Decode stands: the result, the reader, what is put together. -/
structure Dw (w wr : World) (q rb ob B : Nat) (s : ByteArray) (p : Nat) (g0 : Int) (va : Option Addr) (n vc : Nat) (acc : List Kx) : Prop where
  rd : Rd 88 wr rb s (some p)
  o : wr.heap[ob]? = some (.cells #[.int .u32 g0, .slice va n vc, .int .u32 0] 25 (0, 0))
  r : wr.heap[q]? = some (.cells #[.int .u32 0, .slice none 0 0, .int .u32 0] 25 (0, 0))
  ow : wr.ownsRow B 44 3 (.slice va n vc) acc.length (kC acc)
  kx : KX (fun j => j < B ∨ (Value.slice va n vc).ownBlock = some j) wr acc
  a : Apart (fun _ => False) w wr
  z : w.heap.size ≤ q ∧ q < rb ∧ rb < ob ∧ ob < B
theorem Dw.move {w wr w2 : World} {q rb ob B : Nat} {s : ByteArray} {p p2 : Nat} {g0 : Int} {va : Option Addr} {n vc : Nat} {acc : List Kx} (h : Dw w wr q rb ob B s p g0 va n vc acc) (ha : Apart (· = rb) wr w2) (hr : Rd 88 w2 rb s (some p2)) : Dw w w2 q rb ob B s p2 g0 va n vc acc := by
  obtain ⟨z0, z1, z2, z3⟩ := h.z
  exact ⟨hr, ha.heap h.o (by omega), ha.heap h.r (by omega), ownsRow_apart h.ow ha (by intro k hk e; omega), h.kx.kept ha (fun j _ e => .inl (by omega)) (fun _ _ h => h), h.a.trans ha (fun i hi e => by omega), h.z⟩
theorem Dw.drewN {w wr : World} {q rb ob B : Nat} {s : ByteArray} {p : Nat} {g0 : Int} {va : Option Addr} {n vc : Nat} {acc : List Kx} (h : Dw w wr q rb ob B s p g0 va n vc acc) (k : Nat) : Dw w (wr.drewN k) q rb ob B s p g0 va n vc acc :=
  h.move ((Apart.refl _ _).drewN k) (drew_rd k h.rd)
/-- The end where something is wrong. -/
theorem Dw.bad {w wr : World} {q rb ob B : Nat} {s : ByteArray} {p : Nat} {g0 : Int} {va : Option Addr} {n vc : Nat} {acc : List Kx} (h : Dw w wr q rb ob B s p g0 va n vc acc) {E : Int} (hE : decE s = E) (h0 : ¬ E = 0) (tmps : Array Value) (h2 : tmps.getD 2 undef = .pointer (some ⟨q, 0, none⟩)) (h3 : tmps.getD 3 undef = .int .i64 E) (d : List Deferred) (hd : d = []) :
    bodyPost Try.prog Try.f17 (DecPost s w) Exit.ret { tmps := tmps, defers := d } (put3 wr q 0 (.int .u32 0) (.slice none 0 0) (.int .u32 0)) := by
  subst hd
  refine bodyPost_ret (res17 _ h2 (put3_is h.r (.int .u32 0) (.slice none 0 0) (.int .u32 0))) rfl (dec_none (by rw [hE]; exact h0) (by rw [hE, h3]) ?_)
  obtain ⟨z0, z1, z2, z3⟩ := h.z
  exact (h.a.trans (put3_ap wr q 0 _ _ _) (fun i hi e => by omega)).belowZ
end Go.Proofs.Ytohembamfjbclaa
