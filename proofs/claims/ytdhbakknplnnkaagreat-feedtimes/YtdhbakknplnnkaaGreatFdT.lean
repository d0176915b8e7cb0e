/-
  What was read, boxed.
-/
import Derived.Test.YtdhbakknplnnkaaGreatFdE
namespace Go.Proofs.YtdhbakknplnnkaaGreat.Fd
open Go.RowKit Go.Proofs.YtdhbakknplnnkaaGreat.Nk

/-- What was read, in block b. -/
structure Fb (T : TypeId) (w wr : World) (b : Nat) (a : Option Addr) (c : Nat) (a' : Option Addr) (c' : Nat) (R : List Rt) (A : List Int) : Prop where
  d : Bd T wr b (.slice a R.length c) (.slice a' A.length c')
  r : RA wr.heap.size wr a R
  i : IA wr.heap.size wr a' c' A
  k : Below w.heap.size w wr
section
variable {T : TypeId} {w wr w2 : World} {b : Nat} {a a' : Option Addr} {c c' : Nat} {R : List Rt} {A : List Int}
theorem Fb.next (h : Fb T w wr b a c a' c' R A) (hb : Below wr.heap.size wr w2) : Fb T w w2 b a c a' c' R A :=
  ⟨(below_apart hb).heap h.d (fun h => h), (h.r.kept hb).up hb.size, h.i.on hb, h.k.trans (hb.mono h.k.size)⟩
theorem Fb.new (T : TypeId) (hr : RA wr.heap.size wr a R) (hi : IA wr.heap.size wr a' c' A) (hk : Below w.heap.size w wr) : Fb T w (wr.alloc (.cells #[.slice a R.length c, .slice a' A.length c'] T)) wr.heap.size a c a' c' R A :=
  have hb := (Below.refl wr.heap.size wr).alloc (Nat.le_refl _) (.cells #[.slice a R.length c, .slice a' A.length c'] T)
  ⟨heap_alloc_new _ _, (hr.kept hb).up hb.size, hi.on hb, hk.trans (hb.mono hk.size)⟩
end
theorem al_below (w : World) (o : Obj) : Below w.heap.size w (w.alloc o) := (Below.refl _ _).alloc (Nat.le_refl _) o
end Go.Proofs.YtdhbakknplnnkaaGreat.Fd
