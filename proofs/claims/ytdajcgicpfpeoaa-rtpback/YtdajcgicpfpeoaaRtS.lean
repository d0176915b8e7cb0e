/-
  What the statements' walks share: a header in its box, a header that is not large, the size of a text.
-/
import Derived.Test.YtdajcgicpfpeoaaRtR
namespace Go.Proofs.Ytdajcgicpfpeoaa
open Go.RowKit

/-- A header laid into its box. -/
theorem boxed (w : World) (mk : Bool) (ty sq tm ss : Int) (v5 v6 : Value) : ∃ (bx : Nat) (W : World), Hid (w.heap.size = bx) ∧ Hid (w.alloc (.cells #[.bool mk, .int .i64 ty, .int .i64 sq, .int .u32 tm, .int .u32 ss, v5, v6] 26) = W) ∧ Hid (Hd W bx mk ty sq tm ss v5 v6) ∧ Hid (Apart (fun _ => False) w W) :=
  ⟨_, _, rfl, rfl, hdr_new w mk ty sq tm ss v5 v6, (Apart.refl _ _).alloc _⟩
theorem small_of {ns ne : Nat} {D : Nat → ByteArray} (h : lgB ns ne D = false) : ns ≤ 100 ∧ ne ≤ 100 := by
  have := of_decide_eq_false h
  unfold Large at this
  omega
/-- What a world keeps of a header that came in. -/
structure Hk (w0 w : World) (bx : Nat) (mk : Bool) (ty sq tm ss : Int) (sa : Option Addr) (ns sc : Nat) (S : Nat → Int) (ea : Option Addr) (ne ec : Nat) (I : Nat → Int) (D : Nat → ByteArray) : Prop where
  a : Apart (fun _ => False) w0 w
  d : Hd w bx mk ty sq tm ss (.slice sa ns sc) (.slice ea ne ec)
  s : SA w.heap.size w sa ns S
  x : XA w.heap.size w ea ne I D
theorem Hk.next {w0 w w' : World} {bx : Nat} {mk : Bool} {ty sq tm ss : Int} {sa : Option Addr} {ns sc : Nat} {S : Nat → Int} {ea : Option Addr} {ne ec : Nat} {I : Nat → Int} {D : Nat → ByteArray} (h : Hk w0 w bx mk ty sq tm ss sa ns sc S ea ne ec I D) (hb : Below w.heap.size w w') :
    Hk w0 w' bx mk ty sq tm ss sa ns sc S ea ne ec I D :=
  ⟨h.a.trans (apart_below hb) (fun _ _ h => h), h.d.kept (apart_below hb) (fun h => h), (h.s.kept hb).up hb.size, (h.x.kept hb).up hb.size⟩
theorem Hk.alloc {w0 w : World} {bx : Nat} {mk : Bool} {ty sq tm ss : Int} {sa : Option Addr} {ns sc : Nat} {S : Nat → Int} {ea : Option Addr} {ne ec : Nat} {I : Nat → Int} {D : Nat → ByteArray} (h : Hk w0 w bx mk ty sq tm ss sa ns sc S ea ne ec I D) (o : Obj) :
    Hk w0 (w.alloc o) bx mk ty sq tm ss sa ns sc S ea ne ec I D := h.next ((Below.refl _ _).alloc (Nat.le_refl _) o)
/-- The first box. -/
theorem hk_box {w : World} {mk : Bool} {ty sq tm ss : Int} {sa : Option Addr} {ns sc : Nat} {S : Nat → Int} {ea : Option Addr} {ne ec : Nat} {I : Nat → Int} {D : Nat → ByteArray} (h : HIn w tm ss sa ns S ea ne I D) :
    Hk w (w.alloc (.cells #[.bool mk, .int .i64 ty, .int .i64 sq, .int .u32 tm, .int .u32 ss, .slice sa ns sc, .slice ea ne ec] 26)) w.heap.size mk ty sq tm ss sa ns sc S ea ne ec I D :=
  ⟨(Apart.refl _ _).alloc _, hdr_new w mk ty sq tm ss _ _, h.s.alloc _, h.x.alloc _⟩
/-- Another header, laid into a box of its own. -/
theorem hk_new {w0 w : World} {mk : Bool} {ty sq tm ss : Int} {sa : Option Addr} {ns sc : Nat} {S : Nat → Int} {ea : Option Addr} {ne ec : Nat} {I : Nat → Int} {D : Nat → ByteArray} (a : Apart (fun _ => False) w0 w) (s : SA w.heap.size w sa ns S) (x : XA w.heap.size w ea ne I D) :
    Hk w0 (w.alloc (.cells #[.bool mk, .int .i64 ty, .int .i64 sq, .int .u32 tm, .int .u32 ss, .slice sa ns sc, .slice ea ne ec] 26)) w.heap.size mk ty sq tm ss sa ns sc S ea ne ec I D :=
  ⟨a.alloc _, hdr_new w mk ty sq tm ss _ _, s.alloc _, x.alloc _⟩
end Go.Proofs.Ytdajcgicpfpeoaa
