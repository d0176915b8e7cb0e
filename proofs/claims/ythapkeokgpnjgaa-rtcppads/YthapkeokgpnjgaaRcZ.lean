/-
  A last part that is padded; rows of bytes that are turned byte by byte.
-/
import Derived.Test.YthapkeokgpnjgaaRcV
import Derived.Test.YthapkeokgpnjgaaRcT
import Derived.Lib.ConvBytes
namespace Go.Proofs.Ythapkeokgpnjgaa
open Go.RowKit

/-- What pads. -/
def pads (K : Nat) : List UInt8 := List.replicate (K - 1) 0 ++ [UInt8.ofNat K]
theorem pads_len (K : Nat) (h : 0 < K) : (pads K).length = K := by simp [pads]; omega
/-- The bytes of a part that is padded. -/
def padB (p : Pt) (K : Nat) : List UInt8 := UInt8.ofNat (160 + p.c.toNat) :: UInt8.ofNat p.t.toNat :: UInt8.ofNat ((p.d.size + K) / 4 / 256) :: UInt8.ofNat ((p.d.size + K) / 4) :: (p.d.data.toList ++ pads K)
theorem pad_one {p : Pt} (h : p.ok = true) (K : Nat) (h0 : 4 ≤ K) (h1 : K ≤ 32) (h2 : K % 4 = 0) (h3 : p.d.size + K ≤ 262140) : sE (padB p K) = 0 ∧ sL (padB p K) = [p] := by
  obtain ⟨o0, o1, o2, o3, o4, o5⟩ := Pt.ok_iff.1 h
  obtain ⟨pc, pt, d⟩ := p
  simp only at *
  obtain ⟨c, rfl⟩ : ∃ c : Nat, pc = c := ⟨pc.toNat, by omega⟩
  obtain ⟨k, rfl⟩ : ∃ k : Nat, pt = k := ⟨pt.toNat, by omega⟩
  have hl : (padB ⟨c, k, d⟩ K).length = 4 + d.size + K := by
    simp only [padB, List.length_cons, List.length_append, pads_len K (by omega), toList_len]; omega
  obtain ⟨r, hr⟩ : ∃ r, r = padB ⟨c, k, d⟩ K := ⟨_, rfl⟩
  have hr2 : r = UInt8.ofNat (160 + c) :: UInt8.ofNat k :: UInt8.ofNat ((d.size + K) / 4 / 256) :: UInt8.ofNat ((d.size + K) / 4) :: (d.data.toList ++ pads K) := hr
  rw [← hr] at hl ⊢
  have b0 : bn r 0 = 160 + c := by rw [hr2, bn_zero, UInt8.toNat_ofNat']; omega
  have b1 : bn r 1 = k := by rw [hr2, bn_cons, bn_zero, UInt8.toNat_ofNat']; omega
  have b2 : bn r 2 = (d.size + K) / 4 / 256 := by rw [hr2, bn_cons, bn_cons, bn_zero, UInt8.toNat_ofNat']; omega
  have b3 : bn r 3 = (d.size + K) / 4 % 256 := by rw [hr2, bn_cons, bn_cons, bn_cons, bn_zero, UInt8.toNat_ofNat']
  have hn : hN r = d.size + K := by unfold hN; rw [b2, b3]; omega
  have hp : hP r = true := by unfold hP; rw [b0]; simp; omega
  have hk : hK r = K := by
    unfold hK
    rw [hn, show 3 + (d.size + K) = (d.size + (K - 1)) + 1 + 1 + 1 + 1 by omega, hr2, bn_cons, bn_cons, bn_cons, bn_cons]
    unfold bn pads
    rw [List.getD_eq_getElem?_getD, List.getElem?_append_right (by rw [toList_len]; omega), toList_len, show d.size + (K - 1) - d.size = K - 1 by omega, List.getElem?_append_right (by simp)]
    simp
    omega
  have hd : hD r = K := by unfold hD; rw [if_pos hp, hk]
  have h4 : r.drop 4 = d.data.toList ++ pads K := by rw [hr2]; rfl
  have hg : gE r = 0 := gE_is (by rw [hl, hn]; omega) (by omega) (by omega) (by omega) (fun _ => by rw [hl, hn, hk]; omega)
  have hx : nx r = [] := by
    unfold nx
    apply List.eq_nil_of_length_eq_zero
    rw [List.length_drop, hl, hn]; omega
  have hgp : gP r = ⟨(c : Int), (k : Int), d⟩ := by
    unfold gP
    rw [b0, b1, hn, hd, show d.size + K - K = d.size by omega, h4, List.take_left' (toList_len d)]
    congr 1
    omega
  exact ⟨sE_last hg hx, by rw [sL_last hg hx, hgp]⟩
/-- Parts of which the last one is padded. -/
theorem pad_back {k : List Pt} {p : Pt} (h : allOk (k ++ [p]) = true) (K : Nat) (h0 : 4 ≤ K) (h1 : K ≤ 32) (h2 : K % 4 = 0) (h3 : p.d.size + K ≤ 262140) (h4 : sz (k ++ [p]) + K ≤ 65536) :
    rE ⟨(mb k ++ padB p K).toArray⟩ = 0 ∧ rL ⟨(mb k ++ padB p K).toArray⟩ = k ++ [p] := by
  have hh := allOk_iff.1 h
  obtain ⟨g1, g2⟩ := pad_one (hh p (by simp)) K h0 h1 h2 h3
  obtain ⟨m1, m2⟩ := mb_more k (allOk_iff.2 fun q hq => hh q (by simp [hq])) (padB p K) (by simp [padB])
  have hf : fr (⟨(mb k ++ padB p K).toArray⟩ : ByteArray) 0 = mb k ++ padB p K := by simp [fr]
  have hl : (padB p K).length = 4 + p.d.size + K := by
    simp only [padB, List.length_cons, List.length_append, pads_len K (by omega), toList_len]; omega
  have e : rE ⟨(mb k ++ padB p K).toArray⟩ = 0 := by
    unfold rE
    rw [ba_size, List.length_append, mb_len, hl]
    rw [sz_app] at h4
    simp [sz] at h4
    rw [if_neg (by omega), hf, m1, g1]
  refine ⟨e, ?_⟩
  unfold rL
  rw [if_pos e, hf, m2, g2]
/-- A row of bytes in memory. -/
def Row (w : World) (b : Nat) (L : List UInt8) : Prop := b < w.heap.size ∧ ∀ j (hj : j < L.length), w.cell? ⟨b, j, none⟩ = some (ub L[j]) ∧ w.frozen? ⟨b, j, none⟩ = false
theorem Row.set {w : World} {b : Nat} {L : List UInt8} (h : Row w b L) (i : Nat) (y : UInt8) {x : Value} (hx : x = ub y) : Row (w.setCell ⟨b, i, none⟩ x) b (L.set i y) := by
  refine ⟨by simpa using h.1, fun j hj => ?_⟩
  have hj' : j < L.length := by simpa using hj
  obtain ⟨c, f⟩ := h.2 j hj'
  refine ⟨?_, by simpa using f⟩
  by_cases e : i = j
  · subst e
    rw [World.cell?_setCell_same _ _ _ c, hx]
    simp
  · rw [World.cell?_setCell_other _ _ _ _ (by intro hh; simp only [Addr.mk.injEq] at hh; omega), c]
    rw [List.getElem_set_ne e]
theorem Row.conv {w : World} {b : Nat} {L : List UInt8} (h : Row w b L) (cap : Nat) : (convert 41 9 (.slice (some ⟨b, 0, none⟩) L.length cap)).run Try.prog w = .ok (.string ⟨L.toArray⟩) w :=
  run_convert_bytes_back (P := Try.prog) w 41 9 5 ⟨b, 0, none⟩ cap L Try.underlying41 Try.underlying5 Try.underlying9 (fun j hj => by
    rw [Addr.add_lit, Nat.zero_add]; exact (h.2 j hj).1)
theorem Row.made (w : World) (K : Nat) : Row (w.alloc (.cells (Array.replicate K (ub 0)) 5)) w.heap.size (List.replicate K 0) := by
  refine ⟨by simp, fun j hj => ⟨?_, frozen_of_row _ _ _ _ 5 (heap_alloc_new w _)⟩⟩
  rw [cell_of_row _ w.heap.size j _ 5 _ (heap_alloc_new w _)]
  have hj' : j < K := by simpa using hj
  simp [hj']
theorem mk_pad (K : Nat) (hK : K ≤ 1000) (w : World) :
    (Instr.makeSlice 41 (.int .i64 (K : Int)) (.int .i64 (K : Int))).run Try.prog w = .ok (.slice (some ⟨w.heap.size, 0, none⟩) K K) (w.alloc (.cells (Array.replicate K (ub 0)) 5)) := by
  obtain ⟨i0, hi, hz0, hz1, hz2⟩ := info_parts info5
  have := run_make (P := Try.prog) w 41 5 i0 (.int .u8 0) Try.underlying41 hi hz0 .i64 .i64 K K (by omega) (by omega) (by rw [hz2]; omega) (by omega)
  rw [this, hz1]
  simp only [Int.toNat_natCast, Nat.mul_one]
  have e : madeCells #[Value.int .u8 0] K = Array.replicate K (ub 0) := by
    apply Array.ext
    · simp [madeCells]
    · intro i h1 h2
      simp [madeCells, Nat.mod_one, ub]
  rw [← e]
  rfl
theorem sb_run (w : World) (s : ByteArray) : (convert 9 41 (.string s)).run Try.prog w = .ok (.slice (some ⟨w.heap.size, 0, none⟩) s.size (grownCap w s.size 0 5)) (Lib.bytesWorld w 5 s) :=
  Lib.run_convert_string_bytes w 9 41 5 s Try.underlying9 Try.underlying41 Try.underlying5
theorem sb_row (w : World) (s : ByteArray) : Row (Lib.bytesWorld w 5 s) w.heap.size s.data.toList := by
  refine ⟨by rw [Lib.bytesWorld_size]; omega, fun j hj => ?_⟩
  have hj' : j < s.size := hj
  refine ⟨?_, ?_⟩
  · rw [Lib.bytesWorld_cell w 5 s j hj', List.getD_eq_getElem?_getD, List.getElem?_eq_getElem hj]; rfl
  · unfold World.frozen?
    simp only [Lib.bytesWorld_at_new]
    have : s.size ≤ (Lib.bytesCells w 5 s).size := by simp [Lib.bytesCells]
    simp
    intro h
    omega
theorem sb_below (w : World) (s : ByteArray) (B : Nat) (hB : B ≤ w.heap.size) : Below B w (Lib.bytesWorld w 5 s) :=
  ⟨rfl, rfl, rfl, by rw [Lib.bytesWorld_size]; omega, fun k hk => Lib.bytesWorld_at_old w 5 s k (by omega)⟩
/-- What holds all along: the last part's box, the parts that came in, what was there. -/
structure St (w W : World) (bx : Nat) (c pt : Int) (d : ByteArray) (a : Option Addr) (l : List Pt) : Prop where
  n : W.heap[bx]? = some (.cells #[.int .i64 c, .int .i64 pt, .string d] 40 (0, 0))
  q : PA bx W a l
  b : Below w.heap.size w W
  z : w.heap.size ≤ bx
theorem St.next {w W W' : World} {bx : Nat} {c pt : Int} {d : ByteArray} {a : Option Addr} {l : List Pt} (h : St w W bx c pt d a l) (hb : Below (bx + 1) W W') : St w W' bx c pt d a l :=
  ⟨(hb.block bx (by omega)).trans h.n, h.q.kept (hb.mono (by omega)), h.b.trans (hb.mono (by have := h.z; omega)), h.z⟩
theorem St.lt {w W : World} {bx : Nat} {c pt : Int} {d : ByteArray} {a : Option Addr} {l : List Pt} (h : St w W bx c pt d a l) : bx < W.heap.size := lt_of_heap h.n
theorem Row.kept {w w' : World} {b : Nat} {L : List UInt8} {B : Nat} (h : Row w b L) (hb : Below B w w') (hB : b < B) : Row w' b L := by
  refine ⟨Nat.lt_of_lt_of_le h.1 hb.size, fun j hj => ?_⟩
  obtain ⟨c, f⟩ := h.2 j hj
  exact ⟨(hb.cell (p := ⟨b, j, none⟩) hB).trans c, (hb.frozen (p := ⟨b, j, none⟩) hB).trans f⟩
theorem pad_set (K : Nat) (h : 0 < K) : (List.replicate K (0 : UInt8)).set (K - 1) (UInt8.ofNat K) = pads K := by
  unfold pads
  obtain ⟨k, rfl⟩ : ∃ k, K = k + 1 := ⟨K - 1, by omega⟩
  rw [List.replicate_succ', List.set_append_right _ _ (by simp)]
  simp
/-- A message whose last part is turned into one that is padded. -/
theorem turn_last (k : List Pt) (p : Pt) (K : Nat) :
    (((mb (k ++ [p]) ++ pads K).set (mb k).length (UInt8.ofNat (160 + p.c.toNat))).set ((mb k).length + 2) (UInt8.ofNat ((p.d.size + K) / 4 / 256))).set ((mb k).length + 3) (UInt8.ofNat ((p.d.size + K) / 4)) = mb k ++ padB p K := by
  have e : mb (k ++ [p]) ++ pads K = mb k ++ (UInt8.ofNat (128 + p.c.toNat) :: UInt8.ofNat p.t.toNat :: UInt8.ofNat (p.d.size / 4 / 256) :: UInt8.ofNat (p.d.size / 4) :: (p.d.data.toList ++ pads K)) := by
    rw [mb_app]; simp [mb, pb, ph]
  rw [e, List.set_append_right _ _ (Nat.le_refl _), List.set_append_right _ _ (by omega), List.set_append_right _ _ (by omega)]
  rw [Nat.sub_self, show (mb k).length + 2 - (mb k).length = 2 by omega, show (mb k).length + 3 - (mb k).length = 3 by omega]
  rfl
end Go.Proofs.Ythapkeokgpnjgaa
