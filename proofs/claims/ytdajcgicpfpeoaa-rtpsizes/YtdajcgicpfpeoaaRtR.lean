/-
  A header that came in: its fields, where its sources and extensions lie.
-/
import Derived.Test.YtdajcgicpfpeoaaRtQ
import Derived.ProofKit
import Derived.OpenShut
import Derived.Deep.Slices
namespace Go.Proofs.Ytdajcgicpfpeoaa
open Go.ChangeShapes Go.WideShapes Go.ChangeAt Go.RowKit

theorem co22 : Try.prog.cellsOf 22 = 1 := by kernel_rfl
theorem co3 : Try.prog.cellsOf 3 = 1 := by kernel_rfl
theorem co4 : Try.prog.cellsOf 4 = 1 := by kernel_rfl
theorem co9 : Try.prog.cellsOf 9 = 1 := by kernel_rfl
theorem co23 : Try.prog.cellsOf 23 = 1 := by kernel_rfl
theorem co24 : Try.prog.cellsOf 24 = 1 := by kernel_rfl
theorem co47 : Try.prog.cellsOf 47 = 2 := by kernel_rfl
theorem co26 : Try.prog.cellsOf 26 = 7 := by kernel_rfl
theorem open_sa {H : Type} {enc : TypeId × Value → H} {W : World} {v : Value} {fuel : Nat} {x : DataW H × List MemPlace}
    (h : DataW.trod enc Try.prog W 0 (fun _ => true) true fuel 23 [v] = some x) : ∃ a len cap S, v = .slice a len cap ∧ SA W.heap.size W a len S := by
  rcases Go.Deep.open_slice1 Try.underlying23 co22 h with ⟨hcs, _⟩ | ⟨x, l, c, m, n, V, D, Pl, hcs, hb, hl, hm, hmm, _, hx⟩
  · simp at hcs
    exact ⟨none, 0, 0, fun _ => 0, hcs, by unfold maxLen; omega, .inl rfl⟩
  · simp at hcs
    have each : ∀ i, i < l → ∃ q : Int, W.cell? (x.add i) = some (.int .u32 q) ∧ 0 ≤ q ∧ q < 4294967296 := by
      intro i hi
      obtain ⟨h1, h2⟩ := hx i (by simp at hmm; omega)
      obtain ⟨z, e, _, wf⟩ := DataW.trod_int Try.underlying22 h2
      simp at e
      rw [e] at h1
      have := bounds_u32 wf
      exact ⟨z, h1, by omega, by omega⟩
    obtain ⟨q, hq⟩ := Go.Deep.choose_lt each
    refine ⟨some x, l, c, q, hcs, by omega, ?_⟩
    by_cases h0 : l = 0
    · exact .inl h0
    · right
      obtain ⟨b, off, spot⟩ := x
      have hspot : spot = none := by simpa [Addr.add] using World.cell?_spot (hq 0 (by omega)).1
      subst hspot
      have key : ∀ i, i < l → W.cell? ⟨b, off + i, none⟩ = some (.int .u32 (q i)) ∧ 0 ≤ q i ∧ q i < 4294967296 := by
        intro i hi
        obtain ⟨c0, r⟩ := hq i hi
        rw [Addr.add_lit] at c0
        exact ⟨c0, r⟩
      exact ⟨b, off, rfl, World.block_lt_of_cell? W _ (key 0 (by omega)).1, key⟩
theorem open_xa {H : Type} {enc : TypeId × Value → H} {W : World} {v : Value} {fuel : Nat} {x : DataW H × List MemPlace}
    (h : DataW.trod enc Try.prog W 0 (fun _ => true) true fuel 24 [v] = some x) : ∃ a len cap I D, v = .slice a len cap ∧ XA W.heap.size W a len I D := by
  rcases Go.Deep.open_slice Try.underlying24 h with ⟨hcs, _⟩ | ⟨x, l, c, m, n, D, Pl, hcs, hb, hl, hm, hmm, _, hx⟩
  · simp at hcs
    exact ⟨none, 0, 0, fun _ => 0, fun _ => ⟨#[]⟩, hcs, by unfold maxLen; omega, .inl rfl⟩
  · simp at hcs
    have each : ∀ i, i < l → ∃ q : Int × ByteArray, W.cell? (x.add (i * 2)) = some (.int .i64 q.1) ∧ W.cell? (x.add (i * 2 + 1)) = some (.string q.2) ∧ q.2.size ≤ maxLen := by
      intro i hi
      obtain ⟨cs', h1, h2⟩ := hx i (by simp at hmm; omega)
      rw [co47] at h1
      obtain ⟨_, hlen, hcell⟩ := World.cells?_some h1
      obtain ⟨xs, k, hk, hxy, _, hxl, hf⟩ := DataW.trod_struct Try.underlying47 h2
      match xs, hxl, cs', hlen with
      | [y0, y1], _, [v0, v1], _ =>
        have g0 := hf 0 _ rfl
        have g1 := hf 1 _ rfl
        simp [co3, co9] at g0 g1
        obtain ⟨z0, e0, _, _⟩ := DataW.trod_int Try.underlying3 g0
        obtain ⟨z1, e1, _, wf1⟩ := DataW.trod_string Try.underlying9 g1
        simp at e0 e1
        subst e0 e1
        have c0 := hcell 0 (by omega)
        have c1 := hcell 1 (by omega)
        rw [Go.Deep.add_add] at c0 c1
        exact ⟨(z0, z1), by simpa using c0, by simpa using c1, wf1⟩
    obtain ⟨q, hq⟩ := Go.Deep.choose_lt each
    refine ⟨some x, l, c, fun i => (q i).1, fun i => (q i).2, hcs, by omega, ?_⟩
    by_cases h0 : l = 0
    · exact .inl h0
    · right
      obtain ⟨b, off, spot⟩ := x
      have hspot : spot = none := by simpa [Addr.add] using World.cell?_spot (hq 0 (by omega)).1
      subst hspot
      have key : ∀ i, i < l → W.cell? ⟨b, off + i * 2, none⟩ = some (.int .i64 (q i).1) ∧ W.cell? ⟨b, off + i * 2 + 1, none⟩ = some (.string (q i).2) ∧ (q i).2.size ≤ maxLen := by
        intro i hi
        obtain ⟨c0, c1, r⟩ := hq i hi
        rw [Addr.add_lit] at c0 c1
        exact ⟨c0, by rw [Nat.add_assoc]; exact c1, r⟩
      exact ⟨b, off, rfl, World.block_lt_of_cell? W _ (key 0 (by omega)).1, key⟩
/-- What is known of a header that came in. -/
structure HIn (W : World) (tm ss : Int) (sa : Option Addr) (ns : Nat) (S : Nat → Int) (ea : Option Addr) (ne : Nat) (I : Nat → Int) (D : Nat → ByteArray) : Prop where
  t0 : 0 ≤ tm
  t1 : tm < 4294967296
  s0 : 0 ≤ ss
  s1 : ss < 4294967296
  s : SA W.heap.size W sa ns S
  x : XA W.heap.size W ea ne I D
theorem open_hdr {H : Type} {enc : TypeId × Value → H} {W : World} {r : Reach} {b0 : Nat} {v : Value} {d : DataW H} {p : List MemPlace} (hv : Value.okWide Try.prog W r b0 26 v)
    (h : DataW.Trod enc Try.prog W 0 (fun _ => true) true 26 v d p) :
    ∃ mk ty sq tm ss sa ns sc ea ne ec S I D, v = hdr mk ty sq tm ss (.slice sa ns sc) (.slice ea ne ec) ∧ HIn W tm ss sa ns S ea ne I D := by
  obtain ⟨cs, rfl, hsz⟩ := okWide_struct Try.underlying26 hv
  rw [co26] at hsz
  obtain ⟨fuel, hf⟩ := h
  obtain ⟨xs, k, hk, hxy, _, hxl, hf⟩ := DataW.trod_struct Try.underlying26 hf
  obtain ⟨l⟩ := cs
  have hl : l.length = 7 := by simpa using hsz
  match xs, hxl, l, hl with
  | [y0, y1, y2, y3, y4, y5, y6], _, [v0, v1, v2, v3, v4, v5, v6], _ =>
    have g0 := hf 0 _ rfl
    have g1 := hf 1 _ rfl
    have g2 := hf 2 _ rfl
    have g3 := hf 3 _ rfl
    have g4 := hf 4 _ rfl
    have g5 := hf 5 _ rfl
    have g6 := hf 6 _ rfl
    simp [Value.cells, co3, co4, co22, co23, co24] at g0 g1 g2 g3 g4 g5 g6
    obtain ⟨z0, e0, _⟩ := DataW.trod_bool Try.underlying4 g0
    obtain ⟨z1, e1, _, _⟩ := DataW.trod_int Try.underlying3 g1
    obtain ⟨z2, e2, _, _⟩ := DataW.trod_int Try.underlying3 g2
    obtain ⟨z3, e3, _, w3⟩ := DataW.trod_int Try.underlying22 g3
    obtain ⟨z4, e4, _, w4⟩ := DataW.trod_int Try.underlying22 g4
    obtain ⟨a5, l5, c5, S, e5, s5⟩ := open_sa g5
    obtain ⟨a6, l6, c6, I, D, e6, s6⟩ := open_xa g6
    simp at e0 e1 e2 e3 e4
    subst e0 e1 e2 e3 e4 e5 e6
    have b3 := bounds_u32 w3
    have b4 := bounds_u32 w4
    exact ⟨_, _, _, _, _, _, _, _, _, _, _, S, I, D, rfl, by omega, by omega, by omega, by omega, s5, s6⟩
end Go.Proofs.Ytdajcgicpfpeoaa
