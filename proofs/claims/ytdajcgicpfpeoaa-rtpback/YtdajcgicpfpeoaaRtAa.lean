/-
  What Decode hands back, as a header in memory.
-/
import Derived.Test.YtdajcgicpfpeoaaRtW
namespace Go.Proofs.Ytdajcgicpfpeoaa
open Go.RowKit

/-- A header that Decode handed back. -/
def Got (mk : Bool) (ty sq tm ss : Int) (ns : Nat) (S : Nat → Int) (ne : Nat) (I : Nat → Int) (D : Nat → ByteArray) (n : Nat) (w : World) (e : Ending) (w' : World) : Prop :=
  Below w.heap.size w w' ∧ ∃ sa sc ea ec, e = .returned (.tuple #[hdr mk ty sq tm ss (.slice sa ns sc) (.slice ea ne ec), .int .i64 (n : Int), .int .i64 0]) ∧ SA w'.heap.size w' sa ns S ∧ XA w'.heap.size w' ea ne I D
theorem dec_self (s : ByteArray) (hs : s.size ≤ 1000000) (h0 : decE s = 0) (w : World) :
    Calls Try.prog 14 #[.string s] w (Got ((gw s 8 1 : Int) == 1) (gw s 9 7 : Int) (gw s 16 16 : Int) (gw s 32 32 : Int) (gw s 64 32 : Int) (gv s 4 4) (fun i => (gw s (96 + 32 * i) 32 : Int)) (decX s).length (eI (decX s)) (eD (decX s)) (decP s / 8) w) := by
  refine (dec_any s hs w).mono ?_
  rintro e w' ⟨hb, ⟨hne, _⟩ | ⟨_, v5, v6, rfl, o5, o6⟩⟩
  · exact absurd h0 hne
  · have g := dec_good s
    have h5 := g.hns
    have h6 := g.hne
    rw [srcV_cells] at o5
    rw [xcells_xC] at o6
    obtain ⟨a5, c5, rfl, s5⟩ := own_sa o5 (Nat.le_refl _) (by unfold maxLen; omega) g.hs
    obtain ⟨a6, c6, rfl, s6⟩ := own_xa o6 (Nat.le_refl _) (by unfold maxLen; omega) (fun i hi => by have := (g.hok i hi).2.1; unfold maxLen; omega)
    exact ⟨hb, a5, c5, a6, c6, rfl, s5, s6⟩
theorem dec_read {mk : Bool} {ty sq tm ss : Int} {ns : Nat} {S : Nat → Int} {ne : Nat} {I : Nat → Int} {D : Nat → ByteArray} {s : ByteArray} {len : Nat} (g : GoodH ty sq tm ss ns S ne I D) (h : ReadH mk ty sq tm ss ns S ne I D s len) (hs : s.size ≤ 1000000) (w : World) :
    Calls Try.prog 14 #[.string s] w (Got mk ty sq tm ss ns S ne I D (len / 8) w) := by
  refine (dec_any s hs w).mono ?_
  rintro e w' ⟨hb, ⟨hne, _⟩ | ⟨_, v5, v6, rfl, o5, o6⟩⟩
  · exact absurd h.e hne
  · have h5 := g.hns
    have h6 := g.hne
    have e5 : srcV s (gv s 4 4) = sCells S ns := by
      rw [srcV_cells, h.n]
      unfold sCells
      apply List.map_congr_left
      intro i hi
      have hi' : i < ns := by simpa using hi
      have := g.hs i hi'
      show Value.int .u32 (gw s (96 + 32 * i) 32 : Int) = _
      rw [h.s i hi', Int.toNat_of_nonneg this.1]
    have e6 : xcells (decX s) = xC I D ne := by rw [h.x, exl_cells I D ne (fun i hi => by have := (g.hok i hi).1; omega)]
    rw [e5, h.n] at o5
    rw [e6, h.x, exl_len] at o6
    obtain ⟨a5, c5, rfl, s5⟩ := own_sa o5 (Nat.le_refl _) (by unfold maxLen; omega) g.hs
    obtain ⟨a6, c6, rfl, s6⟩ := own_xa o6 (Nat.le_refl _) (by unfold maxLen; omega) (fun i hi => by have := (g.hok i hi).2.1; unfold maxLen; omega)
    refine ⟨hb, a5, c5, a6, c6, ?_, s5, s6⟩
    have em : (((b01 mk).toNat : Int) == 1) = mk := by cases mk <;> rfl
    rw [h.m, em, h.ty, h.sq, h.tm, h.ss, h.p, Int.toNat_of_nonneg g.y0, Int.toNat_of_nonneg g.q0, Int.toNat_of_nonneg g.t0, Int.toNat_of_nonneg g.s0]
/-- What Encode makes of a header is read as it, whatever follows. -/
theorem read_app {mk : Bool} {ty sq tm ss : Int} {ns : Nat} {S : Nat → Int} {ne : Nat} {I : Nat → Int} {D : Nat → ByteArray} (g : GoodH ty sq tm ss ns S ne I D) (b : ByteArray) : ReadH mk ty sq tm ss ns S ne I D (packS (encL mk ty sq tm ss ns S ne I D) ++ b) (encL mk ty sq tm ss ns S ne I D).length := by
  obtain ⟨h1, h2, _, _⟩ := enc_len (mk := mk) g
  exact (dec_enc g _ _ rfl (pre_app _ b h1)).2 (by rw [ByteArray.size_append]; omega)
theorem read_self {mk : Bool} {ty sq tm ss : Int} {ns : Nat} {S : Nat → Int} {ne : Nat} {I : Nat → Int} {D : Nat → ByteArray} (g : GoodH ty sq tm ss ns S ne I D) : ReadH mk ty sq tm ss ns S ne I D (packS (encL mk ty sq tm ss ns S ne I D)) (encL mk ty sq tm ss ns S ne I D).length := by
  obtain ⟨h1, h2, _, _⟩ := enc_len (mk := mk) g
  exact (dec_enc g _ _ rfl (pre_self _)).2 (by omega)
end Go.Proofs.Ytdajcgicpfpeoaa
