/-
  What Encode hands back.
-/
import Derived.Test.YtdajcgicpfpeoaaRtI
namespace Go.Proofs.Ytdajcgicpfpeoaa
open Go.RowKit

/-- A header's bits. -/
def encL (mk : Bool) (ty sq tm ss : Int) (ns : Nat) (S : Nat → Int) (ne : Nat) (I : Nat → Int) (D : Nat → ByteArray) : List Bool :=
  if ne = 0 then fixB mk ty sq tm ss ns ne ++ srcB S ns else alignS (preB (fixB mk ty sq tm ss ns ne ++ srcB S ns) D ne ++ extB I D ne) 32
theorem good_parts {ty sq : Int} {ns ne : Nat} {I : Nat → Int} {D : Nat → ByteArray} (h : goodB ty sq ns ne I D = true) : 0 ≤ ty ∧ ty ≤ 127 ∧ 0 ≤ sq ∧ sq ≤ 65535 ∧ ns ≤ 15 ∧ ne ≤ 14 ∧ ExtOk I D ne := by
  simp only [goodB, Bool.and_eq_true, inR, exB, decide_eq_true_eq] at h
  obtain ⟨⟨⟨⟨h1, h2⟩, h3⟩, h4⟩, h5⟩ := h
  exact ⟨h1.1, h1.2, h2.1, h2.2, h3, h4, h5⟩
theorem Bx.keptB {o : Obj} {w w' : World} {bx : Nat} (h : w.heap[bx]? = some o) (hb : Below w.heap.size w w') : w'.heap[bx]? = some o := (hb.block bx (lt_of_heap h)).trans h
set_option maxRecDepth 100000 in
set_option maxHeartbeats 2000000 in
theorem enc_no (mk : Bool) (ty sq tm ss : Int) (sa ea : Option Addr) (ns sc ne ec : Nat) (S I : Nat → Int) (D : Nat → ByteArray) (w : World) (hs : SA w.heap.size w sa ns S) (hx : XA w.heap.size w ea ne I D) (hg : goodB ty sq ns ne I D = false) :
    Calls Try.prog 11 #[.agg #[.bool mk, .int .i64 ty, .int .i64 sq, .int .u32 tm, .int .u32 ss, .slice sa ns sc, .slice ea ne ec]] w fun e w' => e = .returned (.tuple #[.string ⟨#[]⟩, .int .i64 1]) ∧ Below w.heap.size w w' := by
  have A := mkHid (is_any mk ty sq tm ss sa ea ns sc ne ec S I D _ (hs.alloc (.cells #[.bool mk, .int .i64 ty, .int .i64 sq, .int .u32 tm, .int .u32 ss, .slice sa ns sc, .slice ea ne ec] 26)) (hx.alloc (.cells #[.bool mk, .int .i64 ty, .int .i64 sq, .int .u32 tm, .int .u32 ss, .slice sa ns sc, .slice ea ne ec] 26)))
  rw [hg] at A
  clear hs hx hg
  go_enter Try.func11, Try.ntmps11
  go_wp2_with fail
  refine (A.out).mono ?_
  rintro e w1 ⟨rfl, hb⟩
  have HB := mkHid hb
  clear hb
  go_wp2
  go_ret2
  exact ⟨rfl, ((Below.refl _ _).alloc (Nat.le_refl _) _).trans (HB.out.mono (by simp))⟩
set_option maxRecDepth 100000 in
set_option maxHeartbeats 2000000 in
theorem enc_ok (mk : Bool) (ty sq tm ss : Int) (sa ea : Option Addr) (ns sc ne ec : Nat) (S I : Nat → Int) (D : Nat → ByteArray) (w : World) (hs : SA w.heap.size w sa ns S) (hx : XA w.heap.size w ea ne I D) (hg : goodB ty sq ns ne I D = true)
    (t0 : 0 ≤ tm) (t1 : tm < 4294967296) (s0 : 0 ≤ ss) (s1 : ss < 4294967296) :
    Calls Try.prog 11 #[.agg #[.bool mk, .int .i64 ty, .int .i64 sq, .int .u32 tm, .int .u32 ss, .slice sa ns sc, .slice ea ne ec]] w fun e w' => e = .returned (.tuple #[.string (packS (encL mk ty sq tm ss ns S ne I D)), .int .i64 0]) ∧ Below w.heap.size w w' := by
  obtain ⟨y0, y1, q0, q1, hns, hne, hok⟩ := good_parts hg
  have A := mkHid (is_any mk ty sq tm ss sa ea ns sc ne ec S I D _ (hs.alloc (.cells #[.bool mk, .int .i64 ty, .int .i64 sq, .int .u32 tm, .int .u32 ss, .slice sa ns sc, .slice ea ne ec] 26)) (hx.alloc (.cells #[.bool mk, .int .i64 ty, .int .i64 sq, .int .u32 tm, .int .u32 ss, .slice sa ns sc, .slice ea ne ec] 26)))
  rw [hg] at A
  have HS := mkHid hs
  have HX := mkHid hx
  have HOK := mkHid hok
  clear hs hx hg hok
  obtain ⟨bx, HBX⟩ : ∃ bx, Hid (w.heap.size = bx) := ⟨_, rfl⟩
  have HN := mkHid (heap_alloc_new w (.cells #[.bool mk, .int .i64 ty, .int .i64 sq, .int .u32 tm, .int .u32 ss, .slice sa ns sc, .slice ea ne ec] 26))
  go_enter Try.func11, Try.ntmps11
  go_wp2_with fail
  refine (A.out).mono ?_
  rintro e w1 ⟨rfl, hb⟩
  have B1 := mkHid (((Below.refl _ _).alloc (Nat.le_refl _) _).trans (hb.mono (by simp)) : Below w.heap.size w w1)
  have N1 := mkHid (Bx.keptB HN.out hb)
  clear hb A
  rw [HBX.out]
  rw [HBX.out] at B1 N1 HS HX
  go_wp2_with fail
  refine (write_any _).mono ?_
  rintro e w2 ⟨rfl, h2, p2, z2⟩
  obtain ⟨wb, HWB⟩ : ∃ wb, Hid (w1.heap.size = wb) := ⟨_, rfl⟩
  rw [HWB.out] at h2 z2 ⊢
  have hbw : bx < wb := by rw [← HWB.out]; exact lt_of_heap N1.out
  have B2 := mkHid (B1.out.trans (p2.belowF bx (by rw [HWB.out]; omega)))
  have X2 := mkHid (⟨p2.heap N1.out (fun h => h), by omega, fun e => by simp [Value.ownBlock] at e⟩ : Bx (.cells #[.bool mk, .int .i64 ty, .int .i64 sq, .int .u32 tm, .int .u32 ss, .slice sa ns sc, .slice ea ne ec] 26) w2 bx wb (.slice none 0 0))
  have H2 := mkHid h2
  have S2 := mkHid ((HS.out.kept B2.out).up (Nat.le_of_lt hbw))
  have Y2 := mkHid ((HX.out.kept B2.out).up (Nat.le_of_lt hbw))
  obtain ⟨c0, c1, c2, c3, c4, c5, c6⟩ := cells7 X2.out.heap
  clear h2 p2 B1 N1
  go_wp2_with fail
  refine (fields_any wb _ mk ty sq tm ss sa ea ns sc ne ec S _ H2.out S2.out y0 y1 q0 q1 t0 t1 s0 s1 hns hne).mono ?_
  rintro e w3 ⟨rfl, v3, h3, t3⟩
  have H3 := mkHid h3
  have X3 := mkHid (X2.out.next t3)
  have B3 := mkHid (B2.out.trans (t3.below H2.out bx (by omega)))
  have Y3 := mkHid (Y2.out.kept (t3.below H2.out wb (Nat.le_refl _)))
  clear c0 c1 c2 c3 c4 c5 c6
  obtain ⟨c0, c1, c2, c3, c4, c5, c6⟩ := cells7 X3.out.heap
  clear h3 t3 c0 c1 c2 c3 c4 c5
  by_cases h0 : ne = 0
  · subst h0
    have HE : Hid (encL mk ty sq tm ss ns S 0 I D = fixB mk ty sq tm ss ns 0 ++ srcB S ns) := by unfold encL; exact if_pos rfl

    go_wp2_with fail
    refine (text_any wb v3 _ _ H3.out).mono ?_
    rintro e w4 ⟨rfl, rfl⟩
    go_wp2
    go_ret2
    exact ⟨by rw [HE.out]; rfl, by rw [HBX.out]; exact B3.out⟩
  · have HE : Hid (encL mk ty sq tm ss ns S ne I D = alignS (preB (fixB mk ty sq tm ss ns ne ++ srcB S ns) D ne ++ extB I D ne) 32) := by unfold encL; exact if_neg h0
    have h0' : (0 : Int) < ne := by omega

    go_wp2_with fail
    refine (pexts_any wb v3 _ ea ne ec I D _ H3.out (by simp; omega) Y3.out hne HOK.out).mono ?_
    rintro e w4 ⟨rfl, v4, h4, t4⟩
    have H4 := mkHid h4
    have B4 := mkHid (B3.out.trans (t4.below H3.out bx (by omega)))
    clear h4 t4
    go_wp2_with fail
    refine (text_any wb v4 _ _ H4.out).mono ?_
    rintro e w5 ⟨rfl, rfl⟩
    go_wp2
    go_ret2
    exact ⟨by rw [HE.out]; rfl, by rw [HBX.out]; exact B4.out⟩
end Go.Proofs.Ytdajcgicpfpeoaa
