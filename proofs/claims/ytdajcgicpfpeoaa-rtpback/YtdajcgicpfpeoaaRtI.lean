/-
  What the function that writes a header's extensions does, and Encode.
-/
import Derived.Test.YtdajcgicpfpeoaaRtH
namespace Go.Proofs.Ytdajcgicpfpeoaa
open Go.RowKit

theorem apart_below {w w' : World} (h : Below w.heap.size w w') : Apart (fun _ => False) w w' := ⟨h.os, h.tape, h.output, h.size, fun k hk _ => h.block k hk⟩
theorem tch_below (b : Nat) (v : Value) {w w' : World} (h : Below w.heap.size w w') : Tch b v v w w' := ⟨(apart_below h).mono (fun _ _ h => h.elim), fun _ h => .inl h⟩
theorem Wr.keptB {T : TypeId} {w w' : World} {b : Nat} {v : Value} {l : List Bool} (h : Wr T w b v l) (hb : Below w.heap.size w w') : Wr T w' b v l := h.kept (apart_below hb) (fun h => h) (fun _ _ h => h)
theorem frame47 (a : Act) (hs : a.tmps.size = 47) (hd : a.defers = []) : ∃ u : Nat → Value, (∀ i, a.tmps.getD i undef = u i) ∧ a = { tmps := #[u 0, u 1, u 2, u 3, u 4, u 5, u 6, u 7, u 8, u 9, u 10, u 11, u 12, u 13, u 14, u 15, u 16, u 17, u 18, u 19, u 20, u 21, u 22, u 23, u 24, u 25, u 26, u 27, u 28, u 29, u 30, u 31, u 32, u 33, u 34, u 35, u 36, u 37, u 38, u 39, u 40, u 41, u 42, u 43, u 44, u 45, u 46], defers := [] } := frame_of a 47 hs hd
/-- What stands ahead of extensions. -/
def preB (l : List Bool) (D : Nat → ByteArray) (n : Nat) : List Bool := l ++ bitsOf 190 8 ++ bitsOf 222 8 ++ bitsOf ((xlen D n + 3) / 4) 16
@[simp] theorem preB_len (l : List Bool) (D : Nat → ByteArray) (n : Nat) : (preB l D n).length = l.length + 32 := by simp [preB]
set_option maxRecDepth 100000 in
set_option maxHeartbeats 2000000 in
theorem pexts_any (b : Nat) (v : Value) (l : List Bool) (a : Option Addr) (n cap : Nat) (I : Nat → Int) (D : Nat → ByteArray) (w : World) (h : Wr 71 w b v l) (hl : l.length ≤ 600) (hx : XA b w a n I D) (hn : n ≤ 14) (hok : ExtOk I D n) :
    Calls Try.prog 20 #[.pointer (some ⟨b, 0, none⟩), .slice a n cap] w fun e w' => e = .returned (.tuple #[]) ∧ ∃ v', Wr 71 w' b v' (alignS (preB l D n ++ extB I D n) 32) ∧ Tch b v v' w w' := by
  have HX := mkHid hx
  have HL := mkHid (fun k hk => xlen_le hok k hk)
  have HOK := mkHid hok
  have H0 := mkHid h
  have hw1 := HL.out n (Nat.le_refl _)
  clear hx h hok
  go_enter Try.func20, Try.ntmps20
  go_wp2
  refine wp_scope_label 0 (fun a' w' => ∃ (k : Nat) (vc : Value), (a'.tmps.size = 47 ∧ a'.defers = [] ∧ a'.tmps.getD 0 undef = .pointer (some ⟨b, 0, none⟩) ∧ a'.tmps.getD 1 undef = .slice a n cap ∧ a'.tmps.getD 4 undef = .int .i64 (k : Int)) ∧ k ≤ n ∧ Wr 71 w' b vc (preB l D n ++ extB I D k) ∧ Tch b v vc w w') (fun a' _ => n - (intOf (a'.tmps.getD 4 undef)).toNat) rfl ?_ ?_
  · intro Q' hh
    have HH := mkHid hh
    clear hh
    go_wp2_with fail
    refine (put_fit b v l _ _ 190 8 rfl rfl (by omega) (by omega) (by omega) _ H0.out).mono ?_
    rintro e w1 ⟨rfl, v1, h1, t1⟩
    have H1 := mkHid h1
    have T1 := mkHid t1
    clear h1 t1
    go_wp2_with fail
    refine (put_fit b v1 _ _ _ 222 8 rfl rfl (by omega) (by omega) (by simp; omega) _ H1.out).mono ?_
    rintro e w2 ⟨rfl, v2, h2, t2⟩
    have H2 := mkHid h2
    have T2 := mkHid (T1.out.trans t2)
    clear h2 t2
    have X2 := mkHid ((HX.out.kept (T2.out.below H0.out b (Nat.le_refl _))).up (Nat.le_of_lt H2.out.lt))
    go_wp2_with fail
    refine (words_any a n cap I D _ X2.out hn HOK.out).mono ?_
    rintro e w3 ⟨rfl, b3⟩
    have H3 := mkHid (H2.out.keptB b3)
    have T3 := mkHid (T2.out.trans (tch_below b v2 b3))
    clear b3
    go_wp2_with fail
    refine (put_fit b v2 _ _ _ ((xlen D n + 3) / 4) 16 (by omega) rfl (by omega) (by omega) (by simp; omega) _ H3.out).mono ?_
    rintro e w4 ⟨rfl, v4, h4, t4⟩
    have H4 := mkHid h4
    have T4 := mkHid (T3.out.trans t4)
    clear h4 t4
    go_wp2
    go_step3
    refine ‹∀ a w, Code.wp _ _ _ a w → _› _ _ (HH.out _ _ ?_)
    exact ⟨0, v4, ⟨rfl, rfl, rfl, rfl, rfl⟩, Nat.zero_le _, by simp only [extB, List.append_nil]; exact H4.out, T4.out⟩
  · rintro a' w' ⟨k, vc, ⟨z, d, e0, e1, e4⟩, hk, hw, ht⟩
    obtain ⟨u, hu, ha⟩ := frame47 a' z d
    rw [hu] at e0 e1 e4
    rw [e0, e1, e4] at ha
    clear z d hu e0 e1 e4
    subst ha
    have HW := mkHid hw
    have HT := mkHid ht
    have hk1 := HL.out k hk
    clear hw ht
    by_cases hlt : k < n
    · have hk2 := HL.out (k + 1) (by omega)
      have HXL : Hid (xlen D (k + 1) = xlen D k + (1 + (D k).size)) := rfl
      rw [HXL.out] at hk2
      obtain ⟨⟨i0, i1⟩, ⟨s0, s1⟩, _⟩ := HOK.out k hlt
      rcases HX.out.2 with h0 | ⟨bb, off, rfl, hbl, hrows⟩
      · omega
      obtain ⟨c0, c1, _⟩ := hrows k hlt
      have HC : Hid (∀ w1 v1, Tch b v v1 w w1 → w1.cell? ⟨bb, off + k * 2, none⟩ = some (.int .i64 (I k)) ∧ w1.cell? ⟨bb, off + k * 2 + 1, none⟩ = some (.string (D k))) :=
        fun w1 v1 t => ⟨((t.below H0.out b (Nat.le_refl _)).cell (p := ⟨bb, off + k * 2, none⟩) hbl).trans c0, ((t.below H0.out b (Nat.le_refl _)).cell (p := ⟨bb, off + k * 2 + 1, none⟩) hbl).trans c1⟩
      have HEX : Hid (extB I D (k + 1) = extB I D k ++ bitsOf (I k).toNat 4 ++ bitsOf ((D k).size - 1) 4 ++ txtB (D k) (D k).size) := rfl
      clear hrows c0 c1
      generalize I k = id at *
      generalize D k = dd at *
      have hs0 : 1 ≤ (dd.size : Int) := by omega
      have hs1 : (dd.size : Int) ≤ 16 := by omega
      have hle : (extB I D k).length ≤ 1904 := by simp; omega
      have HLE := mkHid hle
      obtain ⟨c0, c1⟩ := HC.out _ _ HT.out
      clear hle hk1 hk2 hbl c1
      go_wp2_with fail
      refine (put_fit b vc _ _ _ id.toNat 4 (by omega) rfl (by omega) (by omega) (by have := HLE.out; simp at this ⊢; omega) _ HW.out).mono ?_
      rintro e w1 ⟨rfl, v1, h1, t1⟩
      have H1 := mkHid h1
      have T1 := mkHid (HT.out.trans t1)
      clear h1 t1 c0
      obtain ⟨c0, c1⟩ := HC.out _ _ T1.out
      clear c0
      go_wp2_with fail
      refine (put_fit b v1 _ _ _ (dd.size - 1) 4 (by omega) rfl (by omega) (by omega) (by have := HLE.out; simp at this ⊢; omega) _ H1.out).mono ?_
      rintro e w2 ⟨rfl, v2, h2, t2⟩
      have H2 := mkHid h2
      have T2 := mkHid (T1.out.trans t2)
      clear h2 t2 c1
      obtain ⟨c0, c1⟩ := HC.out _ _ T2.out
      clear c0
      go_wp2_with fail
      refine (ptext_any b v2 _ dd (by have := HLE.out; simp at this ⊢; omega) _ H2.out).mono ?_
      rintro e w3 ⟨rfl, v3, h3, t3⟩
      have H3 := mkHid h3
      have T3 := mkHid (T2.out.trans t3)
      clear h3 t3 c1
      go_wp2
      go_step3
      refine ⟨rfl, ⟨k + 1, v3, ⟨rfl, rfl, rfl, rfl, by go_num⟩, by omega, ?_, T3.out⟩, ?_⟩
      · have := H3.out
        rw [HEX.out]
        simp only [List.append_assoc] at this ⊢
        exact this
      · simp [intOf]; omega
    · obtain rfl : k = n := by omega
      go_wp2_with fail
      refine (align_any b vc _ 32 _ HW.out).mono ?_
      rintro e w1 ⟨rfl, v1, h1, t1⟩
      have H1 := mkHid h1
      have T1 := mkHid (HT.out.trans t1)
      clear h1 t1
      go_wp2
      simp only [Exit.jump]
      go_returns
      exact ⟨rfl, v1, H1.out, T1.out⟩
end Go.Proofs.Ytdajcgicpfpeoaa
