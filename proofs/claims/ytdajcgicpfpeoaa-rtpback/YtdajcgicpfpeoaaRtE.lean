/-
  What makes a header, and what its functions hand back.
-/
import Derived.Test.YtdajcgicpfpeoaaRtM
namespace Go.Proofs.Ytdajcgicpfpeoaa
open Go.RowKit

/-- The first k extensions are ones that a header may have. -/
abbrev ExtOk (I : Nat → Int) (D : Nat → ByteArray) (k : Nat) : Prop := ∀ i, i < k → (1 ≤ I i ∧ I i ≤ 14) ∧ (1 ≤ (D i).size ∧ (D i).size ≤ 16) ∧ ∀ j, j < i → I j ≠ I i
def exB (I : Nat → Int) (D : Nat → ByteArray) (k : Nat) : Bool := decide (ExtOk I D k)
/-- Just the numbers of the first k extensions were seen. -/
def SeenOf (f : Nat → Bool) (I : Nat → Int) (k : Nat) : Prop := ∀ i : Nat, f i = true ↔ ∃ j, j < k ∧ I j = (i : Int)
theorem seen_none (I : Nat → Int) : SeenOf (fun _ => false) I 0 := fun i => ⟨fun h => by simp at h, fun ⟨j, hj, _⟩ => by omega⟩
theorem seen_next {f : Nat → Bool} {I : Nat → Int} {k q : Nat} (h : SeenOf f I k) (hq : I k = q) : SeenOf (upd f q) I (k + 1) := by
  intro i
  unfold upd
  by_cases e : i = q
  · rw [if_pos e]
    exact ⟨fun _ => ⟨k, by omega, by rw [hq, e]⟩, fun _ => rfl⟩
  · rw [if_neg e, h i]
    constructor
    · rintro ⟨j, hj, hi⟩; exact ⟨j, by omega, hi⟩
    · rintro ⟨j, hj, hi⟩
      by_cases hjk : j = k
      · subst hjk; rw [hq] at hi; omega
      · exact ⟨j, by omega, hi⟩
theorem exB_end {I : Nat → Int} {D : Nat → ByteArray} {k n : Nat} (h : ExtOk I D k) (e : k = n) : exB I D n = true := by subst e; simpa [exB] using h
theorem exB_out {I : Nat → Int} {D : Nat → ByteArray} {k n : Nat} (hk : k < n) (h : ¬ (1 ≤ I k ∧ I k ≤ 14)) : exB I D n = false := by
  simp only [exB, decide_eq_false_iff_not]; exact fun e => h (e k hk).1
theorem exB_size {I : Nat → Int} {D : Nat → ByteArray} {k n : Nat} (hk : k < n) (h : ¬ (1 ≤ ((D k).size : Int) ∧ ((D k).size : Int) ≤ 16)) : exB I D n = false := by
  simp only [exB, decide_eq_false_iff_not]; exact fun e => h (by have := (e k hk).2.1; omega)
theorem exB_twice {f : Nat → Bool} {I : Nat → Int} {D : Nat → ByteArray} {k n q : Nat} (hk : k < n) (hs : SeenOf f I k) (hq : I k = q) (hf : f q = true) : exB I D n = false := by
  obtain ⟨j, hj, he⟩ := (hs q).1 hf
  simp only [exB, decide_eq_false_iff_not]; exact fun e => (e k hk).2.2 j hj (by rw [he, hq])
theorem ext_next {f : Nat → Bool} {I : Nat → Int} {D : Nat → ByteArray} {k q : Nat} (h : ExtOk I D k) (hs : SeenOf f I k) (hq : I k = q) (hf : f q = false) (h1 : 1 ≤ q) (h2 : q ≤ 14) (h3 : 1 ≤ ((D k).size : Int) ∧ ((D k).size : Int) ≤ 16) : ExtOk I D (k + 1) := by
  intro i hi
  by_cases e : i = k
  · subst e
    refine ⟨by omega, by omega, fun j hj he => ?_⟩
    have := (hs q).2 ⟨j, hj, by rw [he, hq]⟩
    rw [hf] at this; cases this
  · exact h i (by omega)
theorem frame28 (a : Act) (hs : a.tmps.size = 28) (hd : a.defers = []) : ∃ u : Nat → Value, (∀ i, a.tmps.getD i undef = u i) ∧ a = { tmps := #[u 0, u 1, u 2, u 3, u 4, u 5, u 6, u 7, u 8, u 9, u 10, u 11, u 12, u 13, u 14, u 15, u 16, u 17, u 18, u 19, u 20, u 21, u 22, u 23, u 24, u 25, u 26, u 27], defers := [] } := frame_of a 28 hs hd
theorem seen_new (w : World) : Seen (w.alloc (.cells ((List.range 15).map fun _ => Value.bool false).toArray 84)) w.heap.size (fun _ => false) := heap_alloc_new _ _
set_option maxRecDepth 100000 in
set_option maxHeartbeats 1000000 in
theorem are_any (a : Option Addr) (n cap : Nat) (I : Nat → Int) (D : Nat → ByteArray) (w : World) (hx : XA w.heap.size w a n I D) :
    Calls Try.prog 34 #[.slice a n cap] w fun e w' => e = .returned (.bool (exB I D n)) ∧ Below w.heap.size w w' := by
  obtain ⟨hm, hrow⟩ := hx
  unfold maxLen at hm
  have HROW := mkHid hrow
  clear hrow
  obtain ⟨sb, HSB⟩ : ∃ sb, Hid (w.heap.size = sb) := ⟨_, rfl⟩
  have hn : (n : Int) ≤ 9223372036854775807 := by omega
  go_enter Try.func34, Try.ntmps34
  go_wp2
  refine wp_scope_label 0 (fun a' w' => ∃ (k : Nat) (f : Nat → Bool), (a'.tmps.size = 28 ∧ a'.defers = [] ∧ a'.tmps.getD 0 undef = .slice a n cap ∧ a'.tmps.getD 2 undef = .bool false ∧ a'.tmps.getD 3 undef = .pointer (some ⟨sb, 0, none⟩) ∧ a'.tmps.getD 4 undef = .int .i64 (k : Int)) ∧ k ≤ n ∧ ExtOk I D k ∧ SeenOf f I k ∧ Seen w' sb f ∧ Below sb w w') (fun a' _ => n - (intOf (a'.tmps.getD 4 undef)).toNat) rfl ?_ ?_
  · intro Q' hh
    have HH := mkHid hh
    clear hh
    go_wp2
    go_step3
    refine ‹∀ a w, Code.wp _ _ _ a w → _› _ _ (HH.out _ _ ?_)
    refine ⟨0, fun _ => false, ⟨rfl, rfl, rfl, rfl, by rw [← HSB.out]; rfl, rfl⟩, Nat.zero_le _, fun i hi => by omega, seen_none I, ?_, ?_⟩
    · rw [← HSB.out]; exact seen_new w
    · rw [← HSB.out]; exact (Below.refl _ _).alloc (Nat.le_refl _) _
  · rintro a' w' ⟨k, f, ⟨z, d, e0, e2, e3, e4⟩, hk, hok, hsn, hseen, hbel⟩
    obtain ⟨u, hu, ha⟩ := frame28 a' z d
    rw [hu] at e0 e2 e3 e4
    rw [e0, e2, e3, e4] at ha
    clear z d hu e0 e2 e3 e4
    subst ha
    have HK := mkHid hok
    have HN := mkHid hsn
    have HS := mkHid hseen
    have HB := mkHid hbel
    clear hok hsn hseen hbel
    by_cases hlt : k < n
    · rcases HROW.out with h0 | ⟨b, off, rfl, hbl, hrows⟩
      · omega
      obtain ⟨c0, c1, c2⟩ := hrows k hlt
      rw [HSB.out] at hbl
      have d0 := (HB.out.cell (p := ⟨b, off + k * 2, none⟩) hbl).trans c0
      have d1 := (HB.out.cell (p := ⟨b, off + k * 2 + 1, none⟩) hbl).trans c1
      have hne : ¬ b = sb := by omega
      unfold maxLen at c2
      clear c0 c1 hrows HROW
      have hz : sb ≤ w'.heap.size := by have := HB.out.size; rw [HSB.out] at this; exact this
      generalize hid : I k = id at d0
      generalize hdd : D k = dd at d1 c2
      have HID := mkHid hid
      have HDD := mkHid hdd
      clear hid hdd
      by_cases hr : 1 ≤ id ∧ id ≤ 14
      · obtain ⟨q, rfl⟩ : ∃ q : Nat, id = q := ⟨id.toNat, by omega⟩
        have A := mkHid (add_in sb q f (by omega) (by omega) w' HS.out)
        cases hf : f q with
        | true =>
          rw [hf] at A
          have HF := mkHid hf
          clear hf
          go_wp2_with fail
          refine (A.out).mono ?_
          rintro e w1 ⟨rfl, s1, p1⟩
          have P1 := mkHid p1
          clear s1 p1
          go_wp2
          simp only [Exit.jump]
          go_ret
          exact ⟨ret_b (exB_twice hlt HN.out HID.out HF.out).symm, by rw [HSB.out]; exact HB.out.trans (P1.out.belowE sb hz (Nat.le_refl _))⟩
        | false =>
          rw [hf] at A
          have HF := mkHid hf
          clear hf
          have W := mkHid (within_any dd.size 1 16)
          by_cases hs : 1 ≤ (dd.size : Int) ∧ (dd.size : Int) ≤ 16
          · rw [inR_yes hs.1 hs.2] at W
            go_wp2_with fail
            refine (A.out).mono ?_
            rintro e w1 ⟨rfl, s1, p1⟩
            have P1 := mkHid p1
            have S1 := mkHid s1
            have d1' := (p1.cell (p := ⟨b, off + k * 2 + 1, none⟩) (by show b < _; omega) hne).trans d1
            clear s1 p1 d0 d1
            go_wp2_with fail
            refine (W.out _).mono ?_
            rintro e w2 ⟨rfl, rfl⟩
            go_wp2
            go_step3
            refine ⟨rfl, ⟨k + 1, upd f q, ⟨rfl, rfl, rfl, rfl, rfl, by go_num⟩, by omega, ext_next HK.out HN.out HID.out HF.out (by omega) (by omega) (by rw [HDD.out]; exact hs), seen_next HN.out HID.out, S1.out, HB.out.trans (P1.out.belowE sb hz (Nat.le_refl _))⟩, ?_⟩
            simp [intOf]; omega
          · rw [inR_no hs] at W
            go_wp2_with fail
            refine (A.out).mono ?_
            rintro e w1 ⟨rfl, s1, p1⟩
            have P1 := mkHid p1
            have d1' := (p1.cell (p := ⟨b, off + k * 2 + 1, none⟩) (by show b < _; omega) hne).trans d1
            clear s1 p1 d0 d1
            go_wp2_with fail
            refine (W.out _).mono ?_
            rintro e w2 ⟨rfl, rfl⟩
            go_wp2
            simp only [Exit.jump]
            go_ret
            exact ⟨ret_b (exB_size hlt (by rw [HDD.out]; exact hs)).symm, by rw [HSB.out]; exact HB.out.trans (P1.out.belowE sb hz (Nat.le_refl _))⟩
      · have A := mkHid (add_out sb id hr)
        go_wp2_with fail
        refine (A.out _).mono ?_
        rintro e w1 ⟨rfl, rfl⟩
        go_wp2
        simp only [Exit.jump]
        go_ret
        exact ⟨ret_b (exB_out hlt (by rw [HID.out]; exact hr)).symm, by rw [HSB.out]; exact HB.out⟩
    · have hkn : k = n := by omega
      have HKN := mkHid hkn
      subst hkn
      go_wp2
      simp only [Exit.jump]
      go_ret
      exact ⟨ret_b (exB_end HK.out rfl).symm, by rw [HSB.out]; exact HB.out⟩
end Go.Proofs.Ytdajcgicpfpeoaa
