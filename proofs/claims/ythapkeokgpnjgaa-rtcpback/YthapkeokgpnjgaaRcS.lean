/-
  How many bytes parts have together, or that one of them can't be.
-/
import Derived.Test.YthapkeokgpnjgaaRcM
namespace Go.Proofs.Ythapkeokgpnjgaa
open Go.RowKit

/-- A throw. -/
abbrev thrown (e : Int) : Ending := .panicked [{ v := .iface 26 (.int .i64 e), recovered := false }]
/-- May all of them be? -/
def allOk (l : List Pt) : Bool := l.all Pt.ok
theorem allOk_iff {l : List Pt} : allOk l = true ↔ ∀ p ∈ l, p.ok = true := by simp [allOk]
theorem allOk_no {l : List Pt} {i : Nat} {p : Pt} (h : l[i]? = some p) (hp : p.ok = false) : allOk l = false := by
  cases e : allOk l with
  | false => rfl
  | true => have := allOk_iff.1 e p (List.mem_of_getElem? h); rw [hp] at this; cases this
theorem allOk_take {l : List Pt} {i : Nat} {p : Pt} (h : l[i]? = some p) (hp : p.ok = true) (h2 : allOk (l.take i) = true) : allOk (l.take (i + 1)) = true := by
  rw [take_next h]; simp [allOk, hp]; simpa [allOk] using h2
theorem frame28 (a : Act) (hs : a.tmps.size = 28) (hd : a.defers = []) : ∃ u : Nat → Value, (∀ i, a.tmps.getD i undef = u i) ∧ a = { tmps := #[u 0, u 1, u 2, u 3, u 4, u 5, u 6, u 7, u 8, u 9, u 10, u 11, u 12, u 13, u 14, u 15, u 16, u 17, u 18, u 19, u 20, u 21, u 22, u 23, u 24, u 25, u 26, u 27], defers := [] } := frame_of a 28 hs hd
set_option maxRecDepth 100000 in
set_option maxHeartbeats 1000000 in
theorem size_any (a : Option Addr) (cap : Nat) (l : List Pt) (hz : sz l ≤ 10000000) (w : World) (h : PA w.heap.size w a l) :
    Calls Try.prog 17 #[.slice a l.length cap] w fun e w' => ((allOk l = true ∧ e = .returned (.int .i64 (sz l : Int))) ∨ (allOk l = false ∧ e = thrown 1)) ∧ Below w.heap.size w w' := by
  have H := mkHid h
  have HZ := mkHid hz
  obtain ⟨n, HN⟩ : ∃ n, Hid (l.length = n) := ⟨_, rfl⟩
  have hn : (n : Int) ≤ 10000000 := by have := sz_len l; have := HN.out; omega
  rw [HN.out]
  clear h hz
  go_enter Try.func17, Try.ntmps17
  go_wp2
  refine wp_scope_label 0 (fun a' w' => ∃ (i : Nat), (a'.tmps.size = 28 ∧ a'.defers = [] ∧ a'.tmps.getD 0 undef = .slice a n cap ∧ a'.tmps.getD 2 undef = .int .i64 0 ∧ a'.tmps.getD 3 undef = .int .i64 (sz (l.take i) : Int) ∧ a'.tmps.getD 4 undef = .int .i64 (i : Int)) ∧ i ≤ n ∧ allOk (l.take i) = true ∧ Below w.heap.size w w') (fun a' _ => n - (intOf (a'.tmps.getD 4 undef)).toNat) rfl ?_ ?_
  · intro Q' hh
    have HH := mkHid hh
    clear hh
    go_wp2
    go_step3
    refine ‹∀ a w, Code.wp _ _ _ a w → _› _ _ (HH.out _ _ ?_)
    exact ⟨0, ⟨rfl, rfl, rfl, rfl, rfl, rfl⟩, Nat.zero_le _, rfl, Below.refl _ _⟩
  · rintro a' w' ⟨i, ⟨z, d, e0, e2, e3, e4⟩, hi, hok, hb⟩
    obtain ⟨u, hu, ha⟩ := frame28 a' z d
    rw [hu] at e0 e2 e3 e4
    rw [e0, e2, e3, e4] at ha
    clear z d hu e0 e2 e3 e4
    subst ha
    have HB := mkHid hb
    have HOK := mkHid hok
    clear hb hok
    by_cases hlt : i < n
    · obtain ⟨b, off, p, rfl, hbl, hp, hc⟩ := H.out.at i (by rw [HN.out]; exact hlt)
      have hc2 := hc.kept HB.out hbl
      have hsz := sz_next hp
      have hz1 := sz_take l (i + 1)
      have hz2 := HZ.out
      obtain ⟨x, HX⟩ : ∃ x, Hid (sz (l.take i) = x) := ⟨_, rfl⟩
      rw [HX.out] at hsz ⊢
      have hx1 : (x : Int) + (4 + p.d.size) ≤ 10000000 := by omega
      have hx2 : (p.d.size : Int) ≤ 10000000 := by omega
      have HSZ := mkHid hsz
      have HP := mkHid hp
      have IP := mkHid (fun w => ispart_any p hc.2.2.2 w)
      have HBL := mkHid hbl
      clear hsz hz1 hz2 hp hc
      have HC := mkHid hc2
      obtain ⟨c0, c1, c2, c3⟩ := hc2
      have hne : ¬ (i : Int) = n := by omega
      unfold pv at IP
      obtain ⟨pc, pt, pd⟩ := p
      simp only at *
      clear c3
      cases hpo : Pt.ok ⟨pc, pt, pd⟩ with
      | false =>
        rw [hpo] at IP
        have HPO := mkHid hpo
        clear hpo
        go_wp2_with fail
        refine (IP.out _).mono ?_
        rintro e w1 ⟨rfl, hb1⟩
        have HB1 := mkHid hb1
        clear hb1
        go_wp2
        simp only [Exit.jump]
        refine ⟨rfl, .inr ⟨allOk_no HP.out HPO.out, rfl⟩, ?_⟩
        exact HB.out.trans (HB1.out.mono HB.out.size)
      | true =>
        rw [hpo] at IP
        have HPO := mkHid hpo
        clear hpo
        go_wp2_with fail
        refine (IP.out _).mono ?_
        rintro e w1 ⟨rfl, hb1⟩
        have HB1 := mkHid hb1
        have hc3 := HC.out.kept hb1 (Nat.lt_of_lt_of_le HBL.out HB.out.size)
        obtain ⟨d0, d1, d2, _⟩ := hc3
        clear hb1
        go_wp2
        go_step3
        refine ⟨rfl, ⟨i + 1, ⟨rfl, rfl, rfl, rfl, by rw [HSZ.out]; go_num, by go_num⟩, by omega, allOk_take HP.out HPO.out HOK.out, HB.out.trans (HB1.out.mono HB.out.size)⟩, ?_⟩
        simp [intOf]; omega
    · obtain rfl : i = n := by omega
      have hok := HOK.out
      rw [← HN.out, List.take_length] at hok ⊢
      rw [HN.out]
      obtain ⟨x, HX⟩ : ∃ x, Hid (sz l = x) := ⟨_, rfl⟩
      rw [HX.out]
      have HOK2 := mkHid hok
      clear hok
      go_wp2
      simp only [Exit.jump]
      go_ret
      exact ⟨.inl ⟨HOK2.out, by rw [HX.out]; rfl⟩, HB.out⟩
end Go.Proofs.Ythapkeokgpnjgaa
