/-
  The base's above: a delay is laid into its row.
-/
import Derived.Test.YtnjghgbaffkafaaBaC
namespace Go.Proofs.Ytnjghgbaffkafaa
open Go.RowKit

theorem Bx.put3 {w : World} {b : Nat} {W : Int} {k : Nat} {R : Nat → Rw} {N Q : Int} (h : Bx w b W k R N Q) {i : Nat} (hi : i < 64) (n d : Int) (f : Bool) :
    Bx (((w.setCell ⟨b, 2 + i * 3, none⟩ (.int .i64 n)).setCell ⟨b, 2 + i * 3 + 1, none⟩ (.int .i64 d)).setCell ⟨b, 2 + i * 3 + 2, none⟩ (.bool f)) b W k (upd R i (n, d, f)) N Q := by
  have h1 := ((h.set_num hi n).set_least hi d).set_filled hi f
  simp only [upd_upd, upd_at] at h1
  exact h1
theorem rowOf_new {R : Nat → Rw} {i : Nat} {n d m : Int} {f : Bool} (h1 : (R i).1 = m) (h2 : (R i).2.2 = f) (h : f = false ∨ m ≠ n) : rowOf (R i) n d = (n, d, true) := by
  unfold rowOf
  rw [if_neg (by rw [h1, h2]; rintro ⟨a, b⟩; rcases h with h | h; · rw [h] at a; cases a
                 · exact h b)]
theorem rowOf_old {R : Nat → Rw} {i : Nat} {n d l : Int} (h1 : (R i).1 = n) (h3 : (R i).2.1 = l) (h2 : (R i).2.2 = true) : rowOf (R i) n d = (n, min l d, true) := by
  unfold rowOf
  rw [if_pos ⟨h2, h1⟩, h3]
set_option maxHeartbeats 2000000 in
theorem above_any {w : World} {b : Nat} {W : Int} {k : Nat} {R : Nat → Rw} {N Q : Int} (h : Bx w b W k R N Q) (n0 : 0 ≤ N) (n1 : N ≤ 1125899906842624) (k1 : 1 ≤ k) (k2 : k ≤ 64) (n d : Int) (hn0 : 0 ≤ n)
    (d0 : -1125899906842624 ≤ d) (d1 : d ≤ 1125899906842624) (i : Nat) (hi : (i : Int) = n % k)
    (x : Int) (hx : (ld (upd R i (rowOf (R i) n d)) (N - k) k).1 = x) (x0 : -1125899906842624 ≤ x) (x1 : x ≤ 1125899906842624) :
    Calls Try.prog 21 #[.pointer (some ⟨b, 0, none⟩), .int .i64 n, .int .i64 d] w fun e w' => e = .returned (.int .i64 (d - x)) ∧ Bx w' b W k (upd R i (rowOf (R i) n d)) N Q ∧ Apart (fun k => k = b) w w' := by
  have hik : i < k := by have := Int.emod_lt_of_pos n (show (0 : Int) < k by omega); omega
  have hik1 : (i : Int) < k := by omega
  have hrem : n.tmod (k : Int) = i := by rw [hi]; exact Int.tmod_eq_emod_of_nonneg hn0
  have hw : IntKind.i64.wrap (i : Int) = i := by rw [IntKind.wrap_i64]; omega
  have hk0 : ¬ (k : Int) = 0 := by omega
  have hkm : ¬ (k : Int) = -1 := by omega
  have hkp : (0 : Int) < k := by omega
  have C := mkHid (fun p => cut_any (w := wd w p) (wd_heap h p) k2)
  have c1 := fun p => Bx.rows (w := wd w p) (wd_heap h p)
  have H := mkHid h
  have S := mkHid (fun W => (Sat.sub_any d x (by omega) (by omega) (by omega) (by omega) W).mono (fun e w' ⟨h1, h2⟩ => And.intro h1 (below_apart h2)))
  have E : Sat.satH (d - x) = d - x := Sat.satH_in _ (by omega) (by omega)
  rw [E] at S
  have HX := mkHid hx
  have HI := mkHid hi
  clear h E hx hi
  go_enter Try.func21, Try.ntmps21
  go_upto_region 1 with fail
  refine wp_region_wd (by kernel_rfl) (by kernel_rfl) ?_
  repeat (go_big_quiet_step ((go_at_call 23; exact wd_call (C.out _))))
  refine wpQuiet_nil ?_
  rintro _ ⟨p, rfl⟩
  have A0 := mkHid (wd_apart w p)
  have HB := mkHid (H.out.kept A0.out (fun h => h))
  obtain ⟨wq, HWQ⟩ : ∃ wq, Hid (wd w p = wq) := ⟨_, mkHid rfl⟩
  rw [HWQ.out] at A0 HB ⊢
  clear C c1 H HWQ
  obtain ⟨m, hm⟩ : ∃ m, (R i).1 = m := ⟨_, rfl⟩
  obtain ⟨l, hl⟩ : ∃ l, (R i).2.1 = l := ⟨_, rfl⟩
  obtain ⟨f, hf⟩ : ∃ f, (R i).2.2 = f := ⟨_, rfl⟩
  obtain ⟨r0, r1, r2⟩ := HB.out.row (show i < 64 by omega)
  rw [hm] at r0
  rw [hl] at r1
  rw [hf] at r2
  cases f with
  | false =>
    have HE := mkHid (rowOf_new (n := n) (d := d) hm hf (.inl rfl))
    rw [HE.out] at HX
    have H3 := mkHid (HB.out.put3 (show i < 64 by omega) n d true)
    have H2 := mkHid ((HB.out.set_num (show i < 64 by omega) n).set_least (show i < 64 by omega) d)
    have H1 := mkHid (HB.out.set_num (show i < 64 by omega) n)
    have H4 := mkHid (H3.out.set_least (show i < 64 by omega) d)
    rw [upd_at, upd_upd] at H4
    have A4 := mkHid (((((A0.out.mono (Y := fun k => k = b) (fun _ _ h => h.elim)).setCell (p := ⟨b, 2 + i * 3, none⟩) (fun _ => rfl) (.int .i64 n)).setCell (p := ⟨b, 2 + i * 3 + 1, none⟩) (fun _ => rfl) (.int .i64 d)).setCell (p := ⟨b, 2 + i * 3 + 2, none⟩) (fun _ => rfl) (.bool true)).setCell (p := ⟨b, 2 + i * 3 + 1, none⟩) (fun _ => rfl) (.int .i64 d))
    have f0 := HB.out.frozen
    have f1 := H1.out.frozen
    have f2 := H2.out.frozen
    have f3 := H3.out.frozen
    obtain ⟨s0, s1, s2⟩ := H3.out.row (show i < 64 by omega)
    rw [upd_at] at s1
    simp only at s1
    clear hm hl hf s0 s2 H1 H2
    go_wp2_with fail
    refine (least_any H4.out n0 n1 k2).mono ?_
    rintro e w5 ⟨rfl, A5⟩
    have H5 := mkHid (H4.out.kept A5 (fun h => h))
    have A5 := mkHid (A4.out.trans A5 (fun _ _ h => h.elim))
    rw [HX.out]
    clear f0 f1 f2 f3 s1
    go_wp2_with fail
    refine (S.out _).mono ?_
    rintro e w6 ⟨rfl, A6⟩
    have H6 := mkHid (H5.out.kept A6 (fun h => h))
    have A6 := mkHid (A5.out.trans A6 (fun _ _ h => h.elim))
    go_wp2
    go_ret
    exact ⟨rfl, by rw [HE.out]; exact H6.out, A6.out⟩
  | true =>
    by_cases hs : m = n
    · subst hs
      by_cases hd : l ≤ d
      · have HE := mkHid (rowOf_old (d := d) hm hl hf)
        rw [Int.min_eq_left hd] at HE
        rw [HE.out] at HX
        have H4 := mkHid (HB.out.set_least (show i < 64 by omega) l)
        rw [hm, hf] at H4
        have A4 := mkHid ((A0.out.mono (Y := fun k => k = b) (fun _ _ h => h.elim)).setCell (p := ⟨b, 2 + i * 3 + 1, none⟩) (fun _ => rfl) (.int .i64 l))
        have f0 := HB.out.frozen
        clear hm hl hf
        go_wp2_with fail
        refine (least_any H4.out n0 n1 k2).mono ?_
        rintro e w5 ⟨rfl, A5⟩
        have H5 := mkHid (H4.out.kept A5 (fun h => h))
        have A5 := mkHid (A4.out.trans A5 (fun _ _ h => h.elim))
        rw [HX.out]
        clear f0
        go_wp2_with fail
        refine (S.out _).mono ?_
        rintro e w6 ⟨rfl, A6⟩
        have H6 := mkHid (H5.out.kept A6 (fun h => h))
        have A6 := mkHid (A5.out.trans A6 (fun _ _ h => h.elim))
        go_wp2
        go_ret
        exact ⟨rfl, by rw [HE.out]; exact H6.out, A6.out⟩
      · have HE := mkHid (rowOf_old (d := d) hm hl hf)
        rw [Int.min_eq_right (by omega)] at HE
        rw [HE.out] at HX
        have H4 := mkHid (HB.out.set_least (show i < 64 by omega) d)
        rw [hm, hf] at H4
        have A4 := mkHid ((A0.out.mono (Y := fun k => k = b) (fun _ _ h => h.elim)).setCell (p := ⟨b, 2 + i * 3 + 1, none⟩) (fun _ => rfl) (.int .i64 d))
        have f0 := HB.out.frozen
        clear hm hl hf
        go_wp2_with fail
        refine (least_any H4.out n0 n1 k2).mono ?_
        rintro e w5 ⟨rfl, A5⟩
        have H5 := mkHid (H4.out.kept A5 (fun h => h))
        have A5 := mkHid (A4.out.trans A5 (fun _ _ h => h.elim))
        rw [HX.out]
        clear f0
        go_wp2_with fail
        refine (S.out _).mono ?_
        rintro e w6 ⟨rfl, A6⟩
        have H6 := mkHid (H5.out.kept A6 (fun h => h))
        have A6 := mkHid (A5.out.trans A6 (fun _ _ h => h.elim))
        go_wp2
        go_ret
        exact ⟨rfl, by rw [HE.out]; exact H6.out, A6.out⟩
    · have hs' : ¬ n = m := fun h => hs h.symm
      have HE := mkHid (rowOf_new (n := n) (d := d) hm hf (.inr hs))
      rw [HE.out] at HX
      have H3 := mkHid (HB.out.put3 (show i < 64 by omega) n d true)
      have H2 := mkHid ((HB.out.set_num (show i < 64 by omega) n).set_least (show i < 64 by omega) d)
      have H1 := mkHid (HB.out.set_num (show i < 64 by omega) n)
      have H4 := mkHid (H3.out.set_least (show i < 64 by omega) d)
      rw [upd_at, upd_upd] at H4
      have A4 := mkHid (((((A0.out.mono (Y := fun k => k = b) (fun _ _ h => h.elim)).setCell (p := ⟨b, 2 + i * 3, none⟩) (fun _ => rfl) (.int .i64 n)).setCell (p := ⟨b, 2 + i * 3 + 1, none⟩) (fun _ => rfl) (.int .i64 d)).setCell (p := ⟨b, 2 + i * 3 + 2, none⟩) (fun _ => rfl) (.bool true)).setCell (p := ⟨b, 2 + i * 3 + 1, none⟩) (fun _ => rfl) (.int .i64 d))
      have f0 := HB.out.frozen
      have f1 := H1.out.frozen
      have f2 := H2.out.frozen
      have f3 := H3.out.frozen
      obtain ⟨s0, s1, s2⟩ := H3.out.row (show i < 64 by omega)
      rw [upd_at] at s1
      simp only at s1
      clear hm hl hf s0 s2 H1 H2
      go_wp2_with fail
      refine (least_any H4.out n0 n1 k2).mono ?_
      rintro e w5 ⟨rfl, A5⟩
      have H5 := mkHid (H4.out.kept A5 (fun h => h))
      have A5 := mkHid (A4.out.trans A5 (fun _ _ h => h.elim))
      rw [HX.out]
      clear f0 f1 f2 f3 s1
      go_wp2_with fail
      refine (S.out _).mono ?_
      rintro e w6 ⟨rfl, A6⟩
      have H6 := mkHid (H5.out.kept A6 (fun h => h))
      have A6 := mkHid (A5.out.trans A6 (fun _ _ h => h.elim))
      go_wp2
      go_ret
      exact ⟨rfl, by rw [HE.out]; exact H6.out, A6.out⟩
end Go.Proofs.Ytnjghgbaffkafaa
