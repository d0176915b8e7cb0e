/-
  The reference's meter as its samples and its fates: Bytes, Full, Loss, Lost.
-/
import Derived.Test.YtjeffjpenhhnnaaRaF
import Derived.Test.YtjeffjpenhhnnaaRaX
namespace Go.Proofs.Ytjeffjpenhhnnaa
open Go.RowKit

theorem Lq.inside {N : Nat → Prop} {w : World} {size : Nat} {v : Value} {n : Nat} {xs : List Value} (h : Lq N w size v n xs) : Lq (fun k => N k ∧ k < w.heap.size) w size v n xs := by
  rcases h with h | ⟨g, off, c, h1, h2, h3, h4, h5, h6⟩
  · exact .inl h
  · exact .inr ⟨g, off, c, h1, ⟨h2, h5⟩, h3, h4, h5, h6⟩
theorem ntF_rev (x : Bool) (F : List Bool) : ntF F.reverse x = (ftF 1 x F).reverse := by
  unfold ntF ftF
  rw [List.reverse_take, show List.replicate 1 x = [x] from rfl, List.singleton_append, List.reverse_cons, List.length_cons, List.length_reverse]
theorem ftF_zero (x : Bool) {F : List Bool} (h : F.length ≤ 64) : ftF 0 x F = F := by unfold ftF; rw [List.replicate_zero, List.nil_append, List.take_of_length_le h]
theorem ftF_succ (n : Nat) (x : Bool) (F : List Bool) : ftF (n + 1) x F = ftF 1 x (ftF n x F) := by
  unfold ftF
  rw [List.replicate_succ, List.cons_append, show List.replicate 1 x = [x] from rfl, List.singleton_append, List.take_succ_cons, List.take_succ_cons, List.take_take]
  rfl

/-- The reference's meter: L counts, F are the last fates, the newest first. -/
def Rr (M : Nat → Prop) (w : World) (c : Nat) (win : Int) (sm : Bool) (en ear : Int) (L : List Sm) (F : List Bool) : Prop :=
  ∃ lv tv, Rb w c win lv sm en ear tv ∧ Lq (fun k => M k ∧ k ≠ c) w 2 lv L.length (sC L) ∧ Lq (fun k => M k ∧ k ≠ c) w 1 tv F.reverse.length (bC F.reverse) ∧ F.length ≤ 64 ∧ M c ∧ ∀ k, M k → k < w.heap.size
theorem Rr.kept {M Y : Nat → Prop} {w w' : World} {c : Nat} {win : Int} {sm : Bool} {en ear : Int} {L : List Sm} {F : List Bool} (h : Rr M w c win sm en ear L F) (ha : Apart Y w w') (hx : ∀ k, M k → ¬ Y k) : Rr M w' c win sm en ear L F := by
  obtain ⟨lv, tv, h1, h2, h3, h4, h5, h6⟩ := h
  exact ⟨lv, tv, h1.kept ha (hx c h5), h2.kept ha (fun k hk => hx k hk.1), h3.kept ha (fun k hk => hx k hk.1), h4, h5, fun k hk => Nat.lt_of_lt_of_le (h6 k hk) ha.size⟩
theorem Rr.own {M : Nat → Prop} {w : World} {c : Nat} {win : Int} {sm : Bool} {en ear : Int} {L : List Sm} {F : List Bool} (h : Rr M w c win sm en ear L F) : M c ∧ ∀ k, M k → k < w.heap.size := by
  obtain ⟨lv, tv, _, _, _, _, h⟩ := h
  exact h
theorem rr_new {w : World} {c : Nat} {win : Int} (h : Rb w c win (.slice none 0 0) false 0 0 (.slice none 0 0)) : Rr (fun k => k = c) w c win false 0 0 [] [] :=
  ⟨_, _, h, .inl ⟨rfl, rfl, rfl⟩, .inl ⟨rfl, rfl, rfl⟩, Nat.zero_le _, rfl, fun k e => by rw [show k = c from e]; exact lt_of_heap h⟩
theorem rnote {M : Nat → Prop} {w : World} {c : Nat} {win : Int} {sm : Bool} {en ear : Int} {L : List Sm} {F : List Bool} (h : Rr M w c win sm en ear L F) (x : Bool) :
    Calls Try.prog 28 #[.pointer (some ⟨c, 0, none⟩), .int .i64 (b2i x)] w fun e w' => e = .returned (.tuple #[]) ∧ ∃ M', Rr M' w' c win sm en ear L (ftF 1 x F) ∧ (∀ k, M' k → M k ∨ w.heap.size ≤ k) ∧ Apart (fun k => k = c) w w' := by
  obtain ⟨lv, tv, h1, h2, h3, h4, h5, h6⟩ := h
  refine (note_any h1 F.reverse h3 (by rw [List.length_reverse]; exact h4) x).mono ?_
  rintro e w' ⟨rfl, tv', r, q, a⟩
  rw [ntF_rev] at q
  have hc := h6 c h5
  refine ⟨rfl, fun k => (M k ∨ w.heap.size ≤ k) ∧ k < w'.heap.size, ⟨lv, tv', r, ?_, ?_, by rw [ftF_len]; omega, ⟨.inl h5, Nat.lt_of_lt_of_le hc a.size⟩, fun k hk => hk.2⟩, fun k hk => hk.1, a⟩
  · exact ((h2.kept a (fun k hk e => hk.2 e)).inside).mono (fun k hk => ⟨⟨.inl hk.1.1, hk.2⟩, hk.1.2⟩)
  · exact q.inside.mono (fun k hk => ⟨⟨.inr hk.1, hk.2⟩, by have := hk.1; omega⟩)

set_option maxHeartbeats 1000000 in
theorem rbytes {M : Nat → Prop} {w : World} {c : Nat} {win : Int} {sm : Bool} {en ear : Int} {L : List Sm} {F : List Bool} (h : Rr M w c win sm en ear L F) (hf : Fit L) (hl : L.length ≤ 4096) :
    Calls Try.prog 17 #[.pointer (some ⟨c, 0, none⟩)] w fun e w' => e = .returned (.int .i64 (sz L)) ∧ w' = w := by
  obtain ⟨lv, tv, h1, h2, -⟩ := h
  obtain ⟨c0, c1, c2, c3, c4, c5, cf⟩ := cells6 h1
  obtain ⟨n, HN⟩ : ∃ n, Hid (L.length = n) := ⟨_, mkHid rfl⟩
  obtain ⟨la, lc, rfl⟩ := h2.slice
  have LQ := mkHid h2
  have FT := mkHid hf
  rw [HN.out] at LQ hl c1
  have hn : (n : Int) ≤ 4096 := by omega
  clear c0 c2 c3 c4 c5 cf h1 h2 hf
  go_enter Try.func17, Try.ntmps17
  go_wp2_with fail
  go_loopg [3, 4] n (fun kx s3 s4 wr => ∃ i : Nat, s3 = .int .i64 (sz (L.take i)) ∧ s4 = .int .i64 i ∧ i ≤ n ∧ kx = n - i ∧ wr = w)
  case atStart => exact ⟨0, rfl, rfl, Nat.zero_le _, rfl, rfl⟩
  case round =>
    obtain ⟨i, rfl, rfl, hi, hkx, rfl⟩ := hrel
    have hb := sz_bd (l := L.take i) (fun s hs => FT.out s (List.mem_of_mem_take hs))
    rw [List.length_take, HN.out] at hb
    by_cases hlt : i < n
    · have hlt1 : (i : Int) < n := by omega
      obtain ⟨s, hs⟩ : ∃ s, L[i]? = some s := ⟨_, List.getElem?_eq_getElem (by rw [HN.out]; exact hlt)⟩
      have hsf := FT.out s (List.mem_of_getElem? hs)
      have hz : sz (L.take (i + 1)) = sz (L.take i) + s.2 := by rw [List.take_add_one, hs, sz_app]; simp [sz]
      obtain ⟨g, off, cc, e, hgc⟩ : ∃ g off cc, Value.slice la n lc = .slice (some ⟨g, off, none⟩) n cc ∧ ∀ j u, (sC L)[j]? = some u → wr.cell? ⟨g, off + j, none⟩ = some u := by
        rcases LQ.out with ⟨_, h, _⟩ | ⟨g, off, cc, e, _, _, _, _, _, h⟩
        · omega
        · exact ⟨g, off, cc, e, h⟩
      cases e
      have d1 := hgc _ _ (sC_at hs).2
      rw [← Nat.add_assoc] at d1
      obtain ⟨x, z⟩ := s
      simp only at d1 hsf hz
      obtain ⟨u, HU⟩ : ∃ u, Hid (sz (L.take i) = u) := ⟨_, mkHid rfl⟩
      rw [HU.out] at hb hz ⊢
      have hw : IntKind.i64.wrap (u + z) = u + z := by rw [IntKind.wrap_i64]; omega
      have hw2 : IntKind.i64.wrap ((i : Int) + 1) = (i : Int) + 1 := by rw [IntKind.wrap_i64]; omega
      have hzz := mkHid hz
      clear hz hgc hb
      go_wp2_with fail
      go_roundg (n - (i + 1))
      case measure => omega
      case rel => exact ⟨i + 1, by rw [hzz.out], by go_num, by omega, rfl, rfl⟩
    · obtain rfl : i = n := by omega
      have hz : sz (L.take i) = sz L := by rw [← HN.out, List.take_length]
      rw [hz]
      clear hz hb
      go_wp2_with fail
      go_ret
      exact ⟨rfl, rfl⟩
set_option maxHeartbeats 1000000 in
theorem rfull {M : Nat → Prop} {w : World} {c : Nat} {win : Int} {sm : Bool} {en ear : Int} {L : List Sm} {F : List Bool} (h : Rr M w c win sm en ear L F) (e1 : -1125899906842624 ≤ ear) (e2 : ear ≤ 1125899906842624) (n1 : -1125899906842624 ≤ en) (n2 : en ≤ 1125899906842624) :
    Calls Try.prog 19 #[.pointer (some ⟨c, 0, none⟩)] w fun e w' => e = .returned (.bool (sm && decide (win ≤ en - ear))) ∧ Apart (fun _ => False) w w' := by
  obtain ⟨lv, tv, h1, -⟩ := h
  have c0 := fun p => (cells6 (wd_heap h1 p)).1
  have c2 := fun p => (cells6 (wd_heap h1 p)).2.2.1
  have c3 := fun p => (cells6 (wd_heap h1 p)).2.2.2.1
  have c4 := fun p => (cells6 (wd_heap h1 p)).2.2.2.2.1
  have hw : IntKind.i64.wrap (en - ear) = en - ear := by rw [IntKind.wrap_i64]; omega
  clear h1
  go_enter Try.func19, Try.ntmps19
  cases sm with
  | false =>
    go_upto_region 1 with fail
    refine wp_region_wd (by kernel_rfl) (by kernel_rfl) ?_
    repeat (go_big_quiet_step (fail))
    refine wpQuiet_nil ?_
    rintro _ ⟨p, rfl⟩
    go_wp2
    go_ret
    exact ⟨rfl, wd_apart _ _⟩
  | true =>
    go_upto_region 1 with fail
    refine wp_region_wd (by kernel_rfl) (by kernel_rfl) ?_
    repeat (go_big_quiet_step (fail))
    refine wpQuiet_nil ?_
    rintro _ ⟨p, rfl⟩
    go_wp2
    go_ret
    exact ⟨rfl, wd_apart _ _⟩
theorem ones_rev (F : List Bool) : ones F.reverse = ones F := by
  induction F with
  | nil => rfl
  | cons b l ih => rw [List.reverse_cons, ones_app, ih]; simp only [ones]; omega
set_option maxHeartbeats 1000000 in
theorem rloss {M : Nat → Prop} {w : World} {c : Nat} {win : Int} {sm : Bool} {en ear : Int} {L : List Sm} {F : List Bool} (h : Rr M w c win sm en ear L F) :
    Calls Try.prog 21 #[.pointer (some ⟨c, 0, none⟩)] w fun e w' => e = .returned (.int .i64 (lossV F)) ∧ w' = w := by
  obtain ⟨lv, tv, h1, -, h2, h4, -⟩ := h
  obtain ⟨c0, c1, c2, c3, c4, c5, cf⟩ := cells6 h1
  obtain ⟨la, lc, rfl⟩ := h2.slice
  have LQ := mkHid h2
  have ho := ones_le F
  have hv : lossV F = ((256 * ones F.reverse / F.reverse.length : Nat) : Int) := by unfold lossV; rw [ones_rev, List.length_reverse, Nat.mul_comm]
  rw [hv]
  rw [← ones_rev, ← List.length_reverse] at ho
  rw [← List.length_reverse] at h4
  obtain ⟨T, HT⟩ : ∃ T, Hid (F.reverse = T) := ⟨_, mkHid rfl⟩
  rw [HT.out] at LQ h4 c5 ho ⊢
  obtain ⟨n, HN⟩ : ∃ n, Hid (T.length = n) := ⟨_, mkHid rfl⟩
  rw [HN.out] at LQ h4 c5 ho ⊢
  have hn : (n : Int) ≤ 64 := by omega
  clear c0 c1 c2 c3 c4 cf h1 h2 hv
  by_cases h0 : n = 0
  · subst h0
    go_enter Try.func21, Try.ntmps21
    go_wp2
    go_ret
    exact ⟨ret_i (by omega), rfl⟩
  · have hn0 : (n : Int) ≠ 0 := by omega
    have hn1 : ((n : Int) == 0) = false := by simp [h0]
    go_enter Try.func21, Try.ntmps21
    go_wp2_with fail
    go_loopg [3, 4] n (fun kx s3 s4 wr => ∃ i : Nat, s3 = .int .i64 (ones (T.take i) : Nat) ∧ s4 = .int .i64 i ∧ i ≤ n ∧ kx = n - i ∧ wr = w)
    case atStart => exact ⟨0, rfl, rfl, Nat.zero_le _, rfl, rfl⟩
    case round =>
      obtain ⟨i, rfl, rfl, hi, hkx, rfl⟩ := hrel
      by_cases hlt : i < n
      · have hlt1 : (i : Int) < n := by omega
        have hb := ones_le (T.take i)
        rw [List.length_take, HN.out] at hb
        obtain ⟨s, hs⟩ : ∃ s, T[i]? = some s := ⟨_, List.getElem?_eq_getElem (by rw [HN.out]; exact hlt)⟩
        have hz : ((ones (T.take (i + 1)) : Nat) : Int) = (ones (T.take i) : Nat) + b2i s := by rw [List.take_add_one, hs, ones_app]; cases s <;> simp [ones, b2i]
        obtain ⟨g, off, cc, e, hgc⟩ : ∃ g off cc, Value.slice la n lc = .slice (some ⟨g, off, none⟩) n cc ∧ ∀ j u, (bC T)[j]? = some u → wr.cell? ⟨g, off + j, none⟩ = some u := by
          rcases LQ.out with ⟨_, h, _⟩ | ⟨g, off, cc, e, _, _, _, _, _, h⟩
          · omega
          · exact ⟨g, off, cc, e, h⟩
        cases e
        have d1 := hgc i (vB s) (by unfold bC; rw [List.getElem?_map, hs]; rfl)
        have hsb : 0 ≤ b2i s ∧ b2i s ≤ 1 := by cases s <;> decide
        unfold vB at d1
        obtain ⟨z, HZ⟩ : ∃ z, Hid (b2i s = z) := ⟨_, mkHid rfl⟩
        obtain ⟨u, HU⟩ : ∃ u, Hid (ones (T.take i) = u) := ⟨_, mkHid rfl⟩
        rw [HU.out] at hb hz ⊢
        rw [HZ.out] at d1 hsb hz
        have hw : IntKind.i64.wrap ((u : Int) + z) = (u : Int) + z := by rw [IntKind.wrap_i64]; omega
        have hw2 : IntKind.i64.wrap ((i : Int) + 1) = (i : Int) + 1 := by rw [IntKind.wrap_i64]; omega
        have hzz := mkHid hz
        clear hz hgc hb ho
        go_wp2_with fail
        go_roundg (n - (i + 1))
        case measure => omega
        case rel => exact ⟨i + 1, by rw [hzz.out], by go_num, by omega, rfl, rfl⟩
      · obtain rfl : i = n := by omega
        have hz : T.take i = T := by rw [← HN.out, List.take_length]
        rw [hz]
        obtain ⟨o, HO⟩ : ∃ o, Hid (ones T = o) := ⟨_, mkHid rfl⟩
        rw [HO.out] at ho ⊢
        have hw : IntKind.i64.wrap (256 * (o : Int)) = 256 * (o : Int) := by rw [IntKind.wrap_i64]; omega
        clear hz
        go_wp2_with fail
        go_ret
        refine ⟨ret_i ?_, rfl⟩
        rw [Int.natCast_ediv, Int.natCast_mul, HO.out]
        rfl
set_option maxHeartbeats 1000000 in
theorem rlost {M : Nat → Prop} {w : World} {c : Nat} {win : Int} {sm : Bool} {en ear : Int} {L : List Sm} {F : List Bool} (h : Rr M w c win sm en ear L F) (n : Nat) (hn : n ≤ 4096) :
    Calls Try.prog 13 #[.pointer (some ⟨c, 0, none⟩), .int .i64 n] w fun e w' => e = .returned (.tuple #[]) ∧ ∃ M', Rr M' w' c win sm en ear L (ftF n true F) ∧ (∀ k, M' k → M k ∨ w.heap.size ≤ k) ∧ Apart (fun k => k = c) w w' := by
  have H0 := mkHid h
  have hF : F.length ≤ 64 := by obtain ⟨_, _, _, _, _, h, _⟩ := h; exact h
  have J0 := mkHid (show ∃ M', Rr M' w c win sm en ear L (ftF 0 true F) ∧ (∀ k, M' k → M k ∨ w.heap.size ≤ k) ∧ Apart (fun k => k = c) w w from ⟨M, by rw [ftF_zero true hF]; exact h, fun k hk => .inl hk, Apart.refl _ _⟩)
  have hn1 : (n : Int) ≤ 4096 := by omega
  clear h hF
  go_enter Try.func13, Try.ntmps13
  go_wp2_with fail
  go_loopg [4] n (fun kx s4 wr => ∃ i : Nat, s4 = .int .i64 i ∧ i ≤ n ∧ kx = n - i ∧ Hid (∃ M', Rr M' wr c win sm en ear L (ftF i true F) ∧ (∀ k, M' k → M k ∨ w.heap.size ≤ k) ∧ Apart (fun k => k = c) w wr))
  case atStart => exact ⟨0, rfl, Nat.zero_le _, rfl, J0⟩
  case round =>
    obtain ⟨i, rfl, hi, hkx, HJ⟩ := hrel
    by_cases hlt : i < n
    · have hlt1 : (i : Int) < n := by omega
      obtain ⟨M1, r1, m1, a1⟩ := HJ.out
      have C := mkHid (rnote r1 true)
      have hw2 : IntKind.i64.wrap ((i : Int) + 1) = (i : Int) + 1 := by rw [IntKind.wrap_i64]; omega
      have M1' := mkHid m1
      have A1 := mkHid a1
      clear r1 m1 a1
      go_wp2_with fail
      refine C.out.mono ?_
      rintro e w3 ⟨rfl, M3, r3, m3, a3⟩
      have J3 := mkHid (show ∃ M', Rr M' w3 c win sm en ear L (ftF (i + 1) true F) ∧ (∀ k, M' k → M k ∨ w.heap.size ≤ k) ∧ Apart (fun k => k = c) w w3 from ⟨M3, by rw [ftF_succ]; exact r3, fun k hk => by
        rcases m3 k hk with h | h
        · exact M1'.out k h
        · exact .inr (Nat.le_trans A1.out.size h), A1.out.trans a3 (fun _ _ h => h)⟩)
      clear r3 m3 a3
      go_wp2_with fail
      go_roundg (n - (i + 1))
      case measure => omega
      case rel => exact ⟨i + 1, by go_num, by omega, rfl, J3⟩
    · obtain rfl : i = n := by omega
      go_wp2_with fail
      first | go_end0 | ((try simp only [Exit.inBlock, Exit.then]); refine bodyPost_ret (results_none rfl _ _ _) rfl ?_)
      exact ⟨rfl, HJ.out⟩
theorem rlost_no (c : Nat) (n : Int) (h : n < 0 ∨ 4096 < n) (w : World) : Calls Try.prog 13 #[.pointer (some ⟨c, 0, none⟩), .int .i64 n] w fun e w' => e = .returned (.tuple #[]) ∧ w' = w := by
  have hz : n ≤ 0 ∨ 4096 < n := by omega
  clear h
  go_enter Try.func13, Try.ntmps13
  go_wp2_with fail
  go_loopg [4] 0 (fun kx s4 wr => s4 = .int .i64 0 ∧ wr = w)
  case atStart => exact ⟨rfl, rfl⟩
  case round =>
    obtain ⟨rfl, rfl⟩ := hrel
    by_cases h1 : n ≤ 0
    · clear hz
      go_wp2_with fail
      first | go_end0 | ((try simp only [Exit.inBlock, Exit.then]); refine bodyPost_ret (results_none rfl _ _ _) rfl ?_)
      exact ⟨rfl, rfl⟩
    · have h2 : 4096 < n := by omega
      have h3 : 0 < n := by omega
      clear hz
      go_wp2_with fail
      first | go_end0 | ((try simp only [Exit.inBlock, Exit.then]); refine bodyPost_ret (results_none rfl _ _ _) rfl ?_)
      exact ⟨rfl, rfl⟩
end Go.Proofs.Ytjeffjpenhhnnaa
