/-
  A meter and the reference's, side by side.
-/
import Derived.Test.YtjeffjpenhhnnaaRaJ
import Derived.Test.YtjeffjpenhhnnaaRaAd
namespace Go.Proofs.Ytjeffjpenhhnnaa
open Go.RowKit

theorem rgot_no (c : Nat) (x z : Int) (h : z < 0 ∨ 1500 < z ∨ x < -1125899906842624 ∨ 1125899906842624 < x) (w : World) : Calls Try.prog 11 #[.pointer (some ⟨c, 0, none⟩), .int .i64 x, .int .i64 z] w fun e w' => e = .returned (.tuple #[]) ∧ w' = w := by
  by_cases h1 : z < 0
  · clear h
    go_enter Try.func11, Try.ntmps11
    go_wp2
    first | go_end0 | ((try simp only [Exit.inBlock, Exit.then]); refine bodyPost_ret (results_none rfl _ _ _) rfl ?_)
    exact ⟨rfl, rfl⟩
  · by_cases h2 : 1500 < z
    · clear h
      go_enter Try.func11, Try.ntmps11
      go_wp2
      first | go_end0 | ((try simp only [Exit.inBlock, Exit.then]); refine bodyPost_ret (results_none rfl _ _ _) rfl ?_)
      exact ⟨rfl, rfl⟩
    · by_cases h3 : x < -1125899906842624
      · clear h
        go_enter Try.func11, Try.ntmps11
        go_wp2
        first | go_end0 | ((try simp only [Exit.inBlock, Exit.then]); refine bodyPost_ret (results_none rfl _ _ _) rfl ?_)
        exact ⟨rfl, rfl⟩
      · have h4 : 1125899906842624 < x := by omega
        clear h
        go_enter Try.func11, Try.ntmps11
        go_wp2
        first | go_end0 | ((try simp only [Exit.inBlock, Exit.then]); refine bodyPost_ret (results_none rfl _ _ _) rfl ?_)
        exact ⟨rfl, rfl⟩

set_option maxHeartbeats 1000000 in
theorem rfull_no {M : Nat → Prop} {w : World} {c : Nat} {win : Int} {en ear : Int} {L : List Sm} {F : List Bool} (h : Rr M w c win false en ear L F) :
    Calls Try.prog 19 #[.pointer (some ⟨c, 0, none⟩)] w fun e w' => e = .returned (.bool false) ∧ Apart (fun _ => False) w w' := by
  obtain ⟨lv, tv, h1, -⟩ := h
  have c2 := fun p => (cells6 (wd_heap h1 p)).2.2.1
  clear h1
  go_enter Try.func19, Try.ntmps19
  go_upto_region 1 with fail
  refine wp_region_wd (by kernel_rfl) (by kernel_rfl) ?_
  repeat (go_big_quiet_step (fail))
  refine wpQuiet_nil ?_
  rintro _ ⟨p, rfl⟩
  go_wp2
  go_ret
  exact ⟨rfl, wd_apart _ _⟩

structure Pj (w0 : World) (b c : Nat) (win : Int) (i : Nat) (sm : Bool) (ear en enR earR : Int) (L LR : List Sm) (F : List Bool) (N M : Nat → Prop) (wr : World) : Prop where
  mt : Mt N wr b win ear en L F
  rr : Rr M wr c win sm enR earR LR F
  pm : L.Perm LR
  len : L.length ≤ i
  bd : Bd win ear en
  dj : ∀ q, N q → w0.heap.size ≤ q ∧ ¬ M q
  mm : ∀ q, M q → w0.heap.size ≤ q
  ap : Apart (fun q => w0.heap.size ≤ q) w0 wr
  yes : sm = true → enR = en ∧ earR = ear
  no : sm = false → ear = 1125899906842624 ∧ en = -1125899906842624 ∧ L = []
section
variable {w0 : World} {b c : Nat} {win : Int} {i : Nat} {sm : Bool} {ear en enR earR : Int} {L LR : List Sm} {F : List Bool} {N M : Nat → Prop} {wr wr' : World}
theorem Pj.kept (h : Pj w0 b c win i sm ear en enR earR L LR F N M wr) (ha : Apart (fun _ => False) wr wr') : Pj w0 b c win i sm ear en enR earR L LR F N M wr' :=
  ⟨h.mt.kept ha (fun _ _ h => h), h.rr.kept ha (fun _ _ h => h), h.pm, h.len, h.bd, h.dj, h.mm, h.ap.trans ha (fun _ _ h => h.elim), h.yes, h.no⟩
theorem Pj.next (h : Pj w0 b c win i sm ear en enR earR L LR F N M wr) : Pj w0 b c win (i + 1) sm ear en enR earR L LR F N M wr :=
  ⟨h.mt, h.rr, h.pm, Nat.le_succ_of_le h.len, h.bd, h.dj, h.mm, h.ap, h.yes, h.no⟩
/-- The meter's step and the reference's, one behind the other. -/
theorem Pj.both {w1 w2 : World} {sm' : Bool} {ear' en' enR' earR' : Int} {L' LR' : List Sm} {F' : List Bool} {N' M' : Nat → Prop} (h : Pj w0 b c win i sm ear en enR earR L LR F N M wr)
    (hm : Mt N' w1 b win ear' en' L' F') (hn : ∀ q, N' q → N q ∨ wr.heap.size ≤ q) (ha : Apart N wr w1) (hr : Rr M' w2 c win sm' enR' earR' LR' F') (hq : ∀ q, M' q → M q ∨ w1.heap.size ≤ q) (hb : Apart (fun k => k = c) w1 w2)
    (hp : L'.Perm LR') (hl : L'.length ≤ i + 1) (hd : Bd win ear' en') (hs : sm' = true → enR' = en' ∧ earR' = ear') (hz : sm' = false → ear' = 1125899906842624 ∧ en' = -1125899906842624 ∧ L' = []) :
    Pj w0 b c win (i + 1) sm' ear' en' enR' earR' L' LR' F' N' M' w2 := by
  have hc := h.rr.own.1
  have hcs := h.rr.own.2 c hc
  have hsz := ha.size
  have h0 := h.ap.size
  refine ⟨hm.kept hb (fun k hk e => ?_), hr, hp, hl, hd, ?_, ?_, (h.ap.trans ha (fun k _ hk => (h.dj k hk).1)).trans hb (fun k _ e => by rw [show k = c from e]; exact h.mm c hc), hs, hz⟩
  · subst e
    rcases hn _ hk with h1 | h1
    · exact (h.dj _ h1).2 hc
    · omega
  · intro q hq'
    have hqs := hm.own.2 q hq'
    rcases hn q hq' with h1 | h1
    · refine ⟨(h.dj q h1).1, fun h2 => ?_⟩
      rcases hq q h2 with h3 | h3
      · exact (h.dj q h1).2 h3
      · omega
    · refine ⟨by omega, fun h2 => ?_⟩
      rcases hq q h2 with h3 | h3
      · have := h.rr.own.2 q h3; omega
      · omega
  · intro q hq'
    rcases hq q hq' with h1 | h1
    · exact h.mm q h1
    · omega
theorem Pj.rr1 {w1 : World} (h : Pj w0 b c win i sm ear en enR earR L LR F N M wr) (ha : Apart N wr w1) : Rr M w1 c win sm enR earR LR F := h.rr.kept ha (fun k hk e => (h.dj k e).2 hk)
theorem Pj.fit (h : Pj w0 b c win i sm ear en enR earR L LR F N M wr) : Fit LR := fit_perm h.pm h.mt.fit
theorem rtV_none (h1 : 1 ≤ win) : rtV win 1125899906842624 (-1125899906842624) [] = 0 := by
  unfold rtV
  have hs : 1 ≤ spn win 1125899906842624 (-1125899906842624) := by unfold spn; omega
  rw [mdV_d _ _ _ (by omega), show sz [] = 0 from rfl, Int.zero_mul, Int.zero_ediv, satH_in _ (by omega) (by omega)]
theorem Pj.rate (h : Pj w0 b c win i sm ear en enR earR L LR F N M wr) (hi : i ≤ 200) : ∃ r : Int, (∀ p, Calls Try.prog 14 #[.pointer (some ⟨b, 0, none⟩)] (wd wr p) fun e w' => e = .returned (.int .i64 r) ∧ Apart (fun _ => False) (wd wr p) w') ∧
    (∀ p, Calls Try.prog 15 #[.pointer (some ⟨c, 0, none⟩)] (wd wr p) fun e w' => e = .returned (.int .i64 r) ∧ Apart (fun _ => False) (wd wr p) w') := by
  have hl := h.len
  have hpl := h.pm.length_eq
  refine ⟨rtV win ear en L, fun p => rate_mt (h.kept (wd_apart wr p)).mt h.bd (by omega), fun p => ?_⟩
  cases sm with
  | true =>
    obtain ⟨rfl, rfl⟩ := h.yes rfl
    rw [rtV_perm h.pm]
    exact rrate (h.kept (wd_apart wr p)).rr h.bd h.fit (by omega)
  | false =>
    obtain ⟨rfl, rfl, rfl⟩ := h.no rfl
    rw [rtV_none h.bd.1]
    exact rrate_no (h.kept (wd_apart wr p)).rr
theorem Pj.bytes (h : Pj w0 b c win i sm ear en enR earR L LR F N M wr) (hi : i ≤ 200) : ∃ r : Int, (∀ p, Calls Try.prog 16 #[.pointer (some ⟨b, 0, none⟩)] (wd wr p) fun e w' => e = .returned (.int .i64 r) ∧ Apart (fun _ => False) (wd wr p) w') ∧
    (∀ p, Calls Try.prog 17 #[.pointer (some ⟨c, 0, none⟩)] (wd wr p) fun e w' => e = .returned (.int .i64 r) ∧ Apart (fun _ => False) (wd wr p) w') := by
  have hl := h.len
  have hpl := h.pm.length_eq
  refine ⟨sz L, fun p => bytes_mt (h.kept (wd_apart wr p)).mt, fun p => ?_⟩
  rw [sz_perm h.pm]
  exact (rbytes (h.kept (wd_apart wr p)).rr h.fit (by omega)).mono (fun e w' ⟨h1, h2⟩ => And.intro h1 (by subst h2; exact Apart.refl (fun _ => False) _))
theorem Pj.full (h : Pj w0 b c win i sm ear en enR earR L LR F N M wr) : ∃ r : Bool, (∀ p, Calls Try.prog 18 #[.pointer (some ⟨b, 0, none⟩)] (wd wr p) fun e w' => e = .returned (.bool r) ∧ Apart (fun _ => False) (wd wr p) w') ∧
    (∀ p, Calls Try.prog 19 #[.pointer (some ⟨c, 0, none⟩)] (wd wr p) fun e w' => e = .returned (.bool r) ∧ Apart (fun _ => False) (wd wr p) w') := by
  refine ⟨decide (win ≤ en - ear), fun p => full_mt (h.kept (wd_apart wr p)).mt h.bd, fun p => ?_⟩
  obtain ⟨b1, b2, b3, b4, b5, b6⟩ := h.bd
  cases sm with
  | true =>
    obtain ⟨rfl, rfl⟩ := h.yes rfl
    exact rfull (h.kept (wd_apart wr p)).rr b3 b4 b5 b6
  | false =>
    obtain ⟨rfl, rfl, rfl⟩ := h.no rfl
    rw [decide_eq_false (by omega)]
    exact rfull_no (h.kept (wd_apart wr p)).rr
theorem Pj.loss (h : Pj w0 b c win i sm ear en enR earR L LR F N M wr) : ∃ r : Int, (∀ p, Calls Try.prog 20 #[.pointer (some ⟨b, 0, none⟩)] (wd wr p) fun e w' => e = .returned (.int .i64 r) ∧ Apart (fun _ => False) (wd wr p) w') ∧
    (∀ p, Calls Try.prog 21 #[.pointer (some ⟨c, 0, none⟩)] (wd wr p) fun e w' => e = .returned (.int .i64 r) ∧ Apart (fun _ => False) (wd wr p) w') :=
  ⟨lossV F, fun p => loss_mt (h.kept (wd_apart wr p)).mt, fun p => (rloss (h.kept (wd_apart wr p)).rr).mono (fun e w' ⟨h1, h2⟩ => And.intro h1 (by subst h2; exact Apart.refl (fun _ => False) _))⟩
end
end Go.Proofs.Ytjeffjpenhhnnaa
