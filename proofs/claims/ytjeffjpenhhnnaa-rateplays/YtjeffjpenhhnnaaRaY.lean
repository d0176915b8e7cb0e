/-
  A sample is taken in.
-/
import Derived.Test.YtjeffjpenhhnnaaRaX
namespace Go.Proofs.Ytjeffjpenhhnnaa
open Go.RowKit

theorem insL_perm (L : List Sm) (j : Nat) (s : Sm) : (insL L j s).Perm (L ++ [s]) := by
  unfold insL
  have h : (L.take j ++ s :: L.drop j).Perm (s :: (L.take j ++ L.drop j)) := List.perm_middle
  rw [List.take_append_drop] at h
  exact h.trans (List.perm_append_singleton s L).symm
theorem sz_perm {L M : List Sm} (h : L.Perm M) : sz L = sz M := by
  induction h with
  | nil => rfl
  | cons s _ ih => rw [sz_cons, sz_cons, ih]
  | swap s t l => rw [sz_cons, sz_cons, sz_cons, sz_cons]; omega
  | trans _ _ h1 h2 => rw [h1, h2]
theorem fit_perm {L M : List Sm} (h : L.Perm M) (f : Fit L) : Fit M := fun s hs => f s (h.mem_iff.2 hs)
theorem fit_snoc {L : List Sm} (h : Fit L) {x z : Int} (z0 : 0 ≤ z) (z1 : z ≤ 1500) : Fit (L ++ [(x, z)]) := by
  intro s hs
  rcases List.mem_append.1 hs with h1 | h1
  · exact h s h1
  · rw [List.mem_singleton] at h1; subst h1; exact ⟨z0, z1⟩
/-- Which samples count at this end. -/
def inW (win en : Int) (s : Sm) : Bool := decide (en - win < s.1)
/-- What counts behind one more. -/
def stF (win en : Int) (L : List Sm) (x z : Int) : List Sm := (L ++ [(x, z)]).filter (inW win (max en x))
theorem left_is {D L' : List Sm} {win en : Int} (ha : Asc (D ++ L')) (hd : ∀ s ∈ D, s.1 ≤ en - win) (hl : L' = [] ∨ ∃ s r, L' = s :: r ∧ en - win < s.1) : (D ++ L').filter (inW win en) = L' := by
  rw [List.filter_append, List.filter_eq_nil_iff.2 (fun s hs => by have := hd s hs; simp [inW]; omega), List.nil_append, List.filter_eq_self.2]
  intro s hs
  refine decide_eq_true ?_
  rcases hl with rfl | ⟨t, r, rfl, ht⟩
  · cases hs
  · rcases List.mem_cons.1 hs with rfl | hr
    · exact ht
    · have h := (List.pairwise_append.1 ha).2.1
      have := (List.pairwise_cons.1 h).1 s hr
      omega
def GtP (N : Nat → Prop) (b : Nat) (win ear en : Int) (L : List Sm) (F : List Bool) (x z : Int) (w : World) (e : Ending) (w' : World) : Prop :=
  e = .returned (.tuple #[]) ∧ ∃ (L' : List Sm) (N' : Nat → Prop), L'.Perm (stF win en L x z) ∧ Mt N' w' b win (min ear x) (max en x) L' (ftF 1 false F) ∧ (∀ q, N' q → N q ∨ w.heap.size ≤ q) ∧ Apart N w w'
set_option maxHeartbeats 4000000 in
set_option maxRecDepth 100000 in
theorem got_any {N : Nat → Prop} {w : World} {b : Nat} {win ear en : Int} {L : List Sm} {F : List Bool} (h : Mt N w b win ear en L F) (w1 : 1 ≤ win) (w2 : win ≤ 1125899906842624) (n1 : -1125899906842624 ≤ en) (n2 : en ≤ 1125899906842624)
    (hl : L.length ≤ 4095) (x z : Int) (z0 : 0 ≤ z) (z1 : z ≤ 1500) (x1 : -1125899906842624 ≤ x) (x2 : x ≤ 1125899906842624) :
    Calls Try.prog 10 #[.pointer (some ⟨b, 0, none⟩), .int .i64 x, .int .i64 z] w (GtP N b win ear en L F x z w) := by
  obtain ⟨X, ⟨qv, hb, hq, hN, hNs⟩, hA, hF, hX, hFl⟩ := h
  obtain ⟨c0, c1, c2, c3, c4, c5, c6, c7, cf⟩ := cells8 hb
  have HB := mkHid hb
  have HQ := mkHid hq
  have HNS := mkHid hNs
  have HA := mkHid hA
  have HF := mkHid hF
  have HX := mkHid (And.intro hX (And.intro hFl hl))
  clear hb hq hNs hA hF hX hFl hl c0 c3 c4 c5 c6 c7
  go_enter Try.func10, Try.ntmps10
  go_upto_region 1 with fail
  go_cut [] (fun wc => wc = w.setCell ⟨b, 1, none⟩ (.int .i64 (min ear x)))
  case first =>
    go_wp2
    all_goals go_meet
    all_goals first | rw [show min ear x = x by omega] | rw [show min ear x = ear by omega]
  case rest =>
    subst hcut
    clear c1 c2 cf
    have B1 := mkHid (HB.out.set_ear (min ear x))
    have A1 := mkHid (ap_set w b 1 (.int .i64 (min ear x)))
    obtain ⟨wa, HWA⟩ : ∃ wa, Hid (w.setCell ⟨b, 1, none⟩ (.int .i64 (min ear x)) = wa) := ⟨_, mkHid rfl⟩
    rw [HWA.out] at B1 A1 ⊢
    obtain ⟨c0, c1, c2, c3, c4, c5, c6, c7, cf⟩ := cells8 B1.out
    clear c0 c1 c3 c4 c5 c6 c7
    go_upto_region 2 with fail
    go_cut [] (fun wc => wc = wa.setCell ⟨b, 2, none⟩ (.int .i64 (max en x)))
    case first =>
      go_wp2
      all_goals go_meet
      all_goals first | rw [show max en x = x by omega] | rw [show max en x = en by omega]
    case rest =>
      subst hcut
      clear c2 cf
      have B2 := mkHid (B1.out.set_en (max en x))
      have A2 := mkHid (A1.out.trans (ap_set wa b 2 (.int .i64 (max en x))) (fun _ _ h => h))
      obtain ⟨wb, HWB⟩ : ∃ wb, Hid (wa.setCell ⟨b, 2, none⟩ (.int .i64 (max en x)) = wb) := ⟨_, mkHid rfl⟩
      rw [HWB.out] at B2 A2 ⊢
      have M2 := mkHid (show Mq N wb b win (min ear x) (max en x) X L (sz L) (bval F : Nat) (F.length : Nat) from ⟨qv, B2.out, HQ.out.kept A2.out (fun k hk e => hk.2 e), hN, fun k hk => Nat.lt_of_lt_of_le (HNS.out k hk) A2.out.size⟩)
      obtain ⟨hX, hFl, hl⟩ := HX.out
      have hbd := sz_bd HF.out
      have EN := mkHid (enqueue_any M2.out HA.out x z z0 z1 hbd.1 (by omega) (by omega) (by omega))
      obtain ⟨ea, HEA⟩ : ∃ ea, Hid (min ear x = ea) := ⟨_, mkHid rfl⟩
      obtain ⟨ez, HEZ⟩ : ∃ ez, Hid (max en x = ez) := ⟨_, mkHid rfl⟩
      rw [HEA.out, HEZ.out] at EN
      have q1 : -1125899906842624 ≤ ez := by have := HEZ.out; omega
      have q2 : ez ≤ 1125899906842624 := by have := HEZ.out; omega
      have hW := mkHid (And.intro w1 (And.intro w2 (And.intro q1 q2)))
      have hXX := mkHid (And.intro hX (And.intro hFl hl))
      clear hX hFl hl hbd q1 q2 HX
      go_wp2_with (go_at_call 25; refine EN.out.mono ?_; rintro e w3 ⟨rfl, j, N3, hj, hA3, hM3, hN3, hAp3⟩)
      have HJ := mkHid hj
      have HA3 := mkHid hA3
      have HN3 := mkHid hN3
      have AP3 := mkHid hAp3
      have hp := insL_perm L j (x, z)
      have hs : sz L + (x, z).2 = sz (insL L j (x, z)) := by rw [sz_perm hp, sz_app]; simp [sz]
      rw [hs] at hM3
      have hlen : (insL L j (x, z)).length = L.length + 1 := insL_len L j _ hj
      have DQ := mkHid (dequeue_any hM3 hW.out.1 hW.out.2.1 hW.out.2.2.1 hW.out.2.2.2 (fit_perm hp.symm (fit_snoc HF.out z0 z1)) (by have := hXX.out; omega) (by have := hXX.out; omega))
      clear hj hA3 hM3 hN3 hAp3 hp hs hlen
      go_wp2_with (go_at_call 26; refine DQ.out.mono ?_; rintro e w4 ⟨rfl, D, L', X', hD, hD1, hD2, ⟨qv4, hb4, hq4, hNb4, hNs4⟩, hX4, hA4⟩)
      have TL := mkHid (tell_any hb4 (by omega) (by have := hXX.out; omega) 1 (by omega) 0)
      rw [tlF_got] at TL
      have HD := mkHid (And.intro hD (And.intro hD1 hD2))
      have HQ4 := mkHid (And.intro hq4 (And.intro hNb4 (And.intro hNs4 (And.intro hX4 hA4))))
      clear hD hD1 hD2 hb4 hq4 hNb4 hNs4 hX4 hA4
      go_wp2_with (go_at_call 27; refine TL.out.mono ?_; rintro e w5 ⟨rfl, hb5, hA5⟩)
      first | go_end0 | ((try simp only [Exit.inBlock, Exit.then]); refine bodyPost_ret (results_none rfl _ _ _) rfl ?_)
      obtain ⟨hq4, hNb4, hNs4, hX4, hA4⟩ := HQ4.out
      obtain ⟨hD, hD1, hD2⟩ := HD.out
      have hp := insL_perm L j (x, z)
      have hA3 := HA3.out
      have hfl := left_is (hD ▸ hA3) hD1 hD2
      rw [← hD] at hfl
      have hpp : L'.Perm (stF win en L x z) := by
        have := hp.filter (inW win ez)
        rw [hfl, ← HEZ.out] at this
        exact this
      have hAL : Asc L' := by rw [hD] at hA3; exact (List.pairwise_append.1 hA3).2.1
      have hFL : Fit L' := by
        intro s hs
        have h1 : s ∈ insL L j (x, z) := by rw [hD]; exact List.mem_append_right _ hs
        exact fit_snoc HF.out z0 z1 s (hp.mem_iff.1 h1)
      refine ⟨rfl, L', N3, hpp, ⟨X', ⟨qv4, ?_, hq4.kept hA5 (fun k h e => h.2 e), hNb4, fun k hk => Nat.lt_of_lt_of_le (hNs4 k hk) hA5.size⟩, hAL, hFL, hX4, by rw [ftF_len]; omega⟩, ?_, ?_⟩
      · have e : (min ((F.length : Int) + (1 : Nat)) 64) = ((ftF 1 false F).length : Int) := by rw [ftF_len]; omega
        rw [← e, HEA.out, HEZ.out]
        exact hb5
      · intro q hq
        rcases HN3.out q hq with h | h
        · exact .inl h
        · exact .inr (Nat.le_trans A2.out.size h)
      · exact (((A2.out.mono (fun k _ e => by rw [show k = b from e]; exact hN)).trans AP3.out (fun _ _ h => h)).trans hA4 (fun k _ e => by rw [show k = b from e]; exact hN)).trans hA5 (fun k _ e => by rw [show k = b from e]; exact hN)
end Go.Proofs.Ytjeffjpenhhnnaa
