/-
  Samples that count no longer go.
-/
import Derived.Test.YtjeffjpenhhnnaaRaC
import Derived.Deep.LoopGhost
namespace Go.Proofs.Ytjeffjpenhhnnaa
open Go.RowKit

/-- All sizes together. -/
def sz (l : List Sm) : Int := (l.map (·.2)).sum
theorem sz_nil : sz [] = 0 := rfl
theorem sz_cons (s : Sm) (l : List Sm) : sz (s :: l) = s.2 + sz l := by unfold sz; simp
theorem sz_app (l m : List Sm) : sz (l ++ m) = sz l + sz m := by unfold sz; simp
def Fit (l : List Sm) : Prop := ∀ s ∈ l, 0 ≤ s.2 ∧ s.2 ≤ 1500
theorem sz_bd {l : List Sm} (h : Fit l) : 0 ≤ sz l ∧ sz l ≤ 1500 * (l.length : Int) := by
  induction l with
  | nil => simp [sz]
  | cons s l ih =>
    have h1 := h s (by simp)
    have h2 := ih (fun u hu => h u (by simp [hu]))
    rw [sz_cons, List.length_cons]
    omega
theorem Qr.slice {N : Nat → Prop} {w : World} {v : Value} {l : List Sm} (h : Qr N w v l) : ∃ a c, v = .slice a l.length c := by
  rcases h with ⟨rfl, rfl⟩ | ⟨g, off, cap, cur, rfl, _⟩
  · exact ⟨none, 0, rfl⟩
  · exact ⟨_, _, rfl⟩
theorem Qr.at {N : Nat → Prop} {w : World} {v : Value} {l : List Sm} (h : Qr N w v l) {i : Nat} {s : Sm} (hi : l[i]? = some s) :
    ∃ g off cap, v = .slice (some ⟨g, off, none⟩) l.length cap ∧ N g ∧ w.cell? ⟨g, off + i * 2, none⟩ = some (.int .i64 s.1) ∧ w.cell? ⟨g, off + i * 2 + 1, none⟩ = some (.int .i64 s.2) := by
  rcases h with ⟨_, rfl⟩ | ⟨g, off, cap, cur, rfl, hN, hg, h1, h2, h3, h4⟩
  · cases hi
  · obtain ⟨a1, a2⟩ := sC_at hi
    exact ⟨g, off, cap, rfl, hN, cell_of hg (h4 _ _ a1), by rw [Nat.add_assoc]; exact cell_of hg (h4 _ _ a2)⟩
theorem Qr.lt {N : Nat → Prop} {w : World} {v : Value} {l : List Sm} (h : Qr N w v l) : v = .slice none 0 0 ∨ ∃ g off n cap, v = .slice (some ⟨g, off, none⟩) n cap ∧ N g ∧ g < w.heap.size := by
  rcases h with ⟨h, _⟩ | ⟨g, off, cap, cur, h, hN, hg, _⟩
  · exact .inl h
  · exact .inr ⟨g, off, _, cap, h, hN, lt_of_heap hg⟩

/-- The meter and its queue: X counts no longer, L does. -/
def Mq (N : Nat → Prop) (w : World) (b : Nat) (win ear en : Int) (X L : List Sm) (byt fa pk : Int) : Prop :=
  ∃ qv, Bx w b win ear en qv X.length byt fa pk ∧ Qr (fun k => N k ∧ k ≠ b) w qv (X ++ L) ∧ N b ∧ ∀ k, N k → k < w.heap.size
theorem Mq.kept {N : Nat → Prop} {w w' : World} {b : Nat} {win ear en : Int} {X L : List Sm} {byt fa pk : Int} {Y : Nat → Prop} (h : Mq N w b win ear en X L byt fa pk) (ha : Apart Y w w') (hx : ∀ k, N k → ¬ Y k) : Mq N w' b win ear en X L byt fa pk := by
  obtain ⟨qv, h1, h2, h3, h4⟩ := h
  exact ⟨qv, h1.kept ha (hx b h3), h2.kept ha (fun k hk => hx k hk.1), h3, fun k hk => Nat.lt_of_lt_of_le (h4 k hk) ha.size⟩

def DqP (N : Nat → Prop) (b : Nat) (win ear en : Int) (L : List Sm) (fa pk : Int) (w : World) (e : Ending) (w' : World) : Prop :=
  e = .returned (.tuple #[]) ∧ ∃ D L' X', L = D ++ L' ∧ (∀ s ∈ D, s.1 ≤ en - win) ∧ (L' = [] ∨ ∃ s r, L' = s :: r ∧ en - win < s.1) ∧ Mq N w' b win ear en X' L' (sz L') fa pk ∧ X'.length ≤ L'.length ∧ Apart (fun k => k = b) w w'
theorem Qr.cut {N : Nat → Prop} {w : World} {g off n cap : Nat} {X L : List Sm} (h : Qr N w (.slice (some ⟨g, off, none⟩) n cap) (X ++ L)) : Qr N w (.slice (some ⟨g, off + X.length * 2, none⟩) L.length L.length) L := by
  rcases h with ⟨h, _⟩ | ⟨g', off', cap', cur, e, hN, hg, h1, h2, h3, h4⟩
  · cases h
  · simp only [Value.slice.injEq, Option.some.injEq, Addr.mk.injEq, and_true] at e
    obtain ⟨⟨rfl, rfl⟩, -, rfl⟩ := e
    rw [List.length_append] at h1
    refine .inr ⟨g, off + X.length * 2, L.length, cur, rfl, hN, hg, Nat.le_refl _, by omega, by omega, fun j u hj => ?_⟩
    rw [Nat.add_assoc]
    refine h4 _ _ ?_
    rw [sC_app, List.getElem?_append_right (by rw [sC_len]; omega), sC_len, Nat.add_sub_cancel_left]
    exact hj
theorem Qr.none {N : Nat → Prop} {w : World} {g off n cap : Nat} {l : List Sm} (h : Qr N w (.slice (some ⟨g, off, none⟩) n cap) l) : Qr N w (.slice (some ⟨g, off, none⟩) 0 0) [] := by
  rcases h with ⟨h, _⟩ | ⟨g', off', cap', cur, e, hN, hg, h1, h2, h3, h4⟩
  · cases h
  · simp only [Value.slice.injEq, Option.some.injEq, Addr.mk.injEq, and_true] at e
    obtain ⟨⟨rfl, rfl⟩, -, rfl⟩ := e
    exact .inr ⟨g, off, 0, cur, rfl, hN, hg, Nat.zero_le _, Nat.zero_le _, by omega, fun j u hj => by simp [sC_nil] at hj⟩
set_option maxHeartbeats 8000000 in
set_option maxRecDepth 100000 in
theorem dequeue_any {N : Nat → Prop} {w : World} {b : Nat} {win ear en : Int} {X L : List Sm} {fa pk : Int} (h : Mq N w b win ear en X L (sz L) fa pk) (e1 : 1 ≤ win) (e2 : win ≤ 1125899906842624) (n1 : -1125899906842624 ≤ en) (n2 : en ≤ 1125899906842624)
    (hf : Fit L) (hl : L.length ≤ 4096) (hx : X.length ≤ 4096) :
    Calls Try.prog 26 #[.pointer (some ⟨b, 0, none⟩)] w (DqP N b win ear en L fa pk w) := by
  have H := mkHid h
  have HF := mkHid hf
  clear h hf
  go_enter Try.func26, Try.ntmps26
  go_wp2
  go_loopg [] (L.length) (fun kx wr => Hid (∃ D L' X', L = D ++ L' ∧ (∀ s ∈ D, s.1 ≤ en - win) ∧ X'.length + L'.length = X.length + L.length ∧ Mq N wr b win ear en X' L' (sz L') fa pk ∧ L'.length ≤ kx ∧ Apart (fun k => k = b) w wr))
  case atStart => exact mkHid ⟨[], L, X, rfl, (by intro s hs; cases hs), rfl, H.out, Nat.le_refl _, Apart.refl _ _⟩
  case round =>
    obtain ⟨D, L', X', hL, hD, hlen, ⟨qv, hbx, hqr, hNb, hNs⟩, hkx, ha⟩ := hrel.out
    have HD := mkHid hD
    have HL := mkHid hL
    have HB := mkHid hbx
    have HQ := mkHid hqr
    have HA := mkHid ha
    have HNS := mkHid hNs
    have hfl : Fit L' := fun s hs => HF.out s (by rw [HL.out]; simp [hs])
    have hsz := sz_bd hfl
    have hll : L'.length ≤ 4096 := by have := congrArg List.length hL; rw [List.length_append] at this; omega
    obtain ⟨k, HK⟩ : ∃ k, Hid (X'.length = k) := ⟨_, mkHid rfl⟩
    obtain ⟨n, HN⟩ : ∃ n, Hid ((X' ++ L').length = n) := ⟨_, mkHid rfl⟩
    have hkn : n = k + L'.length := by have := HN.out; rw [List.length_append, HK.out] at this; omega
    rw [HK.out] at HB hlen
    have hk : k ≤ 100000 := by omega
    obtain ⟨qa, qc, rfl⟩ := hqr.slice
    rw [HN.out] at HQ HB
    clear hbx hqr hL hD ha hNs hrel
    have c3 := fun p => (cells8 (wd_heap HB.out p)).2.2.2.1
    have c4 := fun p => (cells8 (wd_heap HB.out p)).2.2.2.2.1
    have hw1 : IntKind.i64.wrap ((n : Int) - (k : Int)) = (n : Int) - (k : Int) := by rw [IntKind.wrap_i64]; omega
    have MW := mkHid (fun p => show Apart (fun k => k = b) w (wd wr p) from HA.out.trans (wd_apart wr p) (fun _ _ h => h.elim))
    by_cases hnil : L' = []
    · subst hnil
      obtain rfl : n = k := by simpa using hkn
      by_cases hcut : 0 < n
      · have hcut' : (0 : Int) < n := by omega
        obtain ⟨g, off, rfl, hqc⟩ : ∃ g off, qa = some ⟨g, off, none⟩ ∧ n ≤ qc := by
          rcases HQ.out with ⟨_, h⟩ | ⟨g, off, cap, cur, e, _, _, h1, _⟩
          · rw [List.append_nil] at h
            have := HK.out
            rw [h] at this
            simp at this
            omega
          · rw [HN.out] at e h1
            cases e; exact ⟨g, off, rfl, h1⟩
        clear hcut hlen hkn hw1 hkx hll hfl hsz
        go_upto_region 0 with fail
        refine wp_region_wd (by kernel_rfl) (by kernel_rfl) ?_
        repeat (go_big_quiet_step (fail))
        refine wpQuiet_nil ?_
        rintro _ ⟨p, rfl⟩
        have X0 := mkHid (wd_apart wr p)
        have HB1 := mkHid (HB.out.kept X0.out (fun h => h))
        have HA1 := mkHid (MW.out p)
        have HQ1 := mkHid (HQ.out.kept X0.out (fun _ _ h => h))
        have HNS1 := mkHid (fun k hk => Nat.lt_of_lt_of_le (HNS.out k hk) X0.out.size)
        obtain ⟨wq, HWQ⟩ : ∃ wq, Hid (wd wr p = wq) := ⟨_, mkHid rfl⟩
        rw [HWQ.out] at X0 HB1 HA1 HQ1 HNS1 ⊢
        have a3 := fun p => (cells8 (wd_heap HB1.out p)).2.2.2.1
        have a4 := fun p => (cells8 (wd_heap HB1.out p)).2.2.2.2.1
        obtain ⟨b0, b1, b2, b3, b4, b5, b6, b7, bf⟩ := cells8 HB1.out
        go_upto_region 4 with fail
        refine wp_region_wd (by kernel_rfl) (by kernel_rfl) ?_
        repeat (go_big_quiet_step (fail))
        refine wpQuiet_nil ?_
        rintro _ ⟨p2, rfl⟩
        have X2 := mkHid (wd_apart wq p2)
        have HB2 := mkHid (HB1.out.kept X2.out (fun h => h))
        have HA2 := mkHid (HA1.out.trans X2.out (fun _ _ h => h.elim))
        have HQ2 := mkHid (HQ1.out.kept X2.out (fun _ _ h => h))
        have HNS2 := mkHid (fun k hk => Nat.lt_of_lt_of_le (HNS1.out k hk) X2.out.size)
        obtain ⟨wz, HWZ⟩ : ∃ wz, Hid (wd wq p2 = wz) := ⟨_, mkHid rfl⟩
        rw [HWZ.out] at X2 HB2 HA2 HQ2 HNS2 ⊢
        clear b0 b1 b2 b3 b4 b5 b6 b7 bf
        obtain ⟨b0, b1, b2, b3, b4, b5, b6, b7, bf⟩ := cells8 HB2.out
        go_upto_region 5 with fail
        go_region
        go_wp2
        go_end0
        refine ⟨rfl, D, [], [], HL.out, HD.out, .inl rfl, ⟨_, (HB2.out.set_qv (.slice (some ⟨g, off, none⟩) 0 0)).set_gone 0, ?_, hNb, ?_⟩, Nat.le_refl _, ((HA2.out.trans (ap_set _ b 3 _) (fun _ _ h => h)).trans (ap_set _ b 4 _) (fun _ _ h => h)).drew⟩
        · exact (HQ2.out.none).kept (((ap_set _ b 3 _).trans (ap_set _ b 4 (.int .i64 0)) (fun _ _ h => h)).drew) (fun k h e => h.2 e)
        · intro k hk
          have := HNS2.out k hk
          simpa using this
      · obtain rfl : n = 0 := by omega
        clear hcut hlen hkn hw1 hkx hll hfl hsz
        go_upto_region 0 with fail
        refine wp_region_wd (by kernel_rfl) (by kernel_rfl) ?_
        repeat (go_big_quiet_step (fail))
        refine wpQuiet_nil ?_
        rintro _ ⟨p, rfl⟩
        have X0 := mkHid (wd_apart wr p)
        have HB1 := mkHid (HB.out.kept X0.out (fun h => h))
        have HA1 := mkHid (MW.out p)
        have HQ1 := mkHid (HQ.out.kept X0.out (fun _ _ h => h))
        have HNS1 := mkHid (fun k hk => Nat.lt_of_lt_of_le (HNS.out k hk) X0.out.size)
        obtain ⟨wq, HWQ⟩ : ∃ wq, Hid (wd wr p = wq) := ⟨_, mkHid rfl⟩
        rw [HWQ.out] at X0 HB1 HA1 HQ1 HNS1 ⊢
        have a3 := fun p => (cells8 (wd_heap HB1.out p)).2.2.2.1
        have a4 := fun p => (cells8 (wd_heap HB1.out p)).2.2.2.2.1
        obtain ⟨b0, b1, b2, b3, b4, b5, b6, b7, bf⟩ := cells8 HB1.out
        go_upto_region 4 with fail
        refine wp_region_wd (by kernel_rfl) (by kernel_rfl) ?_
        repeat (go_big_quiet_step (fail))
        refine wpQuiet_nil ?_
        rintro _ ⟨p2, rfl⟩
        have X2 := mkHid (wd_apart wq p2)
        have HB2 := mkHid (HB1.out.kept X2.out (fun h => h))
        have HA2 := mkHid (HA1.out.trans X2.out (fun _ _ h => h.elim))
        have HQ2 := mkHid (HQ1.out.kept X2.out (fun _ _ h => h))
        have HNS2 := mkHid (fun k hk => Nat.lt_of_lt_of_le (HNS1.out k hk) X2.out.size)
        obtain ⟨wz, HWZ⟩ : ∃ wz, Hid (wd wq p2 = wz) := ⟨_, mkHid rfl⟩
        rw [HWZ.out] at X2 HB2 HA2 HQ2 HNS2 ⊢
        clear b0 b1 b2 b3 b4 b5 b6 b7 bf
        obtain ⟨b0, b1, b2, b3, b4, b5, b6, b7, bf⟩ := cells8 HB2.out
        go_wp2
        go_end0
        exact ⟨rfl, D, [], X', HL.out, HD.out, .inl rfl, ⟨_, by rw [HK.out]; exact HB2.out, HQ2.out, hNb, HNS2.out⟩, by rw [HK.out]; exact Nat.le_refl _, HA2.out⟩
    · obtain ⟨s, r, rfl⟩ : ∃ s r, L' = s :: r := by
        cases L' with
        | nil => exact absurd rfl hnil
        | cons s r => exact ⟨s, r, rfl⟩
      obtain ⟨x, z⟩ := s
      clear hnil
      obtain ⟨g, off, cap, hqe, hNg, q0, q1⟩ := HQ.out.at (i := X'.length) (s := (x, z)) (by rw [List.getElem?_append_right (Nat.le_refl _)]; simp)
      rw [HN.out] at hqe
      cases hqe
      rw [HK.out] at q0 q1
      simp only at q0 q1
      have hkn' : k < n := by rw [hkn, List.length_cons]; omega
      have hkn2 : (k : Int) < n := by omega
      have hkn3 : ¬ (n = k) := by omega
      have hqc : n ≤ qc := by
        rcases HQ.out with ⟨h, _⟩ | ⟨g, off, cap, cur, e, _, _, h1, _⟩
        · cases h
        · rw [HN.out] at e h1
          cases e; exact h1
      have G := mkHid (fun p => goes_any (w := wd wr p) (wd_heap HB.out p) e1 e2 n1 n2 (by omega) (by rw [hkn]; omega) x z)
      have d0 := fun p => wd_cell q0 p
      have d1 := fun p => wd_cell q1 p
      obtain ⟨m, HM⟩ : ∃ m, Hid (r.length = m) := ⟨_, mkHid rfl⟩
      have hzs : 0 ≤ z ∧ z ≤ 1500 := hfl (x, z) (by simp)
      have hsr := sz_bd (l := r) (fun s hs => hfl s (by simp [hs]))
      have HSZ := mkHid (sz_cons (x, z) r)
      obtain ⟨y, HY⟩ : ∃ y, Hid (sz ((x, z) :: r) = y) := ⟨_, mkHid rfl⟩
      obtain ⟨y2, HY2⟩ : ∃ y, Hid (sz r = y) := ⟨_, mkHid rfl⟩
      rw [HY.out] at HB hsz
      rw [HY2.out, HM.out] at hsr
      have hyy : y = z + y2 := by rw [← HY.out, HSZ.out, HY2.out]
      rw [List.length_cons, HM.out] at hkn hll hkx hlen
      have hm : n = k + (m + 1) := hkn
      clear hkn hsz
      by_cases hgo : en - win < x
      · have hd : (!decide (en - win < x)) = false := by simp [hgo]
        rw [hd] at G
        clear hd
        have HGO := mkHid hgo
        clear hgo
        by_cases hcut : m + 1 < k
        · have hcut' : (n : Int) - k < k := by omega
          have hcut2 := mkHid hcut
          have hm2 := mkHid hm
          have hk0 : ((n : Int) - k).toNat = n - k := by omega
          have hkl : k ≤ n := by omega
          clear hcut hlen hkx hll hfl hm hyy hsr
          go_upto_region 0 with fail
          refine wp_region_wd (by kernel_rfl) (by kernel_rfl) ?_
          repeat (go_big_quiet_step ((go_at_call 37; exact wd_call (G.out _))))
          refine wpQuiet_nil ?_
          rintro _ ⟨p, rfl⟩
          have X0 := mkHid (wd_apart wr p)
          have HB1 := mkHid (HB.out.kept X0.out (fun h => h))
          have HA1 := mkHid (MW.out p)
          have HQ1 := mkHid (HQ.out.kept X0.out (fun _ _ h => h))
          have HNS1 := mkHid (fun k hk => Nat.lt_of_lt_of_le (HNS.out k hk) X0.out.size)
          obtain ⟨wq, HWQ⟩ : ∃ wq, Hid (wd wr p = wq) := ⟨_, mkHid rfl⟩
          rw [HWQ.out] at X0 HB1 HA1 HQ1 HNS1 ⊢
          have a3 := fun p => (cells8 (wd_heap HB1.out p)).2.2.2.1
          have a4 := fun p => (cells8 (wd_heap HB1.out p)).2.2.2.2.1
          obtain ⟨b0, b1, b2, b3, b4, b5, b6, b7, bf⟩ := cells8 HB1.out
          go_upto_region 4 with fail
          refine wp_region_wd (by kernel_rfl) (by kernel_rfl) ?_
          repeat (go_big_quiet_step (fail))
          refine wpQuiet_nil ?_
          rintro _ ⟨p2, rfl⟩
          have X2 := mkHid (wd_apart wq p2)
          have HB2 := mkHid (HB1.out.kept X2.out (fun h => h))
          have HA2 := mkHid (HA1.out.trans X2.out (fun _ _ h => h.elim))
          have HQ2 := mkHid (HQ1.out.kept X2.out (fun _ _ h => h))
          have HNS2 := mkHid (fun k hk => Nat.lt_of_lt_of_le (HNS1.out k hk) X2.out.size)
          obtain ⟨wz, HWZ⟩ : ∃ wz, Hid (wd wq p2 = wz) := ⟨_, mkHid rfl⟩
          rw [HWZ.out] at X2 HB2 HA2 HQ2 HNS2 ⊢
          clear b0 b1 b2 b3 b4 b5 b6 b7 bf
          obtain ⟨b0, b1, b2, b3, b4, b5, b6, b7, bf⟩ := cells8 HB2.out
          go_upto_region 5 with fail
          go_region
          go_wp2
          go_end0
          have hm3 := hm2.out
          refine ⟨rfl, D, (x, z) :: r, [], HL.out, HD.out, .inr ⟨_, _, rfl, HGO.out⟩, ⟨_, by rw [HY.out]; exact (HB2.out.set_qv (.slice (some ⟨g, off + k * 2, none⟩) (n - k) (n - k))).set_gone 0, ?_, hNb, ?_⟩, Nat.zero_le _, ((HA2.out.trans (ap_set _ b 3 _) (fun _ _ h => h)).trans (ap_set _ b 4 _) (fun _ _ h => h)).drew⟩
          · have h := HQ2.out.cut
            rw [HK.out, List.length_cons, HM.out, show m + 1 = n - k by omega] at h
            exact h.kept (((ap_set _ b 3 _).trans (ap_set _ b 4 (.int .i64 0)) (fun _ _ h => h)).drew) (fun k h e => h.2 e)
          · intro k hk
            have := HNS2.out k hk
            simpa using this
        · have hcut' : ¬ ((n : Int) - k < k) := by omega
          have hcut2 := mkHid hcut
          have hm2 := mkHid hm
          clear hcut hlen hkx hll hfl hm hyy hsr
          go_upto_region 0 with fail
          refine wp_region_wd (by kernel_rfl) (by kernel_rfl) ?_
          repeat (go_big_quiet_step ((go_at_call 37; exact wd_call (G.out _))))
          refine wpQuiet_nil ?_
          rintro _ ⟨p, rfl⟩
          have X0 := mkHid (wd_apart wr p)
          have HB1 := mkHid (HB.out.kept X0.out (fun h => h))
          have HA1 := mkHid (MW.out p)
          have HQ1 := mkHid (HQ.out.kept X0.out (fun _ _ h => h))
          have HNS1 := mkHid (fun k hk => Nat.lt_of_lt_of_le (HNS.out k hk) X0.out.size)
          obtain ⟨wq, HWQ⟩ : ∃ wq, Hid (wd wr p = wq) := ⟨_, mkHid rfl⟩
          rw [HWQ.out] at X0 HB1 HA1 HQ1 HNS1 ⊢
          have a3 := fun p => (cells8 (wd_heap HB1.out p)).2.2.2.1
          have a4 := fun p => (cells8 (wd_heap HB1.out p)).2.2.2.2.1
          obtain ⟨b0, b1, b2, b3, b4, b5, b6, b7, bf⟩ := cells8 HB1.out
          go_upto_region 4 with fail
          refine wp_region_wd (by kernel_rfl) (by kernel_rfl) ?_
          repeat (go_big_quiet_step (fail))
          refine wpQuiet_nil ?_
          rintro _ ⟨p2, rfl⟩
          have X2 := mkHid (wd_apart wq p2)
          have HB2 := mkHid (HB1.out.kept X2.out (fun h => h))
          have HA2 := mkHid (HA1.out.trans X2.out (fun _ _ h => h.elim))
          have HQ2 := mkHid (HQ1.out.kept X2.out (fun _ _ h => h))
          have HNS2 := mkHid (fun k hk => Nat.lt_of_lt_of_le (HNS1.out k hk) X2.out.size)
          obtain ⟨wz, HWZ⟩ : ∃ wz, Hid (wd wq p2 = wz) := ⟨_, mkHid rfl⟩
          rw [HWZ.out] at X2 HB2 HA2 HQ2 HNS2 ⊢
          clear b0 b1 b2 b3 b4 b5 b6 b7 bf
          obtain ⟨b0, b1, b2, b3, b4, b5, b6, b7, bf⟩ := cells8 HB2.out
          go_wp2
          go_end0
          exact ⟨rfl, D, (x, z) :: r, X', HL.out, HD.out, .inr ⟨_, _, rfl, HGO.out⟩, ⟨_, by rw [HK.out, HY.out]; exact HB2.out, HQ2.out, hNb, HNS2.out⟩, by rw [HK.out, List.length_cons, HM.out]; have := hcut2.out; omega, HA2.out⟩
      · have hd : (!decide (en - win < x)) = true := by simp [hgo]
        rw [hd] at G
        clear hd
        have HGO := mkHid hgo
        clear hgo
        have hm2 := mkHid (And.intro hm (And.intro hkx hlen))
        have hw5 : IntKind.i64.wrap (y - z) = y2 := by rw [IntKind.wrap_i64]; omega
        have hw6 : IntKind.i64.wrap ((k : Int) + 1) = (k : Int) + 1 := by rw [IntKind.wrap_i64]; omega
        clear hlen hkx hll hfl hm hyy
        go_upto_region 0 with fail
        refine wp_region_wd (by kernel_rfl) (by kernel_rfl) ?_
        repeat (go_big_quiet_step ((go_at_call 37; exact wd_call (G.out _))))
        refine wpQuiet_nil ?_
        rintro _ ⟨p, rfl⟩
        have X0 := mkHid (wd_apart wr p)
        have HB1 := mkHid (HB.out.kept X0.out (fun h => h))
        have HA1 := mkHid (MW.out p)
        have HQ1 := mkHid (HQ.out.kept X0.out (fun _ _ h => h))
        have HNS1 := mkHid (fun k hk => Nat.lt_of_lt_of_le (HNS.out k hk) X0.out.size)
        obtain ⟨wq, HWQ⟩ : ∃ wq, Hid (wd wr p = wq) := ⟨_, mkHid rfl⟩
        rw [HWQ.out] at X0 HB1 HA1 HQ1 HNS1 ⊢
        have a3 := fun p => (cells8 (wd_heap HB1.out p)).2.2.2.1
        have a4 := fun p => (cells8 (wd_heap HB1.out p)).2.2.2.2.1
        obtain ⟨b0, b1, b2, b3, b4, b5, b6, b7, bf⟩ := cells8 HB1.out
        have q2 := wd_cell q0 p
        have q3 := wd_cell q1 p
        rw [HWQ.out] at q2 q3
        go_upto_region 1 with fail
        go_region
        go_wp2
        go_roundg m
        case measure => have := hm2.out; omega
        case rel =>
          refine mkHid ⟨D ++ [(x, z)], r, X' ++ [(x, z)], by rw [HL.out]; simp, ?_, by rw [List.length_append, HK.out, HM.out]; have := hm2.out; simp; omega, ⟨.slice (some ⟨g, off, none⟩) n qc, ?_, ?_, hNb, ?_⟩, by rw [HM.out]; exact Nat.le_refl _, ((HA1.out.trans (ap_set _ b 5 _) (fun _ _ h => h)).trans (ap_set _ b 4 _) (fun _ _ h => h)).drew⟩
          · intro s hs
            rcases List.mem_append.1 hs with h | h
            · exact HD.out s h
            · simp at h
              subst h
              have := HGO.out
              simp only
              omega
          · rw [List.length_append, HK.out, HY2.out]
            exact (HB1.out.set_byt y2).set_gone ((k : Int) + 1)
          · rw [List.append_assoc]
            exact HQ1.out.kept (((ap_set _ b 5 (.int .i64 y2)).trans (ap_set _ b 4 (.int .i64 ((k : Int) + 1))) (fun _ _ h => h)).drew) (fun k h e => h.2 e)
          · intro k hk
            have := HNS1.out k hk
            simpa using this
end Go.Proofs.Ytjeffjpenhhnnaa
