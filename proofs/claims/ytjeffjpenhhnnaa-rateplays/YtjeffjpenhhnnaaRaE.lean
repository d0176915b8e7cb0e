/-
  A sample is laid into the queue.
-/
import Derived.Test.YtjeffjpenhhnnaaRaC
import Derived.Test.YtjeffjpenhhnnaaRaD
import Derived.Test.YtjeffjpenhhnnaaRaI
import Derived.Test.YtjeffjpenhhnnaaRaS
namespace Go.Proofs.Ytjeffjpenhhnnaa
open Go.RowKit

def Asc (L : List Sm) : Prop := L.Pairwise (fun a b => a.1 ≤ b.1)
/-- The live part of the queue, as the search asks it. -/
def Lv (w : World) (v : Value) (L : List Sm) : Prop :=
  ∃ a c, v = .slice a L.length c ∧ ∀ (i : Nat) (s : Sm), L[i]? = some s → ∃ g off, a = some ⟨g, off, none⟩ ∧ w.cell? ⟨g, off + i * 2, none⟩ = some (.int .i64 s.1)
theorem lv_none (w : World) : Lv w (.slice none 0 0) [] := ⟨none, 0, rfl, fun i s h => by simp at h⟩
theorem lv_cut {N : Nat → Prop} {w : World} {g off n cap : Nat} {X L : List Sm} (h : Qr N w (.slice (some ⟨g, off, none⟩) n cap) (X ++ L)) (o c : Nat) (ho : L = [] ∨ o = off + X.length * 2) : Lv w (.slice (some ⟨g, o, none⟩) L.length c) L := by
  refine ⟨_, _, rfl, fun i s hi => ⟨g, o, rfl, ?_⟩⟩
  rcases ho with rfl | rfl
  · simp at hi
  · obtain ⟨g', off', cap', e, -, h1, -⟩ := h.at (i := X.length + i) (s := s) (by rw [List.getElem?_append_right (by omega), Nat.add_sub_cancel_left]; exact hi)
    simp only [Value.slice.injEq, Option.some.injEq, Addr.mk.injEq, and_true] at e
    obtain ⟨⟨rfl, rfl⟩, -, rfl⟩ := e
    rw [show off + X.length * 2 + i * 2 = off + (X.length + i) * 2 by omega]
    exact h1
theorem insL_app (X L : List Sm) (j : Nat) (s : Sm) : insL (X ++ L) (X.length + j) s = X ++ insL L j s := by
  unfold insL
  rw [List.take_length_add_append, List.drop_length_add_append, List.append_assoc]
theorem asc_ins {L : List Sm} (h : Asc L) (s : Sm) (j : Nat) (h1 : ∀ t, t < j → ∀ u, L[t]? = some u → u.1 ≤ s.1) (h2 : ∀ t, j ≤ t → ∀ u, L[t]? = some u → s.1 < u.1) : Asc (insL L j s) := by
  unfold Asc insL
  have hp : (L.take j ++ L.drop j).Pairwise (fun a b : Sm => a.1 ≤ b.1) := by rw [List.take_append_drop]; exact h
  rw [List.pairwise_append] at hp ⊢
  refine ⟨hp.1, List.pairwise_cons.2 ⟨?_, hp.2.1⟩, ?_⟩
  · intro u hu
    obtain ⟨t, ht⟩ := List.getElem?_of_mem hu
    rw [List.getElem?_drop] at ht
    exact Int.le_of_lt (h2 _ (by omega) u ht)
  · intro a ha u hu
    rcases List.mem_cons.1 hu with rfl | hu
    · obtain ⟨t, ht⟩ := List.getElem?_of_mem ha
      rw [List.getElem?_take] at ht
      split at ht
      · exact h1 t (by assumption) a ht
      · cases ht
    · exact hp.2.2 a ha u hu
theorem Qr.inside {N : Nat → Prop} {w : World} {v : Value} {l : List Sm} (h : Qr N w v l) : Qr (fun k => N k ∧ k < w.heap.size) w v l := by
  rcases h with h | ⟨g, off, cap, cur, h1, h2, h3, h4⟩
  · exact .inl h
  · exact .inr ⟨g, off, cap, cur, h1, ⟨h2, lt_of_heap h3⟩, h3, h4⟩
theorem Qr.tight {N : Nat → Prop} {w : World} {v : Value} {l : List Sm} (h : Qr N w v l) : ∀ a n c, v = .slice a n c → n = l.length := by
  intro a n c e
  obtain ⟨a', c', h⟩ := h.slice
  rw [h] at e; cases e; rfl
def EnP (N : Nat → Prop) (b : Nat) (win ear en : Int) (X L : List Sm) (s : Sm) (byt fa pk : Int) (w : World) (e : Ending) (w' : World) : Prop :=
  e = .returned (.tuple #[]) ∧ ∃ (j : Nat) (N' : Nat → Prop), j ≤ L.length ∧ Asc (insL L j s) ∧ Mq N' w' b win ear en X (insL L j s) (byt + s.2) fa pk ∧ (∀ q, N' q → N q ∨ w.heap.size ≤ q) ∧ Apart N w w'
/-- What is held of the slot of the search's first argument. -/
def LiP (w0 w : World) (p : Value) (L : List Sm) : Prop := ∃ lb v, p = .pointer (some ⟨lb, 0, none⟩) ∧ w.heap[lb]? = some (.cells #[v] 47 (0, 0)) ∧ Lv w0 v L
set_option maxHeartbeats 8000000 in
set_option maxRecDepth 100000 in
theorem enqueue_any {N : Nat → Prop} {w : World} {b : Nat} {win ear en : Int} {X L : List Sm} {byt fa pk : Int} (h : Mq N w b win ear en X L byt fa pk) (hA : Asc L) (x z : Int) (z0 : 0 ≤ z) (z1 : z ≤ 1500) (y0 : 0 ≤ byt) (y1 : byt ≤ 1000000000)
    (hl : L.length ≤ 4096) (hx : X.length ≤ 4096) :
    Calls Try.prog 25 #[.pointer (some ⟨b, 0, none⟩), .agg #[.int .i64 x, .int .i64 z]] w (EnP N b win ear en X L (x, z) byt fa pk w) := by
  obtain ⟨qv, hbx, hqr, hNb, hNs⟩ := h
  have HNS := mkHid hNs
  have HASC := mkHid hA
  obtain ⟨qa, qc, rfl⟩ := hqr.slice
  have A0 := mkHid ((Apart.refl (fun _ => False) w).alloc (.cells #[.int .i64 x, .int .i64 z] 56))
  have S0 := mkHid (heap_alloc_new w (.cells #[.int .i64 x, .int .i64 z] 56))
  obtain ⟨W, HW⟩ : ∃ W, Hid (w.alloc (.cells #[.int .i64 x, .int .i64 z] 56) = W) := ⟨_, mkHid rfl⟩
  obtain ⟨sb, HSB⟩ : ∃ b, Hid (w.heap.size = b) := ⟨_, mkHid rfl⟩
  rw [HW.out, HSB.out] at S0
  rw [HW.out] at A0
  have HB := mkHid (hbx.kept A0.out (fun h => h))
  have HQ := mkHid (hqr.kept A0.out (fun _ _ h => h))
  have hsbN : Hid (∀ k, N k → k < sb) := mkHid (fun k hk => by rw [← HSB.out]; exact hNs k hk)
  obtain ⟨n, HN⟩ : ∃ n, Hid ((X ++ L).length = n) := ⟨_, mkHid rfl⟩
  obtain ⟨k, HK⟩ : ∃ k, Hid (X.length = k) := ⟨_, mkHid rfl⟩
  obtain ⟨m, HM⟩ : ∃ m, Hid (L.length = m) := ⟨_, mkHid rfl⟩
  have hn : n = k + m := by have := HN.out; rw [List.length_append, HK.out, HM.out] at this; omega
  rw [HM.out] at hl
  rw [HK.out] at hx HB
  rw [HN.out] at HB HQ
  clear hbx hqr hNs hA
  obtain ⟨c0, c1, c2, c3, c4, c5, c6, c7, cf⟩ := cells8 HB.out
  clear c0 c1 c2 c5 c6 c7
  have hbW : b < W.heap.size := HB.out.lt
  go_enter Try.func25, Try.ntmps25
  go_upto_region 1 with fail
  rw [HW.out, HSB.out]
  go_cut [4] (fun s4 wc => LiP W wc s4 L ∧ Apart (fun _ => False) W wc)
  case first =>
    have hkn : k ≤ n := by omega
    by_cases hqa : qa = none
    · subst hqa
      have h0 : n = 0 ∧ qc = 0 := by
        rcases HQ.out with ⟨h, _⟩ | ⟨g, off, cap, cur, e, _⟩
        · cases h; exact ⟨rfl, rfl⟩
        · cases e
      obtain ⟨rfl, rfl⟩ := h0
      obtain rfl : k = 0 := by omega
      have hL : L = [] := by have := HM.out; cases L with | nil => rfl | cons a l => simp at this; omega
      clear hkn hn hl hx y0 y1 z0 z1
      go_region
      go_wp2
      go_meet
      exact ⟨⟨_, _, rfl, heap_alloc_new _ _, by rw [hL]; exact lv_none _⟩, ((Apart.refl (fun _ => False) W).drewN _).alloc _⟩
    · obtain ⟨g, off, rfl, hnc⟩ : ∃ g off, qa = some ⟨g, off, none⟩ ∧ n ≤ qc := by
        rcases HQ.out with ⟨h, _⟩ | ⟨g, off, cap, cur, e, _, _, h1, _⟩
        · cases h; exact absurd rfl hqa
        · rw [HN.out] at e h1
          cases e; exact ⟨g, off, rfl, h1⟩
      clear hqa
      have hnk : n - k = m := by omega
      have hnk2 : ((n : Int) - k).toNat = n - k := by omega
      have hk0 : (0 : Int) ≤ k := by omega
      have hkn' : (k : Int) ≤ n := by omega
      have hnc' : (n : Int) ≤ qc := by omega
      by_cases hqc : qc = k
      · have h1 : n = k := by omega
        subst hqc
        subst h1
        have hL : L = [] := by have := HM.out; cases L with | nil => rfl | cons a l => simp at this; omega
        clear hn hl hx y0 y1 z0 z1 hkn hnc hnk hnk2
        go_region
        go_wp2
        go_meet
        have A1 := mkHid (((Apart.refl (fun _ => False) W).alloc (.cells #[.slice (some ⟨g, off, none⟩) 0 0] 47)).drew)
        exact ⟨⟨_, _, rfl, heap_alloc_new _ _, by have := lv_cut HQ.out off 0 (.inl hL); rw [hL] at this ⊢; exact this⟩, A1.out⟩
      · have hqc' : k < qc := by omega
        have hqc2 : (k : Int) < qc := by omega
        have hmn := mkHid hnk
        clear hn hl hx y0 y1 z0 z1 hnk
        go_region
        go_wp2
        go_meet
        have A1 := mkHid (((Apart.refl (fun _ => False) W).alloc (.cells #[.slice (some ⟨g, off + k * 2, none⟩) (n - k) (qc - k)] 47)).drew)
        exact ⟨⟨_, _, rfl, heap_alloc_new _ _, by have := lv_cut HQ.out (off + k * 2) (qc - k) (.inr (by rw [HK.out])); rw [HM.out, ← hmn.out] at this; exact this⟩, A1.out⟩
  case rest =>
    obtain ⟨⟨lb, lv, rfl, hlb, hlv⟩, hA1⟩ := hcut
    obtain ⟨la, lc, rfl, hat⟩ := hlv
    have A1 := mkHid hA1
    have HAT := mkHid hat
    have HLB := mkHid hlb
    have S1 := mkHid (hA1.heap S0.out (fun h => h))
    have SR := mkHid (search_any L.length (by rw [HM.out]; omega) (fun t => decide (x < (L.getD t (0, 0)).1)) (.pointer (some ⟨lb, 0, none⟩)) (.pointer (some ⟨sb, 0, none⟩)) wc
      (fun W' hW i hi => by
        obtain ⟨g, off, rfl, hc⟩ := HAT.out i L[i] (List.getElem?_eq_getElem hi)
        have h := later_any lb sb g off L.length lc x L[i].1 i hi (w := W') (cell_of_row _ lb 0 _ 47 _ (hW.heap HLB.out (fun h => h))) (by rw [hW.cell (World.block_lt_of_cell? _ _ (by rw [A1.out.cell (World.block_lt_of_cell? _ _ hc) (fun h => h)]; exact hc)) (fun h => h), A1.out.cell (World.block_lt_of_cell? _ _ hc) (fun h => h)]; exact hc) (cell_of_row _ sb 0 _ 56 _ (hW.heap S1.out (fun h => h)))
        rw [show L.getD i (0, 0) = L[i] from by simp [List.getD_eq_getElem?_getD, List.getElem?_eq_getElem hi]]
        exact h)
      (fun a b' hab hb h => by
        have ha : a < L.length := by omega
        rw [show L.getD a (0, 0) = L[a] from by simp [List.getD_eq_getElem?_getD, List.getElem?_eq_getElem ha]] at h
        rw [show L.getD b' (0, 0) = L[b'] from by simp [List.getD_eq_getElem?_getD, List.getElem?_eq_getElem hb]]
        have h := of_decide_eq_true h
        refine decide_eq_true ?_
        by_cases e : a = b'
        · subst e; exact h
        · have := List.pairwise_iff_getElem.1 HASC.out a b' ha hb (by omega)
          omega))
    have e0 := cell_of_row _ lb 0 _ 47 _ hlb
    rw [HM.out] at SR e0
    clear hat hlb hA1 c3 c4 cf hbW
    have HY := mkHid (And.intro y0 (And.intro y1 (And.intro z0 (And.intro z1 (And.intro hn (And.intro hl hx))))))
    clear y0 y1 z0 z1 hn hl hx
    go_wp2_with (go_at_call 34; refine SR.out.mono ?_; rintro e w3 ⟨j, rfl, hj, hj1, hj2, A3⟩)
    have AT := mkHid ((A0.out.zz A1.out).zz A3)
    have hb3 := mkHid ((HB.out.kept A1.out (fun h => h)).kept A3 (fun h => h))
    have hq3 := mkHid ((HQ.out.kept A1.out (fun _ _ h => h)).kept A3 (fun _ _ h => h))
    have S3 := mkHid (A3.heap S1.out (fun h => h))
    have hbw3 : b < w3.heap.size := hb3.out.lt
    have hsb3 : sb < w3.heap.size := lt_of_heap S3.out
    obtain ⟨c0, c1, c2, c3, c4, c5, c6, c7, cf⟩ := cells8 hb3.out
    obtain ⟨s0, s1, sf0, sf1⟩ := cells2 S3.out
    obtain ⟨p, hp⟩ : ∃ p, p = k + j := ⟨_, rfl⟩
    have hkj : (k : Int) + (j : Int) = (p : Int) := by omega
    have HP := mkHid hp
    have HJ := mkHid (And.intro hj (And.intro hj1 hj2))
    clear hp hj hj1 hj2 c0 c1 c2 c5 c6 c7 e0
    clear HQ HB A0 S0 HLB HAT SR A1 S1 A3
    have hpw : IntKind.i64.wrap (p : Int) = (p : Int) := by rw [IntKind.wrap_i64]; have := HP.out; have := HJ.out.1; have := HY.out; omega
    obtain ⟨W4, HW4⟩ : ∃ W4, Hid ((w3.alloc (.cells #[.int .i64 x, .int .i64 z] 56)).drew = W4) := ⟨_, mkHid rfl⟩
    have A4 := mkHid (show Apart (fun _ => False) w3 W4 from by rw [← HW4.out]; exact ((Apart.refl (fun _ => False) w3).alloc _).drew)
    have I := mkHid (show Calls Try.prog 36 #[.slice qa n qc, .int .i64 (IntKind.i64.wrap (p : Int)), .slice (some ⟨w3.heap.size, 0, none⟩) 1 1] (w3.alloc (.cells #[.int .i64 x, .int .i64 z] 56)).drew (InsP (fun k => N k ∧ k ≠ b) (X ++ L) p (x, z) W4) from by
      rw [hpw, HW4.out]
      exact insert_any (hq3.out.kept A4.out (fun _ _ h => h)) p (by rw [HN.out]; have := HP.out; have := HJ.out.1; have := HY.out; omega) (by rw [HN.out]; have := HY.out; omega) (x, z) w3.heap.size 56 (by rw [← HW4.out]; exact heap_alloc_new w3 (.cells #[.int .i64 x, .int .i64 z] 56)) (fun h => by have := HNS.out _ h.1; have := AT.out.size; omega))
    clear hpw
    go_cut [] (fun wc => ∃ (w5 : World) (ad : Addr) (cp : Nat), wc = w5.setCell ⟨b, 3, none⟩ (.slice (some ad) (X.length + L.length + 1) cp) ∧ Qr (fun k => (N k ∧ k ≠ b) ∨ W4.heap.size ≤ k) w5 (.slice (some ad) ((X ++ L).length + 1) cp) (insL (X ++ L) p (x, z)) ∧ Apart (fun k => N k ∧ k ≠ b) W4 w5)
    case first =>
      go_region_with (go_at_call 36; refine I.out.mono ?_; rintro e w5 ⟨ad, cp, rfl, hq5, a5⟩; have Q5 := mkHid hq5; have A5 := mkHid a5; obtain ⟨d0, d1, d2, d3, d4, d5, d6, d7, df⟩ := cells8 ((hb3.out.kept A4.out (fun h => h)).kept a5 (fun h => h.2 rfl)); clear hq5 a5 d0 d1 d2 d4 d5 d6 d7)
      all_goals go_wp2
      all_goals go_meet
      all_goals exact ⟨w5, ad, cp, rfl, Q5.out, A5.out⟩
    case rest =>
      obtain ⟨w5, ad, cp, rfl, hq5, ha5⟩ := hcut
      rw [List.length_append] at hq5
      obtain ⟨q, HQN⟩ : ∃ q, Hid (X.length + L.length + 1 = q) := ⟨_, mkHid rfl⟩
      rw [HQN.out] at hq5
      rw [HQN.out]
      have A5 := mkHid ha5
      have Q5 := mkHid hq5
      clear hq5 ha5 c3 c4 cf s0 s1 sf0 sf1
      have B5 := mkHid (show Bx (w5.setCell ⟨b, 3, none⟩ (.slice (some ad) q cp)) b win ear en (.slice (some ad) q cp) k byt fa pk from ((hb3.out.kept A4.out (fun h => h)).kept A5.out (fun h => h.2 rfl)).set_qv _)
      have S5 := mkHid ((ap_set w5 b 3 (.slice (some ad) q cp)).heap ((A4.out.heap S3.out (fun h => h)) |> fun h => A5.out.heap h (fun h => by have := HNS.out _ h.1; have := HSB.out; omega)) (fun e => by have := HNS.out _ hNb; have := HSB.out; omega))
      have Q6 := mkHid (Q5.out.kept (ap_set w5 b 3 (.slice (some ad) q cp)) (fun k hk e => by
        rcases hk with h | h
        · exact h.2 e
        · have := A4.out.size; omega))
      have F := mkHid (show Apart (fun _ => False) w W4 from (AT.out.zz A4.out))
      have F6 := mkHid (show Apart N w (w5.setCell ⟨b, 3, none⟩ (.slice (some ad) q cp)) from ((F.out.mono (fun _ _ h => h.elim)).trans A5.out (fun _ _ h => h.1)).trans (ap_set w5 b 3 _) (fun q _ e => by rw [show q = b from e]; exact hNb))
      have hz6 := F6.out.size
      have hz5 := mkHid (show W4.heap.size ≤ (w5.setCell ⟨b, 3, none⟩ (.slice (some ad) q cp)).heap.size from by have := A5.out.size; simpa using this)
      have L6 := mkHid (show ∀ k, (N k ∧ k ≠ b) ∨ W4.heap.size ≤ k ∧ k < (w5.setCell ⟨b, 3, none⟩ (.slice (some ad) q cp)).heap.size ∨ k = b → k < (w5.setCell ⟨b, 3, none⟩ (.slice (some ad) q cp)).heap.size from by
        intro k hk
        rcases hk with h | h | rfl
        · have := HNS.out _ h.1; omega
        · exact h.2
        · have := HNS.out _ hNb; omega)
      obtain ⟨w6, HW6⟩ : ∃ w6, Hid (w5.setCell ⟨b, 3, none⟩ (.slice (some ad) q cp) = w6) := ⟨_, mkHid rfl⟩
      rw [HW6.out] at B5 S5 F6 Q6 L6 hz5 hz6 ⊢
      have hby : IntKind.i64.wrap (byt + z) = byt + z := by rw [IntKind.wrap_i64]; have := HY.out; omega
      have hz6 := mkHid hz6
      clear hbw3 hsb3 hkj
      obtain ⟨c0, c1, c2, c3, c4, c5, c6, c7, cf⟩ := cells8 B5.out
      obtain ⟨s0, s1, sf0, sf1⟩ := cells2 S5.out
      clear c0 c1 c2 c3 c4 c6 c7 s0
      go_upto_region 4 with fail
      go_region
      go_wp2
      go_end0
      have hj := HJ.out
      have E0 := HQN.out
      have hpj := HP.out
      refine ⟨rfl, j, fun k => (N k ∧ k ≠ b) ∨ W4.heap.size ≤ k ∧ k < w6.heap.size ∨ k = b, by rw [HM.out]; exact hj.1, asc_ins HASC.out _ j ?_ ?_, ⟨.slice (some ad) q cp, ?_, ?_, .inr (.inr rfl), ?_⟩, ?_, ?_⟩
      · intro t ht u hu
        have h := hj.2.1 t ht
        rw [show L.getD t (0, 0) = u from by simp [List.getD_eq_getElem?_getD, hu]] at h
        have := of_decide_eq_false h
        simp only; omega
      · intro t ht u hu
        have hlt := (List.getElem?_eq_some_iff.1 hu).1
        have h := hj.2.2 t ht (by rw [← HM.out]; exact hlt)
        rw [show L.getD t (0, 0) = u from by simp [List.getD_eq_getElem?_getD, hu]] at h
        exact of_decide_eq_true h
      · rw [HK.out]
        exact B5.out.set_byt (byt + z)
      · rw [hpj, ← HK.out, insL_app] at Q6
        refine ((Q6.out.inside).kept (ap_set w6 b 5 (.int .i64 (byt + z))).drew (fun k hk e => ?_)).mono (fun k hk => ?_)
        · rcases hk.1 with h | h
          · exact h.2 e
          · have := HNS.out _ hNb; have := F.out.size; omega
        · rcases hk with ⟨h | h, h2⟩
          · exact ⟨.inl h, h.2⟩
          · exact ⟨.inr (.inl ⟨h, h2⟩), by have := HNS.out _ hNb; have := F.out.size; omega⟩
      · intro k hk
        have := L6.out k hk
        simpa using this
      · rintro q (h | h | h)
        · exact .inl h.1
        · exact .inr (by have := F.out.size; omega)
        · exact .inl (by rw [h]; exact hNb)
      · exact (F6.out.trans (ap_set w6 b 5 _) (fun q _ e => by rw [show q = b from e]; exact hNb)).drew
end Go.Proofs.Ytjeffjpenhhnnaa
