/-
  The reference's history in memory; what its New, InFlight, Count, Next, Expire hand back.
-/
import Derived.Test.YtdojphkibgfomaaHiP
import Derived.Test.YtdojphkibgfomaaHiI
namespace Go.Proofs.Ytdojphkibgfomaa
open Go.RowKit Go.Maps

/-- The reference's history in block rb: its list is a row of its own, in a block behind rb. -/
def Rf (w : World) (rb : Nat) (T nx la : Int) (L : List Sn) : Prop :=
  ∃ ad cp, w.heap[rb]? = some (.cells #[.int .i64 T, .slice ad L.length cp, .int .i64 nx, .int .i64 la] 73 (0, 0)) ∧ w.ownsRow (rb + 1) 56 3 (.slice ad L.length cp) L.length (sC L)
theorem Rf.kept {w w' : World} {rb : Nat} {T nx la : Int} {L : List Sn} {X : Nat → Prop} (h : Rf w rb T nx la L) (ha : Apart X w w') (hx : ∀ k, rb ≤ k → k < w.heap.size → ¬ X k) : Rf w' rb T nx la L := by
  obtain ⟨ad, cp, h1, h2⟩ := h
  exact ⟨ad, cp, ha.heap h1 (hx rb (Nat.le_refl _) (lt_of_heap h1)), ownsRow_apart2 h2 ha (fun k hk => hx k (by have := (h2.lt k hk).1; omega) (h2.lt k hk).2)⟩
theorem Rf.lt {w : World} {rb : Nat} {T nx la : Int} {L : List Sn} (h : Rf w rb T nx la L) : rb < w.heap.size := by
  obtain ⟨ad, cp, h1, h2⟩ := h
  exact lt_of_heap h1
theorem rnew_any (T : Int) (h1 : 1 ≤ T) (h2 : T ≤ 1125899906842624) (w : World) :
    Calls Try.prog 10 #[.int .i64 T] w fun e w' => (∃ rb, e = .returned (.tuple #[.pointer (some ⟨rb, 0, none⟩), .int .i64 0]) ∧ Rf w' rb T 0 0 [] ∧ w.heap.size ≤ rb) ∧ Apart (fun _ => False) w w' := by
  go_enter Try.func10, Try.ntmps10
  go_wp2
  go_ret2
  exact ⟨⟨_, rfl, ⟨none, 0, heap_alloc_new _ _, World.ownsRow_nil _ _ _ _⟩, Nat.le_refl _⟩, (Apart.refl _ _).alloc _⟩
theorem rnew_no (T : Int) (h : T < 1 ∨ 1125899906842624 < T) (w : World) :
    Calls Try.prog 10 #[.int .i64 T] w fun e w' => e = .returned (.tuple #[.pointer none, .int .i64 1]) ∧ w' = w := by
  rcases h with h | h
  · go_enter Try.func10, Try.ntmps10
    go_wp2
    go_ret2
    exact ⟨rfl, rfl⟩
  · have h2 : ¬ T < 1 := by omega
    go_enter Try.func10, Try.ntmps10
    go_wp2
    go_ret2
    exact ⟨rfl, rfl⟩
theorem rnext_any {w : World} {rb : Nat} {T nx la : Int} {L : List Sn} (h : Rf w rb T nx la L) :
    Calls Try.prog 25 #[.pointer (some ⟨rb, 0, none⟩)] w fun e w' => e = .returned (.int .i64 nx) ∧ w' = w := by
  obtain ⟨ad, cp, h1, h2⟩ := h
  obtain ⟨c0, c1, c2, c3, -⟩ := cells4 h1
  clear h1 h2
  go_enter Try.func25, Try.ntmps25
  go_wp2
  go_ret
  exact ⟨rfl, rfl⟩
theorem rcount_any {w : World} {rb : Nat} {T nx la : Int} {L : List Sn} (h : Rf w rb T nx la L) :
    Calls Try.prog 23 #[.pointer (some ⟨rb, 0, none⟩)] w fun e w' => e = .returned (.int .i64 (L.length : Int)) ∧ w' = w := by
  obtain ⟨ad, cp, h1, h2⟩ := h
  obtain ⟨c0, c1, c2, c3, -⟩ := cells4 h1
  clear h1 h2
  go_enter Try.func23, Try.ntmps23
  go_wp2
  go_ret
  exact ⟨rfl, rfl⟩
theorem fl_take {L : List Sn} {k : Nat} {s : Sn} (h : L[k]? = some s) : fl (L.take (k + 1)) = fl (L.take k) + s.2.1 := by
  rw [List.take_add_one, h, fl_app]
  simp [Option.toList, fl_cons, fl_nil]
set_option maxRecDepth 100000 in
set_option maxHeartbeats 1000000 in
theorem rflight_any {w : World} {rb : Nat} {T nx la : Int} {L : List Sn} (h : Rf w rb T nx la L) (ok : Ok nx la L) :
    Calls Try.prog 21 #[.pointer (some ⟨rb, 0, none⟩)] w fun e w' => e = .returned (.int .i64 (fl L)) ∧ w' = w := by
  obtain ⟨ad, cp, h1, h2⟩ := h
  obtain ⟨c0, c1, c2, c3, -⟩ := cells4 h1
  have O2 := mkHid h2
  have OK := mkHid ok
  have hlen := ok.len
  obtain ⟨n, HN⟩ : ∃ n, Hid (L.length = n) := ⟨_, rfl⟩
  rw [HN.out] at c1 O2 hlen
  clear h1 h2
  go_enter Try.func21, Try.ntmps21
  go_wp2
  go_loopw [3, 4] (fun x i wr => ∃ k : Nat, k ≤ n ∧ x = .int .i64 (fl (L.take k)) ∧ i = .int .i64 (k : Int) ∧ wr = w) (fun _ i _ => n - (intOf i).toNat)
  case atStart => exact ⟨0, Nat.zero_le _, rfl, rfl, rfl⟩
  case round =>
    obtain ⟨k, hk, rfl, rfl, hwr⟩ := hrel
    obtain rfl := hwr.symm
    by_cases hlt : k < n
    · have k0 : (0 : Int) ≤ k := by omega
      have k1 : (k : Int) < n := by omega
      obtain ⟨s, HS⟩ : ∃ s, Hid (L[k]? = some s) := ⟨_, List.getElem?_eq_getElem (by rw [HN.out]; exact hlt)⟩
      obtain ⟨g, cap, hv, -, -, q1, -⟩ := own_at O2.out HN.out.symm HS.out
      obtain ⟨rfl, rfl⟩ : ad = some ⟨g, 0, none⟩ ∧ cp = cap := by simpa using hv
      have hz := OK.out.siz s (List.mem_of_getElem? HS.out)
      have hb := fl_bd (L := L.take k) (fun u hu => OK.out.siz u (List.mem_of_mem_take hu))
      rw [List.length_take] at hb
      have hb2 : 0 ≤ fl (L.take k) ∧ fl (L.take k) ≤ 1536000 := by omega
      have HF := mkHid (fl_take HS.out)
      obtain ⟨f, Hf⟩ : ∃ f, Hid (fl (L.take k) = f) := ⟨_, rfl⟩
      rw [Hf.out] at hb2 HF ⊢
      obtain ⟨sn, sz, st⟩ := s
      simp only at q1 hz HF
      clear hb hv
      go_wp2
      go_roundw
      case rel => exact ⟨k + 1, by omega, by rw [HF.out], by go_num, by first | exact trivial | rfl⟩
      case measure => simp [intOf]; omega
    · obtain rfl : n = k := by omega
      have HE := mkHid (show fl (L.take n) = fl L by rw [← HN.out, List.take_length])
      go_wp2
      go_ret
      exact ⟨by rw [HE.out]; rfl, rfl⟩

/-- What stands while the reference's Expire goes on: k have been looked at. -/
structure Rx (w : World) (f : Sn → Bool) (L : List Sn) (wr : World) (vo vs : Value) (k : Nat) : Prop where
  oo : wr.ownsRow w.heap.size 56 3 vo ((L.take k).filter f).length (sC ((L.take k).filter f))
  os : wr.ownsRow w.heap.size 56 3 vs ((L.take k).filter fun s => !f s).length (sC ((L.take k).filter fun s => !f s))
  ne : ∀ k, vo.ownBlock = some k → vs.ownBlock ≠ some k
  ap : Apart (fun _ => False) w wr
theorem Rx.on {w : World} {f : Sn → Bool} {L : List Sn} {wr w2 : World} {vo vs : Value} {k : Nat} (h : Rx w f L wr vo vs k) (a : Apart (fun _ => False) wr w2) : Rx w f L w2 vo vs k :=
  ⟨ownsRow_apart2 h.oo a (fun _ _ h => h), ownsRow_apart2 h.os a (fun _ _ h => h), h.ne, h.ap.zz a⟩
theorem filter_take {L : List Sn} {k : Nat} {s : Sn} (h : L[k]? = some s) (f : Sn → Bool) : (L.take (k + 1)).filter f = (L.take k).filter f ++ (if f s then [s] else []) := by
  rw [List.take_add_one, h, List.filter_append]
  congr 1
  cases hf : f s <;> simp [Option.toList, hf]
theorem Rx.out {w : World} {f : Sn → Bool} {L : List Sn} {wr w2 : World} {vo vs v2 : Value} {k n : Nat} {s : Sn} (h : Rx w f L wr vo vs k) (hs : L[k]? = some s) (hf : f s = true) (hown : w2.ownsRow w.heap.size 56 3 v2 (n + 1) (sC ((L.take k).filter f) ++ sE s)) (hn : n = ((L.take k).filter f).length) (hg : wr.grownBy w2 vo.ownBlock) (hx : ∀ k, v2.ownBlock = some k → vo.ownBlock = some k ∨ wr.heap.size ≤ k) : Rx w f L w2 v2 vs (k + 1) := by
  have A := grown_apart hg
  subst hn
  have e1 := filter_take hs f
  have e2 := filter_take hs (fun s => !f s)
  rw [hf] at e1
  simp only [hf, Bool.not_true, Bool.false_eq_true, if_false, List.append_nil, if_true] at e1 e2
  refine ⟨?_, ?_, ?_, h.ap.trans A (fun i hi e => by have := (h.oo.lt _ e).1; omega)⟩
  · rw [e1, sC_app, sC_one, List.length_append]; exact hown
  · rw [e2]; exact ownsRow_apart2 h.os A (fun k hk e => h.ne k e hk)
  · intro k hk hk'
    rcases hx k hk with e | e
    · exact h.ne k e hk'
    · have := (h.os.lt k hk').2; omega
theorem Rx.stay {w : World} {f : Sn → Bool} {L : List Sn} {wr w2 : World} {vo vs v2 : Value} {k n : Nat} {s : Sn} (h : Rx w f L wr vo vs k) (hs : L[k]? = some s) (hf : f s = false) (hown : w2.ownsRow w.heap.size 56 3 v2 (n + 1) (sC ((L.take k).filter fun s => !f s) ++ sE s)) (hn : n = ((L.take k).filter fun s => !f s).length) (hg : wr.grownBy w2 vs.ownBlock) (hx : ∀ k, v2.ownBlock = some k → vs.ownBlock = some k ∨ wr.heap.size ≤ k) : Rx w f L w2 vo v2 (k + 1) := by
  have A := grown_apart hg
  subst hn
  have e1 := filter_take hs f
  have e2 := filter_take hs (fun s => !f s)
  simp only [hf, Bool.not_false, Bool.false_eq_true, if_false, List.append_nil, if_true] at e1 e2
  refine ⟨?_, ?_, ?_, h.ap.trans A (fun i hi e => by have := (h.os.lt _ e).1; omega)⟩
  · rw [e1]; exact ownsRow_apart2 h.oo A (fun k hk e => h.ne k hk e)
  · rw [e2, sC_app, sC_one, List.length_append]; exact hown
  · intro k hk hk'
    rcases hx k hk' with e | e
    · exact h.ne k hk e
    · have := (h.oo.lt k hk).2; omega
set_option maxRecDepth 100000 in
set_option maxHeartbeats 4000000 in
theorem rexpire_any {w : World} {rb : Nat} {T nx la : Int} {L : List Sn} (h : Rf w rb T nx la L) (ok : Ok nx la L) (now : Int) (w1 : -9223372036854775808 ≤ now) (w2 : now ≤ 9223372036854775807) :
    Calls Try.prog 19 #[.pointer (some ⟨rb, 0, none⟩), .int .i64 now] w fun e w' => ∃ v, e = .returned v ∧ w'.ownsRow w.heap.size 56 3 v (exO T now L).length (sC (exO T now L)) ∧ Rf w' rb T nx la (exR T now L) ∧ (∀ k, v.ownBlock = some k → rb < k) ∧ Apart (· = rb) w w' := by
  have hlt := h.lt
  obtain ⟨ad, cp, h1, h2⟩ := h
  have B0 := mkHid h1
  have O2 := mkHid h2
  have OK := mkHid ok
  have hlen := ok.len
  have hla := ok.la1
  obtain ⟨i3, hi3, hz30, hz31, hz32⟩ := info56
  obtain ⟨n, HN⟩ : ∃ n, Hid (L.length = n) := ⟨_, rfl⟩
  rw [HN.out] at B0 O2 hlen
  clear h1 h2 ok
  go_enter Try.func19, Try.ntmps19
  go_wp2
  go_loopw [5, 6, 7] (fun vo vs i wr => ∃ k : Nat, k ≤ n ∧ i = .int .i64 (k : Int) ∧ Rx w (exB T now) L wr vo vs k) (fun _ _ i _ => n - (intOf i).toNat)
  case atStart => exact ⟨0, Nat.zero_le _, rfl, World.ownsRow_nil _ _ _ _, World.ownsRow_nil _ _ _ _, by simp [Value.ownBlock], Apart.refl _ _⟩
  case round =>
    obtain ⟨k, hk, rfl, hx⟩ := hrel
    have HX := mkHid hx
    clear hx
    have BX := mkHid (HX.out.ap.heap B0.out (fun h => h))
    obtain ⟨c0, c1, c2, c3, -⟩ := cells4 BX.out
    by_cases hlk : k < n
    · have k0 : (0 : Int) ≤ k := by omega
      have k1 : (k : Int) < n := by omega
      obtain ⟨s, HS⟩ : ∃ s, Hid (L[k]? = some s) := ⟨_, List.getElem?_eq_getElem (by rw [HN.out]; exact hlk)⟩
      obtain ⟨g, cap, hv, -, q0, q1, q2⟩ := own_at (ownsRow_apart2 O2.out HX.out.ap (fun _ _ h => h)) HN.out.symm HS.out
      obtain ⟨rfl, rfl⟩ : ad = some ⟨g, 0, none⟩ ∧ cp = cap := by simpa using hv
      have ht := OK.out.tim s (List.mem_of_getElem? HS.out)
      have SUB := mkHid (fun W => Sat.rsub_any now s.2.2 w1 w2 (by omega) (by omega) W)
      obtain ⟨y, HY⟩ : ∃ y, Hid (Sat.satH (now - s.2.2) = y) := ⟨_, rfl⟩
      rw [HY.out] at SUB
      have hex : exB T now s = decide (T < y) := by rw [← HY.out]; rfl
      have H1 := mkHid (HX.out.on (Apart.refl (fun _ => False) wr).drew)
      have H2 := mkHid (H1.out.on ((Apart.refl (fun _ => False) wr.drew).alloc (.cells (sE s).toArray 56)))
      have hl1 : ((L.take k).filter (exB T now)).length ≤ 1024 := Nat.le_trans (List.length_filter_le _ _) (by rw [List.length_take]; omega)
      have hl2 : ((L.take k).filter fun s => !exB T now s).length ≤ 1024 := Nat.le_trans (List.length_filter_le _ _) (by rw [List.length_take]; omega)
      have HL1 := mkHid hl1
      have HL2 := mkHid hl2
      obtain ⟨sn, sz, st⟩ := s
      simp only at q0 q1 q2 SUB ht
      clear hv hl1 hl2
      go_upto_region 5 with fail
      go_region_held3 (fun w' => w'.cell? ⟨rb, 0, none⟩ = some (.int .i64 T) ∧ w'.cell? ⟨rb, 1, none⟩ = some (.slice (some ⟨g, 0, none⟩) n cp) ∧ w'.cell? ⟨g, k * 3 + 2, none⟩ = some (.int .i64 st)) (go_keep) (first | (go_at_call 38; refine (SUB.out _).mono ?_; rintro e w5 ⟨rfl, rfl⟩))
      by_cases hty : T < y
      · have HF := mkHid (show exB T now (sn, sz, st) = true by rw [hex]; exact decide_eq_true hty)
        go_wp2_with (at_builtin; refine wpList_append_told _ rfl (.tmp 32) (.tmp 40) 38 rfl w.heap.size 56 i3 _ 3 24 Try.underlying38 hi3 hz30 hz31 hz32 rfl (by decide) _ _ _ rfl H2.out.oo (.slice (some ⟨wr.heap.size, 0, none⟩) 1 1) 1 (sE (sn, sz, st)) rfl (src_new wr.drew _ 56 3 rfl) (by intro u hu; exact one_sC [(sn, sz, st)] u (by rw [sC_one]; exact hu)) (by have := HL1.out; unfold maxLen; omega) (by have := HL1.out; omega) H2.out.ap.size ?_; intro v6 w6 hown hgr hx; have H6 := mkHid (H2.out.out HS.out HF.out hown rfl hgr hx); clear hown hgr hx)
        go_roundw
        case rel => exact ⟨k + 1, by omega, by go_num, H6.out⟩
        case measure => simp [intOf]; omega
      · have HF := mkHid (show exB T now (sn, sz, st) = false by rw [hex]; exact decide_eq_false hty)
        go_wp2_with (at_builtin; refine wpList_append_told _ rfl (.tmp 42) (.tmp 50) 38 rfl w.heap.size 56 i3 _ 3 24 Try.underlying38 hi3 hz30 hz31 hz32 rfl (by decide) _ _ _ rfl H2.out.os (.slice (some ⟨wr.heap.size, 0, none⟩) 1 1) 1 (sE (sn, sz, st)) rfl (src_new wr.drew _ 56 3 rfl) (by intro u hu; exact one_sC [(sn, sz, st)] u (by rw [sC_one]; exact hu)) (by have := HL2.out; unfold maxLen; omega) (by have := HL2.out; omega) H2.out.ap.size ?_; intro v6 w6 hown hgr hx; have H6 := mkHid (H2.out.stay HS.out HF.out hown rfl hgr hx); clear hown hgr hx)
        go_roundw
        case rel => exact ⟨k + 1, by omega, by go_num, H6.out⟩
        case measure => simp [intOf]; omega
    · obtain rfl : n = k := by omega
      have HE := mkHid (show L.take n = L by rw [← HN.out, List.take_length])
      have f1 := frozen_of_row wr rb 1 _ 73 BX.out
      obtain ⟨ad2, cp2, hv2⟩ := ownsRow_slice HX.out.os
      have HX2 := mkHid HX.out
      rw [hv2] at HX2
      subst hv2
      go_wp2
      go_ret
      have OO := HX2.out.oo
      have OS := HX2.out.os
      rw [HE.out] at OO OS ⊢
      refine ⟨_, rfl, ?_, ⟨ad2, cp2, ?_, ?_⟩, fun k hk => by have := (OO.lt k hk).1; omega, (HX2.out.ap.mono (fun _ _ h => h.elim)).trans (ap_set wr rb 1 _) (fun _ _ e => e)⟩
      · exact ownsRow_apart2 OO (ap_set wr rb 1 _) (fun k hk e => by have := (OO.lt k hk).1; omega)
      · exact heap_setCell_same wr rb 1 _ 73 _ BX.out
      · exact ownsRow_base (ownsRow_apart2 OS (ap_set wr rb 1 _) (fun k hk e => by have := (OS.lt k hk).1; omega)) (by omega)
end Go.Proofs.Ytdojphkibgfomaa
