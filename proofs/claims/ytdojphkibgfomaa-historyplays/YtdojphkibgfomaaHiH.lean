/-
  What Expire gives up, in plain words; what stands while it goes over the map, and while it strikes.
-/
import Derived.Test.YtdojphkibgfomaaHiF
import Derived.Test.YtdojphkibgfomaaHiG
import Derived.Test.YtdojphkibgfomaaSatWalks
namespace Go.Proofs.Ytdojphkibgfomaa
open Go.RowKit Go.Maps

/-- Was it sent too long ago? -/
def exB (T now : Int) (s : Sn) : Bool := decide (T < Sat.satH (now - s.2.2))
def exO (T now : Int) (L : List Sn) : List Sn := L.filter (exB T now)
def exR (T now : Int) (L : List Sn) : List Sn := L.filter fun s => !exB T now s
theorem beq_swap (x y : Int) : (x == y) = (y == x) := Bool.eq_iff_iff.2 (by simp only [beq_iff_eq]; exact eq_comm)
theorem nodup_len {M L : List Sn} (hM : M.Nodup) (hL : L.Nodup) (h : ∀ s ∈ M, s ∈ L) : M.length ≤ L.length := by
  have hp : M.Perm (L.filter fun s => decide (s ∈ M)) := by
    rw [List.perm_ext_iff_of_nodup hM (List.Pairwise.filter _ hL)]
    intro a
    rw [List.mem_filter]
    simp only [decide_eq_true_eq]
    exact ⟨fun ha => ⟨h a ha, ha⟩, fun ha => ha.2⟩
  rw [hp.length_eq]
  exact List.length_filter_le _ _
theorem rise_eq {L : List Sn} (hr : Rise L) {s u : Sn} (hs : s ∈ L) (hu : u ∈ L) (h : s.1 = u.1) : s = u := by
  have h1 := find_key hr hs
  have h2 := find_key hr hu
  rw [h, h2] at h1
  exact (Option.some.inj h1).symm
theorem nodup_of {M : List Sn} (h : M.Pairwise fun p q => p.1 ≠ q.1) : M.Nodup := List.Pairwise.imp (fun hne e => hne (by rw [e])) h
theorem rise_apart {L : List Sn} (h : Rise L) : L.Pairwise fun p q => p.1 ≠ q.1 := List.Pairwise.imp (fun h => by omega) h
theorem visited {L M : List Sn} (hr : Rise L) (hm : ∀ s ∈ M, s ∈ L) (ho : M.Pairwise fun p q => p.1 ≠ q.1) (hall : ∀ s ∈ L, ∃ u ∈ M, u.1 = s.1) : M.Perm L := by
  rw [List.perm_ext_iff_of_nodup (nodup_of ho) (nodup_of (rise_apart hr))]
  intro a
  refine ⟨hm a, fun ha => ?_⟩
  obtain ⟨u, hu, e⟩ := hall a ha
  rw [← rise_eq hr (hm u hu) ha e]
  exact hu
theorem sorted_is {L d M : List Sn} (hr : Rise L) (f : Sn → Bool) (hm : M.Perm L) (hd : d.Perm (M.filter f)) (hs : d.Pairwise fun a b => ¬ b.1 < a.1) : d = L.filter f := by
  have hp : d.Perm (L.filter f) := hd.trans (hm.filter f)
  refine List.Perm.eq_of_pairwise (le := fun a b => ¬ b.1 < a.1) ?_ hs (List.Pairwise.imp (fun h => by omega) (rise_filter hr f)) hp
  intro a b ha hb h1 h2
  have ha' : a ∈ L := (List.mem_filter.1 (hp.mem_iff.1 ha)).1
  have hb' : b ∈ L := (List.mem_filter.1 hb).1
  exact rise_eq hr ha' hb' (by omega)
/-- What is still to come. -/
def lft (L M : List Sn) : Lit → Bool := fun z => has (mD L) z && !M.any fun s => z.sameKey (kL s.1)
theorem lft_nil (L : List Sn) : lft L [] = has (mD L) := by funext z; simp [lft]
theorem lft_end (L M : List Sn) (s : Sn) : (fun z => lft L M z && !z.sameKey (kL s.1)) = lft L (M ++ [s]) := by
  funext z
  unfold lft
  rw [List.any_append]
  cases has (mD L) z <;> cases M.any (fun s => z.sameKey (kL s.1)) <;> simp
theorem lft_key {L M : List Sn} (x : Int) : lft L M (kL x) = (L.any (fun s => s.1 == x) && !M.any fun s => s.1 == x) := by
  unfold lft
  rw [mD_has]
  congr 2
  congr 1
  funext s
  rw [same_k]
  exact beq_swap x s.1
theorem lft_done {L M : List Sn} (h : ∀ z, lft L M z = false) : ∀ s ∈ L, ∃ u ∈ M, u.1 = s.1 := by
  intro s hs
  have := h (kL s.1)
  rw [lft_key, List.any_eq_true.2 ⟨s, hs, by simp⟩, Bool.true_and, Bool.not_eq_false'] at this
  obtain ⟨u, hu, e⟩ := List.any_eq_true.1 this
  exact ⟨u, hu, by simpa using e⟩
theorem lft_new {L M : List Sn} {x : Int} (h : lft L M (kL x) = true) : (∃ u ∈ L, u.1 = x) ∧ ∀ u ∈ M, u.1 ≠ x := by
  rw [lft_key, Bool.and_eq_true, Bool.not_eq_true'] at h
  obtain ⟨u, hu, e⟩ := List.any_eq_true.1 h.1
  refine ⟨⟨u, hu, by simpa using e⟩, fun u hu => ?_⟩
  have := List.any_eq_false.1 h.2 u hu
  simpa using this
theorem keyOf_inv {kl : Lit} {x : Int} (h : keyOf Try.prog 2 (.int .i64 x) = some kl) : kl = kL x := by
  obtain ⟨x', e, e2, _⟩ := Maps.keyOf_int_inv Try.underlying2 h
  cases e
  exact e2
theorem came {L : List Sn} (hr : Rise L) {x : Int} {c : Sn} {y : DataW Unit × List MemPlace} (hv : sR (sV c) = some y) (hat : ∀ zd, (mD L).atKey (kL x) zd = y.1) (hx : ∃ u ∈ L, u.1 = x) : c ∈ L ∧ c.1 = x := by
  obtain ⟨u, hu, rfl⟩ := hx
  have h1 := hat (.lit (.bool true))
  rw [mD_at hr hu] at h1
  rw [sR_mk] at hv
  cases hv
  rw [← sD_inj h1]
  exact ⟨hu, rfl⟩
theorem ranges_apart {w w' : World} {X : Nat → Prop} {b r n cnt : Nat} {D : DataW Unit} {left : Lit → Bool} (h : w.ranges Try.prog 2 sR b r n D left cnt) (ha : Apart X w w') (h1 : ¬ X b) (h2 : ¬ X r) : w'.ranges Try.prog 2 sR b r n D left cnt := by
  obtain ⟨es, clock, since, seen, c0, hb, F, hs, hD, hr, rest⟩ := h
  exact ⟨es, clock, since, seen, c0, ha.heap hb h1, F, hs, hD, ha.heap hr h2, rest⟩
theorem grown_apart' {w w' : World} {row : Option Nat} (g : w.grownBy w' row) : Apart (fun k => row = some k) w w' := ⟨g.os, g.tape, g.output, g.size, fun k hk hx => g.block k hk (fun e => hx e.symm)⟩

/-- What stands while Expire goes over the map: M has come. -/
structure Ex (w : World) (mb it : Nat) (f : Sn → Bool) (L : List Sn) (wr : World) (v : Value) (M : List Sn) (cnt : Nat) : Prop where
  rg : wr.ranges Try.prog 2 sR mb it L.length (mD L) (lft L M) cnt
  mem : ∀ s ∈ M, s ∈ L
  one : M.Pairwise fun p q => p.1 ≠ q.1
  own : wr.ownsRow w.heap.size 56 3 v (M.filter f).length (sC (M.filter f))
  ne : ∀ k, v.ownBlock = some k → k ≠ it
  ap : Apart (fun _ => False) w wr
theorem Ex.len {w : World} {mb it : Nat} {f : Sn → Bool} {L : List Sn} {wr : World} {v : Value} {M : List Sn} {cnt : Nat} (h : Ex w mb it f L wr v M cnt) (hr : Rise L) : (M.filter f).length ≤ L.length :=
  Nat.le_trans (List.length_filter_le _ _) (nodup_len (nodup_of h.one) (nodup_of (rise_apart hr)) h.mem)
theorem Ex.on {w : World} {mb it : Nat} {f : Sn → Bool} {L : List Sn} {wr w2 : World} {v : Value} {M : List Sn} {cnt : Nat} (h : Ex w mb it f L wr v M cnt) (a : Apart (fun _ => False) wr w2) : Ex w mb it f L w2 v M cnt :=
  ⟨ranges_apart h.rg a (fun h => h) (fun h => h), h.mem, h.one, ownsRow_apart2 h.own a (fun _ _ h => h), h.ne, h.ap.zz a⟩
/-- An entry has come: it stays out of the row. -/
theorem Ex.next {w : World} {mb it : Nat} {f : Sn → Bool} {L : List Sn} {wr w1 : World} {v : Value} {M : List Sn} {cnt cnt1 : Nat} (h : Ex w mb it f L wr v M cnt) {c : Sn} (hc : c ∈ L) (hn : ∀ u ∈ M, u.1 ≠ c.1) (hf : f c = false)
    (hrg : w1.ranges Try.prog 2 sR mb it L.length (mD L) (fun z => lft L M z && !z.sameKey (kL c.1)) cnt1) (hg : wr.grownBy w1 (some it)) (hit : w.heap.size ≤ it) : Ex w mb it f L w1 v (M ++ [c]) cnt1 := by
  have A := grown_apart' hg
  refine ⟨by rw [← lft_end]; exact hrg, ?_, ?_, ?_, h.ne, h.ap.trans A (fun i hi e => by cases e; omega)⟩
  · intro s hs
    rcases List.mem_append.1 hs with hs | hs
    · exact h.mem s hs
    · rw [List.mem_singleton] at hs; rw [hs]; exact hc
  · rw [List.pairwise_append]
    exact ⟨h.one, by simp, fun a ha b hb => by rw [List.mem_singleton] at hb; rw [hb]; exact hn a ha⟩
  · rw [List.filter_append, show [c].filter f = [] by simp [hf], List.append_nil]
    exact ownsRow_apart2 h.own A (fun k hk e => by cases e; exact h.ne _ hk rfl)
/-- It goes into the row. -/
theorem Ex.more {w : World} {mb it : Nat} {f : Sn → Bool} {L : List Sn} {wr w1 w4 : World} {v v4 : Value} {M : List Sn} {cnt cnt1 : Nat} (h : Ex w mb it f L wr v M cnt) {c : Sn} (hc : c ∈ L) (hn : ∀ u ∈ M, u.1 ≠ c.1) (hf : f c = true)
    (hrg : w1.ranges Try.prog 2 sR mb it L.length (mD L) (fun z => lft L M z && !z.sameKey (kL c.1)) cnt1) (hap : Apart (fun _ => False) w w1) (hmb : mb < w.heap.size)
    (hlt : ∀ k, v.ownBlock = some k → w.heap.size ≤ k) {n : Nat} (hown : w4.ownsRow w.heap.size 56 3 v4 (n + 1) (sC (M.filter f) ++ sE c)) (hnn : n = (M.filter f).length) (hg : w1.grownBy w4 v.ownBlock) (hx : ∀ k, v4.ownBlock = some k → v.ownBlock = some k ∨ w1.heap.size ≤ k) : Ex w mb it f L w4 v4 (M ++ [c]) cnt1 := by
  have A := grown_apart' hg
  have hil := hrg.lt
  subst hnn
  refine ⟨by rw [← lft_end]; exact ranges_apart hrg A (fun e => by have := hlt _ e; omega) (fun e => h.ne _ e rfl), ?_, ?_, ?_, ?_, hap.trans A (fun i hi e => by have := hlt _ e; omega)⟩
  · intro s hs
    rcases List.mem_append.1 hs with hs | hs
    · exact h.mem s hs
    · rw [List.mem_singleton] at hs; rw [hs]; exact hc
  · rw [List.pairwise_append]
    exact ⟨h.one, by simp, fun a ha b hb => by rw [List.mem_singleton] at hb; rw [hb]; exact hn a ha⟩
  · rw [List.filter_append, show [c].filter f = [c] by simp [hf], sC_app, sC_one, List.length_append]
    exact hown
  · intro k hk e
    rcases hx k hk with h1 | h1
    · exact h.ne k h1 e
    · omega

/-- What is left while the row is gone through. -/
def kept (L O : List Sn) (k : Nat) : List Sn := L.filter fun u => !(O.take k).any fun s => s.1 == u.1
theorem kept_zero (L O : List Sn) : kept L O 0 = L := by
  unfold kept
  rw [List.filter_eq_self]
  intro a _
  simp
theorem kept_succ {L O : List Sn} {k : Nat} {s : Sn} (h : O[k]? = some s) : (kept L O k).filter (fun u => u.1 != s.1) = kept L O (k + 1) := by
  unfold kept
  rw [List.filter_filter]
  congr 1
  funext u
  rw [List.take_add_one, h, List.any_append]
  simp only [Option.toList, List.any_cons, List.any_nil, Bool.or_false]
  rw [Bool.not_or, Bool.and_comm]
  congr 1
  show (!(u.1 == s.1)) = !(s.1 == u.1)
  rw [beq_swap]
theorem kept_mem {L O : List Sn} {k : Nat} {s : Sn} (h : O[k]? = some s) (hr : Rise O) (hs : s ∈ L) : s ∈ kept L O k := by
  unfold kept
  rw [List.mem_filter]
  refine ⟨hs, ?_⟩
  rw [Bool.not_eq_true', List.any_eq_false]
  intro u hu
  obtain ⟨i, hi⟩ := List.getElem?_of_mem hu
  rw [List.getElem?_take] at hi
  split at hi
  · rename_i hik
    obtain ⟨h1, h2⟩ := List.getElem?_eq_some_iff.1 hi
    obtain ⟨h3, h4⟩ := List.getElem?_eq_some_iff.1 h
    have := List.pairwise_iff_getElem.1 hr i k h1 h3 hik
    rw [h2, h4] at this
    simp; omega
  · cases hi
theorem kept_end {L : List Sn} (hr : Rise L) (f : Sn → Bool) {k : Nat} (hk : (L.filter f).length ≤ k) : kept L (L.filter f) k = L.filter fun s => !f s := by
  unfold kept
  rw [List.take_of_length_le hk]
  apply List.filter_congr
  intro u hu
  congr 1
  rw [Bool.eq_iff_iff, List.any_eq_true]
  constructor
  · rintro ⟨s, hs, e⟩
    obtain ⟨h1, h2⟩ := List.mem_filter.1 hs
    rw [← rise_eq hr h1 hu (by simpa using e)]
    exact h2
  · intro hf
    exact ⟨u, List.mem_filter.2 ⟨hu, hf⟩, by simp⟩
/-- A packet's three cells in a row. -/
theorem sC_at {l : List Sn} {k : Nat} {s : Sn} (h : l[k]? = some s) : (sC l)[k * 3]? = some (.int .i64 s.1) ∧ (sC l)[k * 3 + 1]? = some (.int .i64 s.2.1) ∧ (sC l)[k * 3 + 2]? = some (.int .i64 s.2.2) := by
  have hk : k < l.length := (List.getElem?_eq_some_iff.1 h).1
  refine ⟨?_, ?_, ?_⟩ <;>
  · rw [sC_get, if_pos (by omega)]
    first
      | (rw [show k * 3 / 3 = k by omega, show k * 3 % 3 = 0 by omega, h]; rfl)
      | (rw [show (k * 3 + 1) / 3 = k by omega, show (k * 3 + 1) % 3 = 1 by omega, h]; rfl)
      | (rw [show (k * 3 + 2) / 3 = k by omega, show (k * 3 + 2) % 3 = 2 by omega, h]; rfl)
theorem own_at {w : World} {B n : Nat} {v : Value} {l : List Sn} (h : w.ownsRow B 56 3 v n (sC l)) (hn : n = l.length) {k : Nat} {s : Sn} (hk : l[k]? = some s) : ∃ g cap, v = .slice (some ⟨g, 0, none⟩) n cap ∧ B ≤ g ∧ w.cell? ⟨g, k * 3, none⟩ = some (.int .i64 s.1) ∧ w.cell? ⟨g, k * 3 + 1, none⟩ = some (.int .i64 s.2.1) ∧ w.cell? ⟨g, k * 3 + 2, none⟩ = some (.int .i64 s.2.2) := by
  have hl : k < l.length := (List.getElem?_eq_some_iff.1 hk).1
  obtain ⟨a0, a1, a2⟩ := sC_at hk
  rcases h.2 with ⟨_, h0⟩ | ⟨g, cap, cur, rfl, hg, _⟩
  · omega
  · have c := h.cells (g := g) rfl
    have c0 := c _ _ a0
    have c1 := c _ _ a1
    have c2 := c _ _ a2
    rw [Addr.add_lit, Nat.zero_add] at c0 c1 c2
    exact ⟨g, cap, rfl, hg, c0, c1, c2⟩
end Go.Proofs.Ytdojphkibgfomaa
