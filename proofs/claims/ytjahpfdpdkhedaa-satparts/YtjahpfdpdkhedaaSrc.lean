/-
  The sums of lists, said of any slice value of int64, nil or not, whose cells are known.
-/
import Derived.Test.YtjahpfdpdkhedaaLists
import Derived.Test.YtjahpfdpdkhedaaApp
namespace Go.Proofs.Ytjahpfdpdkhedaa
open Go.RowKit

def V64 (zs : List Int) : List Value := zs.map (Value.int .i64)
theorem V64_get (zs : List Int) (i : Nat) (h : i < zs.length) : (V64 zs)[i]? = some (.int .i64 (zs.getD i 0)) := by simp [V64, h]

/-- A slice value of int64 is nil or empty, or lies at a plain address with its cells. -/
theorem src_cases {w : World} {v : Value} {n : Nat} {zs : List Int} (h : SrcL w v n (V64 zs)) :
    zs.length = n ∧ ((n = 0 ∧ ∃ a cap, v = .slice a 0 cap) ∨ ∃ b off cap, v = .slice (some ⟨b, off, none⟩) n cap ∧ b < w.heap.size ∧ ∀ i, i < n → w.cell? ⟨b, off + i, none⟩ = some (.int .i64 (zs.getD i 0))) := by
  rcases h with ⟨rfl, rfl, e⟩ | ⟨ad, c, rfl, hl, hc⟩
  · exact ⟨by simpa [V64] using e, .inl ⟨rfl, none, 0, rfl⟩⟩
  · have hl' : zs.length = n := by simpa [V64] using hl
    refine ⟨hl', ?_⟩
    by_cases h0 : n = 0
    · subst h0; exact .inl ⟨rfl, _, _, rfl⟩
    · right
      obtain ⟨b, off, spot⟩ := ad
      have h1 := hc 0 _ (V64_get zs 0 (by omega))
      have hspot : spot = none := by simpa [Addr.add] using World.cell?_spot h1
      subst hspot
      refine ⟨b, off, c, rfl, ?_, fun i hi => ?_⟩
      · exact World.block_lt_of_cell? w _ h1
      · have h2 := hc i _ (V64_get zs i (by omega))
        rwa [Addr.add_lit] at h2

theorem sumL_src {w : World} {v : Value} {n : Nat} {zs : List Int} (h : SrcL w v n (V64 zs)) (hz : I64s zs) (hn : n ≤ maxLen) :
    Calls Try.prog 22 #[v] w fun e w' => e = .returned (.int .i64 (satH zs.sum)) ∧ Below w.heap.size w w' := by
  obtain ⟨hl, ⟨rfl, a, cap, rfl⟩ | ⟨b, off, cap, rfl, hb, hc⟩⟩ := src_cases h
  · have : zs = [] := List.eq_nil_of_length_eq_zero hl
    subst this
    exact sumL_empty a cap w
  · exact sumL_any b off n cap zs w hn hl hz hc hb
theorem rsum_src {w : World} {v : Value} {n : Nat} {zs : List Int} (h : SrcL w v n (V64 zs)) (hz : I64s zs) (hn : n ≤ 2147483648) :
    Calls Try.prog 23 #[v] w fun e w' => e = .returned (.int .i64 (satH zs.sum)) ∧ w' = w := by
  obtain ⟨hl, ⟨rfl, a, cap, rfl⟩ | ⟨b, off, cap, rfl, hb, hc⟩⟩ := src_cases h
  · have : zs = [] := List.eq_nil_of_length_eq_zero hl
    subst this
    exact rsum_empty a cap w
  · exact rsum_any b off n cap zs w hn hl hz hc
theorem longs_src {w : World} {v v' : Value} {n : Nat} {zs : List Int} (h : SrcL w v n (V64 zs)) (h' : SrcL w v' n (V64 zs)) (hn : n ≤ 2147483648) :
    Calls Try.prog 24 #[v, v'] w fun e w' => e = .returned (.bool true) ∧ Below w.heap.size w w' := by
  obtain ⟨hl, c1⟩ := src_cases h
  obtain ⟨_, c2⟩ := src_cases h'
  by_cases h0 : n = 0
  · subst h0
    obtain ⟨a, cap, rfl⟩ : ∃ a cap, v = .slice a 0 cap := by
      rcases c1 with ⟨_, a, cap, rfl⟩ | ⟨b, off, cap, rfl, _⟩ <;> exact ⟨_, _, rfl⟩
    obtain ⟨a', cap', rfl⟩ : ∃ a cap, v' = .slice a 0 cap := by
      rcases c2 with ⟨_, a, cap, rfl⟩ | ⟨b, off, cap, rfl, _⟩ <;> exact ⟨_, _, rfl⟩
    exact (longs_empty a a' cap cap' w).mono fun e w' ⟨he, hw⟩ => ⟨he, hw ▸ Below.refl _ _⟩
  · rcases c1 with ⟨e, _⟩ | ⟨b, off, cap, rfl, hb, hc⟩
    · exact (h0 e).elim
    · rcases c2 with ⟨e, _⟩ | ⟨b', off', cap', rfl, hb', hc'⟩
      · exact (h0 e).elim
      · exact longs_any b off b' off' n cap cap' zs w hn hc hc'
/-- Old cells stay. -/
theorem src_below {w w' : World} {v : Value} {n : Nat} {xs : List Value} (h : SrcL w v n xs) (hb : Below w.heap.size w w') : SrcL w' v n xs :=
  h.mono fun a _ k => (hb.cell (p := a) (World.block_lt_of_cell? w a k)).trans k
theorem src_grown {w w' : World} {v : Value} {n : Nat} {xs : List Value} {row : Option Nat} (h : SrcL w v n xs) (hg : w.grownBy w' row) (hr : ∀ ad c, v = .slice (some ad) n c → row ≠ some ad.block) : SrcL w' v n xs := by
  rcases h with h | ⟨ad, c, e, l, k⟩
  · exact .inl h
  · refine .inr ⟨ad, c, e, l, fun j u hj => hg.cell (k j u hj) ?_⟩
    have : (ad.add j).block = ad.block := by unfold Addr.add; split <;> rfl
    rw [this]; exact fun hh => hr ad c e hh.symm
end Go.Proofs.Ytjahpfdpdkhedaa
