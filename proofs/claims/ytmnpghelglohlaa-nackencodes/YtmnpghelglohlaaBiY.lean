/-
  What a writer's functions that all may call do, whatever they are asked.
-/
import Derived.Test.YtmnpghelglohlaaBiX
import Derived.Test.YtmnpghelglohlaaBiR
namespace Go.Proofs.Ytmnpghelglohlaa
open Go.RowKit

/-- What Put lays behind l. -/
def putS (l : List Bool) (x : Nat) (n : Int) : List Bool := if 0 ≤ n ∧ n ≤ 32 ∧ (l.length : Int) + n ≤ 524288 then l ++ bitsOf x n.toNat else l
/-- What Align lays behind l. -/
def alignS (l : List Bool) (n : Int) : List Bool := if 1 ≤ n ∧ n ≤ 64 ∧ (l.length : Int) + (n - l.length % n) % n ≤ 524288 then l ++ bitsOf 0 ((n - l.length % n) % n).toNat else l
theorem put_full (b : Nat) (v : Value) (l : List Bool) (x n : Nat) (h2 : 524288 < l.length + n) (w : World) (h : Wr 67 w b v l) :
    Calls Try.prog 36 #[.pointer (some ⟨b, 0, none⟩), .int .u64 (x : Int), .int .i64 n] w fun e w' => e = .returned (.tuple #[]) ∧ w' = w := by
  obtain ⟨c0, c1, f0, f1⟩ := cells2 h.head
  have hl : 524288 - (l.length : Int) < n := by omega
  have hl1 : (l.length : Int) ≤ 524288 := by have := h.most; omega
  clear h
  go_enter Try.func36, Try.ntmps36
  go_wp2
  go_step3
  go_wp2
  rw [Exit.noGoto_ret]
  go_returns
  exact ⟨rfl, rfl⟩
theorem put28 (b : Nat) (v : Value) (l : List Bool) (x n : Nat) (h1 : n ≤ 64) (w : World) (h : Wr 67 w b v l) :
    Calls Try.prog 36 #[.pointer (some ⟨b, 0, none⟩), .int .u64 (x : Int), .int .i64 n] w fun e w' => e = .returned (.tuple #[]) ∧ ∃ v', Wr 67 w' b v' (if l.length + n ≤ 524288 then l ++ bitsOf x n else l) ∧ Tch b v v' w w' := by
  by_cases hc : l.length + n ≤ 524288
  · rw [if_pos hc]; exact put_in b v l x n h1 hc w h
  · rw [if_neg hc]; exact (put_full b v l x n (by omega) w h).mono fun e w' ⟨h1, h2⟩ => ⟨h1, v, by subst h2; exact h, by subst h2; exact Tch.refl _ _ _⟩
theorem put_any (b : Nat) (v : Value) (l : List Bool) (x n : Int) (x0 : 0 ≤ x) (x1 : x < 4294967296) (w : World) (h : Wr 67 w b v l) :
    Calls Try.prog 18 #[.pointer (some ⟨b, 0, none⟩), .int .u32 x, .int .i64 n] w fun e w' => e = .returned (.tuple #[]) ∧ ∃ v', Wr 67 w' b v' (putS l x.toNat n) ∧ Tch b v v' w w' := by
  by_cases hc : 0 ≤ n ∧ n ≤ 32
  · obtain ⟨m, rfl⟩ : ∃ m : Nat, n = m := ⟨n.toNat, by omega⟩
    have K := mkHid (taken_yes m hc.1 hc.2)
    have P := mkHid (put28 b v l x.toNat m (by omega) w h)
    rw [Int.toNat_of_nonneg x0] at P
    have e : (if l.length + m ≤ 524288 then l ++ bitsOf x.toNat m else l) = putS l x.toNat m := by
      unfold putS
      by_cases hd : l.length + m ≤ 524288
      · rw [if_pos hd, if_pos (by omega)]; rfl
      · rw [if_neg hd, if_neg (by omega)]
    rw [e] at P
    generalize putS l x.toNat m = L at P ⊢
    clear h
    go_enter Try.func18, Try.ntmps18
    go_wp2_with fail
    refine (K.out _).mono ?_
    rintro e w1 ⟨rfl, rfl⟩
    go_wp2_with fail
    refine (P.out).mono ?_
    rintro e w2 ⟨rfl, v', h3, h4⟩
    have H3 := mkHid h3
    have H4 := mkHid h4
    clear h3 h4
    go_wp2
    go_returns
    exact ⟨rfl, v', H3.out, H4.out⟩
  · have K := mkHid (taken_no n (by omega))
    have H := mkHid h
    clear h
    rw [show putS l x.toNat n = l from by unfold putS; rw [if_neg (by omega)]]
    clear hc
    go_enter Try.func18, Try.ntmps18
    go_wp2_with fail
    refine (K.out _).mono ?_
    rintro e w1 ⟨rfl, rfl⟩
    go_wp2
    go_returns
    exact ⟨rfl, v, H.out, Tch.refl _ _ _⟩
theorem put_nil (x n : Int) (w : World) :
    Calls Try.prog 18 #[.pointer none, .int .u32 x, .int .i64 n] w fun e w' => e = .returned (.tuple #[]) ∧ w' = w := by
  go_enter Try.func18, Try.ntmps18
  go_wp2
  go_returns
  exact ⟨rfl, rfl⟩
theorem write_any (w : World) :
    Calls Try.prog 17 #[] w fun e w' => e = .returned (.pointer (some ⟨w.heap.size, 0, none⟩)) ∧ Wr 67 w' w.heap.size (.slice none 0 0) [] ∧ Apart (fun _ => False) w w' ∧ w'.heap.size = w.heap.size + 1 := by
  go_enter Try.func17, Try.ntmps17
  go_wp2
  go_ret
  exact ⟨rfl, ⟨heap_alloc_new _ _, World.ownsRow_nil _ _ _ _, Nat.zero_le _⟩, (Apart.refl _ _).alloc _, by simp⟩
theorem text_nil (w : World) : Calls Try.prog 20 #[.pointer none] w fun e w' => e = .returned (.string ⟨#[]⟩) ∧ w' = w := by
  go_enter Try.func20, Try.ntmps20
  go_wp2
  go_ret
  exact ⟨rfl, rfl⟩
/-- The bytes of a writer's row as a string. -/
theorem Wr.conv {T : TypeId} {w : World} {b : Nat} {v : Value} {l : List Bool} (h : Wr T w b v l) : (convert 43 9 v).run Try.prog w = .ok (.string (packS l)) w := by
  have hu : Try.prog.underlying 43 = some (.slice 5) := Try.underlying43
  have h5 : Try.prog.underlying 5 = some (.int .u8) := Try.underlying5
  have h9 : Try.prog.underlying 9 = some .string := Try.underlying9
  have ho := h.own
  have hlen : ((pk l).map UInt8.ofNat).length = (l.length + 7) / 8 := by simp
  rcases ho.2 with ⟨rfl, hn⟩ | ⟨g, cap, cur, rfl, hg, hh, r⟩
  · rw [run_convert_bytes_string w 43 9 5 none 0 0 hu h5 h9]
    have e : packS l = ⟨#[]⟩ := by
      have : pk l = [] := List.eq_nil_of_length_eq_zero (by rw [pk_len]; omega)
      unfold packS; rw [this]; rfl
    rw [e]; rfl
  · have := run_convert_bytes_back (P := Try.prog) w 43 9 5 ⟨g, 0, none⟩ cap ((pk l).map UInt8.ofNat) hu h5 h9 (fun j hj => by
      have hj' : j < (l.length + 7) / 8 := by rw [hlen] at hj; exact hj
      rw [Addr.add_lit, Nat.zero_add, ho.cellAt j (by omega), List.getElem?_map, pk_get l j hj']
      have hb := bv_lt l j
      have e : ((pk l).map UInt8.ofNat)[j] = UInt8.ofNat (bv l j) := by simp [pk]
      rw [e, UInt8.toNat_ofNat_of_lt' (by simpa using hb)]; rfl)
    rw [hlen] at this
    exact this
theorem text_any (b : Nat) (v : Value) (l : List Bool) (w : World) (h : Wr 67 w b v l) :
    Calls Try.prog 20 #[.pointer (some ⟨b, 0, none⟩)] w fun e w' => e = .returned (.string (packS l)) ∧ w' = w := by
  obtain ⟨c0, c1, f0, f1⟩ := cells2 h.head
  have hc := h.conv
  generalize packS l = s at *
  clear h
  go_enter Try.func20, Try.ntmps20
  go_wp2
  go_ret
  exact ⟨rfl, rfl⟩
end Go.Proofs.Ytmnpghelglohlaa
