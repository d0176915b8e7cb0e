/-
  The base's Least.
-/
import Derived.Test.YtnjghgbaffkafaaBaB
import Derived.Deep.LoopGhost
namespace Go.Proofs.Ytnjghgbaffkafaa
open Go.RowKit

theorem ld_step {R : Nat → Rw} {t : Int} {j : Nat} {n l : Int} {f : Bool} {m : Int} {o : Bool} (h0 : (R j).1 = n) (h1 : (R j).2.1 = l) (h2 : (R j).2.2 = f) (hm : (ld R t j).1 = m) (ho : (ld R t j).2 = o) :
    ld R t (j + 1) = if f = true ∧ t < n then (if o = false ∨ l < m then (l, true) else (m, o)) else (m, o) := by
  unfold ld
  rw [h0, h1, h2, hm, ho]
  have : ld R t j = (m, o) := by rw [← hm, ← ho]
  rw [this]
theorem pair_1 {p : Int × Bool} {m : Int} {o : Bool} (h : p = (m, o)) : Value.int .i64 m = .int .i64 p.1 := by rw [h]
theorem pair_2 {p : Int × Bool} {m : Int} {o : Bool} (h : p = (m, o)) : Value.bool o = .bool p.2 := by rw [h]
set_option maxHeartbeats 1000000 in
theorem least_any {w : World} {b : Nat} {W : Int} {k : Nat} {R : Nat → Rw} {N Q : Int} (h : Bx w b W k R N Q) (n0 : 0 ≤ N) (n1 : N ≤ 1125899906842624) (k2 : k ≤ 64) :
    Calls Try.prog 12 #[.pointer (some ⟨b, 0, none⟩)] w fun e w' => e = .returned (.tuple #[.int .i64 (ld R (N - k) k).1, .bool (ld R (N - k) k).2]) ∧ Apart (fun _ => False) w w' := by
  have C := mkHid (cut_any h k2)
  have H := mkHid h
  clear h
  go_enter Try.func12, Try.ntmps12
  go_wp2_with fail
  refine C.out.mono ?_
  rintro e w1 ⟨rfl, A1⟩
  have A1 := mkHid A1
  clear C
  go_wp2_with fail
  go_loopg [4, 5, 13] k (fun kx l o i wr => ∃ j : Nat, l = .int .i64 (ld R (N - k) j).1 ∧ o = .bool (ld R (N - k) j).2 ∧ i = .int .i64 j ∧ j ≤ k ∧ kx = k - j ∧ Hid (Apart (fun _ => False) w wr))
  case atStart => exact ⟨0, rfl, rfl, rfl, Nat.zero_le _, rfl, A1⟩
  case round =>
    obtain ⟨j, rfl, rfl, rfl, hj, hkx, HA⟩ := hrel
    by_cases hlt : j < k
    · have hlt1 : (j : Int) < k := by omega
      have HB := mkHid (H.out.kept HA.out (fun h => h))
      obtain ⟨n, hn⟩ : ∃ n, (R j).1 = n := ⟨_, rfl⟩
      obtain ⟨l, hl⟩ : ∃ l, (R j).2.1 = l := ⟨_, rfl⟩
      obtain ⟨f, hf⟩ : ∃ f, (R j).2.2 = f := ⟨_, rfl⟩
      obtain ⟨m, hm⟩ : ∃ m, (ld R (N - k) j).1 = m := ⟨_, rfl⟩
      obtain ⟨o, ho⟩ : ∃ o, (ld R (N - k) j).2 = o := ⟨_, rfl⟩
      obtain ⟨r0, r1, r2⟩ := HB.out.row (show j < 64 by omega)
      rw [hn] at r0
      rw [hl] at r1
      rw [hf] at r2
      rw [hm, ho]
      have HS := mkHid (ld_step hn hl hf hm ho)
      have HB2 := mkHid (HB.out.kept ((Apart.refl (fun _ => False) wr).alloc (.cells #[.int .i64 n, .int .i64 l, .bool f] 45)) (fun h => h))
      have C := mkHid (counts_any HB2.out n0 n1 k2 n)
      have A2 := mkHid (HA.out.alloc (.cells #[.int .i64 n, .int .i64 l, .bool f] 45))
      have S0 := mkHid (heap_alloc_new wr (.cells #[.int .i64 n, .int .i64 l, .bool f] 45))
      have hw : IntKind.i64.wrap ((j : Int) + 1) = (j : Int) + 1 := by rw [IntKind.wrap_i64]; omega
      clear hn hl hf hm ho
      cases f with
      | false =>
        rw [if_neg (by simp)] at HS
        go_wp2_with fail
        go_roundg (k - (j + 1))
        · exact ⟨j + 1, pair_1 HS.out, pair_2 HS.out, rfl, by omega, rfl, A2.out⟩
        · omega
      | true =>
        by_cases hc : N - k < n
        · rw [decide_eq_true hc] at C
          rw [if_pos ⟨rfl, hc⟩] at HS
          cases o with
          | false =>
            rw [if_pos (.inl rfl)] at HS
            clear hc
            go_wp2_with fail
            refine C.out.mono ?_
            rintro e w2 ⟨rfl, A3⟩
            have S1 := A3.heap S0.out (fun h => h)
            obtain ⟨d0, d1, d2, -⟩ := cells3 S1
            have A3 := mkHid (A2.out.zz A3)
            clear S1
            go_wp2_with fail
            go_roundg (k - (j + 1))
            · exact ⟨j + 1, pair_1 HS.out, pair_2 HS.out, rfl, by omega, rfl, A3.out⟩
            · omega
          | true =>
            by_cases hl : l < m
            · rw [if_pos (.inr hl)] at HS
              clear hc
              go_wp2_with fail
              refine C.out.mono ?_
              rintro e w2 ⟨rfl, A3⟩
              have S1 := A3.heap S0.out (fun h => h)
              obtain ⟨d0, d1, d2, -⟩ := cells3 S1
              have A3 := mkHid (A2.out.zz A3)
              clear S1
              go_wp2_with fail
              go_roundg (k - (j + 1))
              · exact ⟨j + 1, pair_1 HS.out, pair_2 HS.out, rfl, by omega, rfl, A3.out⟩
              · omega
            · rw [if_neg (by simp [hl])] at HS
              clear hc
              go_wp2_with fail
              refine C.out.mono ?_
              rintro e w2 ⟨rfl, A3⟩
              have S1 := A3.heap S0.out (fun h => h)
              obtain ⟨d0, d1, d2, -⟩ := cells3 S1
              have A3 := mkHid (A2.out.zz A3)
              clear S1
              go_wp2_with fail
              go_roundg (k - (j + 1))
              · exact ⟨j + 1, pair_1 HS.out, pair_2 HS.out, rfl, by omega, rfl, A3.out⟩
              · omega
        · rw [decide_eq_false hc] at C
          rw [if_neg (by simp [hc])] at HS
          clear hc
          go_wp2_with fail
          refine C.out.mono ?_
          rintro e w2 ⟨rfl, A3⟩
          have A3 := mkHid (A2.out.zz A3)
          go_wp2_with fail
          go_roundg (k - (j + 1))
          · exact ⟨j + 1, pair_1 HS.out, pair_2 HS.out, rfl, by omega, rfl, A3.out⟩
          · omega
    · obtain rfl : j = k := by omega
      go_wp2
      go_ret2
      exact ⟨rfl, HA.out⟩
end Go.Proofs.Ytnjghgbaffkafaa
