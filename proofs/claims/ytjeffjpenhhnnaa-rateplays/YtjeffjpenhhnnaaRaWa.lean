/-
  bits.OnesCount64.
-/
import Derived.Test.YtjeffjpenhhnnaaRaW
namespace Go.Proofs.Ytjeffjpenhhnnaa
open Go.RowKit

theorem by8_lt (l : List Nat) (h : B8 l) : by8 l < 256 ^ l.length := by
  induction l with
  | nil => exact Nat.one_pos
  | cons a l ih =>
    have ha := h a (by simp)
    have ih := ih (fun b hb => h b (by simp [hb]))
    rw [by8, List.length_cons, Nat.pow_succ]
    omega
theorem by8_le (c : Nat) (l : List Nat) (h : ∀ a ∈ l, a ≤ c) : by8 l ≤ M8 c l := by
  unfold M8
  induction l with
  | nil => exact Nat.le_refl _
  | cons a l ih =>
    have ha := h a (by simp)
    have ih := ih (fun b hb => h b (by simp [hb]))
    rw [List.map_cons, by8, by8]
    omega
theorem M8_eq (m : Nat) (l : List Nat) : M8 m l = by8 (List.replicate l.length m) := by
  unfold M8
  induction l with
  | nil => rfl
  | cons a l ih => rw [List.map_cons, List.length_cons, List.replicate_succ, by8, by8, ih]
theorem sum_bytes (a0 a1 a2 a3 a4 a5 a6 a7 : Nat) (h0 : a0 ≤ 8) (h1 : a1 ≤ 8) (h2 : a2 ≤ 8) (h3 : a3 ≤ 8) (h4 : a4 ≤ 8) (h5 : a5 ≤ 8) (h6 : a6 ≤ 8) (h7 : a7 ≤ 8) (x y z u : Nat)
    (hx : x = a0 + 256 * (a1 + 256 * (a2 + 256 * (a3 + 256 * (a4 + 256 * (a5 + 256 * (a6 + 256 * a7))))))) (hy : y = x + x / 256) (hz : z = y + y / 65536) (hu : u = z + z / 4294967296) :
    u % 128 = a0 + a1 + a2 + a3 + a4 + a5 + a6 + a7 ∧ y < 18446744073709551616 ∧ z < 18446744073709551616 ∧ u < 9223372036854775808 := by
  have ey : y = (a0 + a1) + 256 * ((a1 + a2) + 256 * ((a2 + a3) + 256 * ((a3 + a4) + 256 * ((a4 + a5) + 256 * ((a5 + a6) + 256 * ((a6 + a7) + 256 * a7)))))) := by omega
  clear hy hx
  have ez : z = (a0 + a1 + a2 + a3) + 256 * ((a1 + a2 + a3 + a4) + 256 * ((a2 + a3 + a4 + a5) + 256 * ((a3 + a4 + a5 + a6) + 256 * ((a4 + a5 + a6 + a7) + 256 * ((a5 + a6 + a7) + 256 * ((a6 + a7) + 256 * a7)))))) := by omega
  have hy2 : y < 18446744073709551616 := by omega
  clear ey hz
  have eu : u = (a0 + a1 + a2 + a3 + a4 + a5 + a6 + a7) + 256 * ((a1 + a2 + a3 + a4 + a5 + a6 + a7) + 256 * ((a2 + a3 + a4 + a5 + a6 + a7) + 256 * ((a3 + a4 + a5 + a6 + a7) + 256 * ((a4 + a5 + a6 + a7) + 256 * ((a5 + a6 + a7) + 256 * ((a6 + a7) + 256 * a7)))))) := by omega
  exact ⟨by omega, hy2, by omega, by omega⟩
set_option maxHeartbeats 4000000 in
set_option maxRecDepth 100000 in
theorem ones_word (l : List Nat) (hl : l.length = 8) (h : B8 l) (w : World) :
    Calls Try.prog 33 #[.int .u64 (by8 l : Nat)] w fun e w' => e = .returned (.int .i64 ((l.map p8).sum : Nat)) ∧ w' = w := by
  have hm85 : M8 85 l = 6148914691236517205 := by rw [M8_eq, hl]; decide
  have hm51 : M8 51 (l.map f1) = 3689348814741910323 := by rw [M8_eq, List.length_map, hl]; decide
  have hm15 : M8 15 ((l.map f1).map f2) = 1085102592571150095 := by rw [M8_eq, List.length_map, List.length_map, hl]; decide
  have hB1 : B8 (l.map f1) := by intro a ha; obtain ⟨b, hb, rfl⟩ := List.mem_map.1 ha; exact (p8_ok b (h b hb)).1
  have hB2 : ∀ a ∈ (l.map f1).map f2, a < 256 ∧ a / 16 ≤ 4 ∧ a % 16 ≤ 4 := by
    intro a ha
    rw [List.map_map] at ha
    obtain ⟨b, hb, rfl⟩ := List.mem_map.1 ha
    have := p8_ok b (h b hb)
    exact ⟨this.2.1, this.2.2.1, this.2.2.2.1⟩
  have s1 := step1 l h
  have s2 := step2 (l.map f1) hB1
  have s3 := (step3 ((l.map f1).map f2) (fun a ha => (hB2 a ha).2)).1
  rw [hm85] at s1
  rw [hm51] at s2
  rw [hm15] at s3
  have l0 := by8_lt l h
  have l1 := by8_lt (l.map f1) hB1
  have l2 := by8_lt ((l.map f1).map f2) (fun a ha => (hB2 a ha).1)
  simp only [List.length_map, hl, Nat.reducePow] at l0 l1 l2
  obtain ⟨x0, hx0⟩ : ∃ x, by8 l = x := ⟨_, rfl⟩
  obtain ⟨x1, hx1⟩ : ∃ x, by8 (l.map f1) = x := ⟨_, rfl⟩
  obtain ⟨x2, hx2⟩ : ∃ x, by8 ((l.map f1).map f2) = x := ⟨_, rfl⟩
  obtain ⟨x3, hx3⟩ : ∃ x, by8 (((l.map f1).map f2).map f3) = x := ⟨_, rfl⟩
  rw [hx0] at s1 l0 ⊢
  rw [hx1] at s1 s2 l1
  rw [hx2] at s2 s3 l2
  rw [hx3] at s3
  have e1 : IntKind.u64.wrap (bits .and .u64 ((x0 : Int) / 2) 6148914691236517205 + bits .and .u64 (x0 : Int) 6148914691236517205) = (x1 : Int) := by
    have hd : ((x0 : Int) / 2) = ((x0 / 2 : Nat) : Int) := by omega
    rw [hd, show (6148914691236517205 : Int) = ((6148914691236517205 : Nat) : Int) from rfl, u64_and _ _ (by omega) (by omega), u64_and _ _ (by omega) (by omega), IntKind.wrap_u64]
    omega
  have e2 : IntKind.u64.wrap (bits .and .u64 ((x1 : Int) / 4) 3689348814741910323 + bits .and .u64 (x1 : Int) 3689348814741910323) = (x2 : Int) := by
    have hd : ((x1 : Int) / 4) = ((x1 / 4 : Nat) : Int) := by omega
    rw [hd, show (3689348814741910323 : Int) = ((3689348814741910323 : Nat) : Int) from rfl, u64_and _ _ (by omega) (by omega), u64_and _ _ (by omega) (by omega), IntKind.wrap_u64]
    omega
  have b2 : x2 ≤ 4919131752989213764 := by
    have := by8_le 68 ((l.map f1).map f2) (fun a ha => by have := hB2 a ha; omega)
    rw [M8_eq, List.length_map, List.length_map, hl, hx2] at this
    exact this
  have e3 : bits .and .u64 (IntKind.u64.wrap ((x2 : Int) / 16 + (x2 : Int))) 1085102592571150095 = (x3 : Int) := by
    have hd : IntKind.u64.wrap ((x2 : Int) / 16 + (x2 : Int)) = ((x2 / 16 + x2 : Nat) : Int) := by rw [IntKind.wrap_u64]; omega
    rw [hd, show (1085102592571150095 : Int) = ((1085102592571150095 : Nat) : Int) from rfl, u64_and _ _ (by omega) (by omega), s3]
  clear s1 s2 s3 hm85 hm51 hm15 l0 l1 l2 b2
  have hp : ∀ a ∈ l.map p8, a ≤ 8 := by intro a ha; obtain ⟨b, hb, rfl⟩ := List.mem_map.1 ha; exact (p8_ok b (h b hb)).2.2.2.2
  rw [List.map_map, List.map_map, show (f3 ∘ f2) ∘ f1 = p8 from rfl] at hx3
  have hlp : (l.map p8).length = 8 := by rw [List.length_map, hl]
  obtain ⟨m, hm⟩ : ∃ m, l.map p8 = m := ⟨_, rfl⟩
  rw [hm] at hx3 hp hlp ⊢
  match m, hlp with
  | [a0, a1, a2, a3, a4, a5, a6, a7], _ =>
    obtain ⟨E, hy, hz, hu⟩ := sum_bytes a0 a1 a2 a3 a4 a5 a6 a7 (hp _ (by simp)) (hp _ (by simp)) (hp _ (by simp)) (hp _ (by simp)) (hp _ (by simp)) (hp _ (by simp)) (hp _ (by simp)) (hp _ (by simp)) x3 _ _ _ hx3.symm rfl rfl rfl
    have ES : [a0, a1, a2, a3, a4, a5, a6, a7].sum = a0 + a1 + a2 + a3 + a4 + a5 + a6 + a7 := by simp [List.sum_cons]; omega
    rw [ES, ← E]
    clear E ES hx3 hp
    obtain ⟨y, hyy⟩ : ∃ y, x3 + x3 / 256 = y := ⟨_, rfl⟩
    rw [hyy] at hy hz hu ⊢
    obtain ⟨z, hzz⟩ : ∃ z, y + y / 65536 = z := ⟨_, rfl⟩
    rw [hzz] at hz hu ⊢
    obtain ⟨u, huu⟩ : ∃ u, z + z / 4294967296 = u := ⟨_, rfl⟩
    rw [huu] at hu ⊢
    have e4 : IntKind.u64.wrap ((x3 : Int) + (x3 : Int) / 256) = (y : Int) := by rw [IntKind.wrap_u64]; omega
    have e5 : IntKind.u64.wrap ((y : Int) + (y : Int) / 65536) = (z : Int) := by rw [IntKind.wrap_u64]; omega
    have e6 : IntKind.u64.wrap ((z : Int) + (z : Int) / 4294967296) = (u : Int) := by rw [IntKind.wrap_u64]; omega
    have e7 : bits .and .i64 (u : Int) 127 = ((u % 128 : Nat) : Int) := i64_and127 u hu
    have e8 : IntKind.i64.wrap (u : Int) = (u : Int) := by rw [IntKind.wrap_i64]; omega
    clear hyy hzz huu hy hz hx0 hx1 hx2 hB1 hB2 hl h hm
    go_enter Try.func33, Try.ntmps33
    go_wp2
    go_ret
    exact ⟨rfl, rfl⟩
theorem ones_any (F : List Bool) (hF : F.length ≤ 64) (w : World) :
    Calls Try.prog 33 #[.int .u64 (bval F : Nat)] w fun e w' => e = .returned (.int .i64 (ones F : Nat)) ∧ w' = w := by
  obtain ⟨l, h1, h2, h3, h4⟩ := chunks 8 (F ++ List.replicate (64 - F.length) false) (by rw [List.length_append, List.length_replicate]; omega)
  rw [bval_app, bval_false, Nat.mul_zero, Nat.add_zero] at h3
  rw [ones_app, ones_false, Nat.add_zero] at h4
  rw [← h3, ← h4]
  exact ones_word l h1 h2 w
end Go.Proofs.Ytjeffjpenhhnnaa
