/-
  What Decode hands back.
-/
import Derived.Test.YtohembamfjbclaaCcD
namespace Go.Proofs.Ytohembamfjbclaa
open Go.RowKit

theorem lenerr_any (n : Nat) (hn : (n : Int) ≤ 9223372036854775807) (w : World) : Calls Try.prog 29 #[.int .i64 (n : Int)] w fun e w' => e = .returned (.int .i64 (lenE n)) ∧ w' = w := by
  by_cases h1 : (65536 : Int) < n
  · have HF := mkHid (show lenE n = 2 by unfold lenE; rw [if_pos (by omega)])
    rw [HF.out]
    go_enter Try.func29, Try.ntmps29
    go_wp2
    go_ret
    exact ⟨rfl, rfl⟩
  · by_cases h2 : (n : Int) % 4 = 0
    · by_cases h3 : (n : Int) < 8
      · have HF := mkHid (show lenE n = 60 by unfold lenE; rw [if_neg (by omega), if_neg (by omega), if_pos (by omega)])
        rw [HF.out]
        go_enter Try.func29, Try.ntmps29
        go_wp2
        go_ret
        exact ⟨rfl, rfl⟩
      · have HF := mkHid (show lenE n = 0 by unfold lenE; rw [if_neg (by omega), if_neg (by omega), if_neg (by omega)])
        rw [HF.out]
        go_enter Try.func29, Try.ntmps29
        go_wp2
        go_ret
        exact ⟨rfl, rfl⟩
    · have HF := mkHid (show lenE n = 90 by unfold lenE; rw [if_neg (by omega), if_pos (by omega)])
      rw [HF.out]
      go_enter Try.func29, Try.ntmps29
      go_wp2
      go_ret
      exact ⟨rfl, rfl⟩
theorem res16 {W : World} {bx : Nat} {sd st : Int} {a : Option Addr} {n c : Nat} (tmps : Array Value) (h2 : tmps.getD 2 undef = .pointer (some ⟨bx, 0, none⟩)) (hd : W.heap[bx]? = some (.cells #[.int .u32 sd, .slice a n c, .int .u32 st] 25 (0, 0))) :
    (results Try.f16 tmps).run Try.prog W = .ok (.tuple #[rv sd a n c st, tmps.getD 3 undef]) W := by
  obtain ⟨⟨c0, c1, c2⟩, _⟩ := cells3' hd
  clear hd
  have h2' : tmps[2]?.getD undef = .pointer (some ⟨bx, 0, none⟩) := by rw [← h2]; simp
  unfold rv
  simp [results, Try.results16, h2', c0, c1, c2, go_sem]
/-- What Decode leaves behind. -/
def DecPost (s : ByteArray) (w : World) (e : Ending) (w' : World) : Prop :=
  (∃ a c, e = .returned (.tuple #[rv (decSd s) a (decL s).length c (decSt s), .int .i64 (decE s)]) ∧ BA w'.heap.size w' a (decL s)) ∧ Below w.heap.size w w'
theorem decE_len {s : ByteArray} (h : ¬ lenE s.size = 0) : decE s = lenE s.size := by unfold decE; rw [if_neg h]
theorem decE_in {s : ByteArray} (h : lenE s.size = 0) : decE s = dE s 16 32 := by unfold decE; rw [if_pos h]
/-- The end of a body that is none. -/
theorem dec_none {s : ByteArray} {w W : World} {e : Ending} (h : ¬ decE s = 0) (he : e = .returned (.tuple #[rv 0 none 0 0 0, .int .i64 (decE s)])) (hb : Below w.heap.size w W) : DecPost s w e W := by
  obtain ⟨h1, h2, h3⟩ := decL_none h
  refine ⟨⟨none, 0, ?_, by rw [h1]; exact BA.nil _ _ _⟩, hb⟩
  rw [he, h1, h2, h3]; rfl
set_option maxRecDepth 100000 in
set_option maxHeartbeats 1000000 in
theorem dec_any (s : ByteArray) (hs : s.size ≤ 1000000) (w : World) : Calls Try.prog 16 #[.string s] w (DecPost s w) := by
  have N0 := mkHid (heap_alloc_new w (.cells #[.int .u32 0, .slice none 0 0, .int .u32 0] 25))
  have A0 := mkHid ((Apart.refl (fun _ => False) w).alloc (.cells #[.int .u32 0, .slice none 0 0, .int .u32 0] 25))
  have Z0 := mkHid (show (w.alloc (.cells #[.int .u32 0, .slice none 0 0, .int .u32 0] 25)).heap.size = w.heap.size + 1 by simp)
  obtain ⟨q, HQ⟩ : ∃ q, Hid (w.heap.size = q) := ⟨_, rfl⟩
  obtain ⟨W, HW⟩ : ∃ W, Hid (w.alloc (.cells #[.int .u32 0, .slice none 0 0, .int .u32 0] 25) = W) := ⟨_, rfl⟩
  rw [HQ.out, HW.out] at N0 Z0
  rw [HW.out] at A0
  have HS := mkHid hs
  have hs' : (s.size : Int) ≤ 9223372036854775807 := by omega
  have LE := mkHid (lenerr_any s.size hs')
  obtain ⟨E, HE⟩ : ∃ E, Hid (lenE s.size = E) := ⟨_, rfl⟩
  rw [HE.out] at LE
  obtain ⟨⟨c0, c1, c2⟩, f0, f1, f2⟩ := cells3' N0.out
  clear hs
  by_cases hE : E = 0
  · subst hE
    have HEL := mkHid (lenE_zero HE.out)
    have HDE := mkHid (decE_in HE.out)
    go_enter Try.func16, Try.ntmps16
    go_wp2_with fail
    rw [HW.out, HQ.out]
    refine (LE.out _).mono ?_
    rintro e w1 ⟨rfl, rfl⟩
    go_wp2_with fail
    refine (read_any s _).mono ?_
    rw [Z0.out]
    rintro e w2 ⟨rfl, r2, a2, z2⟩
    have R2 := mkHid r2
    have N2 := mkHid (a2.heap N0.out (fun h => h))
    have A2 := mkHid (A0.out.zz a2)
    clear r2 a2 z2 N0 A0 c0 c1 c2 f0 f1 f2
    obtain ⟨g0, G0⟩ : ∃ g0, Hid (gv s 0 32 = g0) := ⟨_, rfl⟩
    have l0 : (g0 : Int) < 4294967296 := by have := gv_lt s 0 32; rw [G0.out] at this; omega
    go_wp2_with fail
    have K1 := get_fit (q + 1) s HS.out 0 32 32 rfl (by omega) (by have := HEL.out; omega) _ R2.out
    rw [G0.out] at K1
    refine K1.mono ?_
    clear K1
    rintro e w3 ⟨rfl, r3, a3⟩
    have R3 := mkHid (show Rd 82 w3 (q + 1) s (some 32) from r3)
    have N3 := mkHid (a3.heap N2.out (by omega))
    have A3 := mkHid (A2.out.trans a3 (fun i hi e => by rw [HQ.out] at hi; omega))
    clear r3 a3 R2 N2 A2
    have GS := mkHid (getblocks_any (q + 1) s HEL.out.1 HEL.out.2.1 HEL.out.2.2 _ R3.out)
    unfold GsPost at GS
    have hq3 : q + 1 < w3.heap.size := R3.out.heap
    go_wp2_with fail
    refine (GS.out).mono ?_
    rintro e w4 ⟨(⟨he, a, c, acc, hacc, rfl, r4, o4, k4⟩ | ⟨he, rfl⟩), a4⟩
    · have HEZ := mkHid (show decE s = 0 by rw [HDE.out]; exact he)
      have HAC := mkHid hacc
      have R4 := mkHid r4
      have O4 := mkHid o4
      have K4 := mkHid k4
      have N4 := mkHid (a4.heap N3.out (by omega))
      have A4 := mkHid (A3.out.trans a4 (fun i hi e => by rw [HQ.out] at hi; omega))
      have HSZ := mkHid (show acc.length ≤ 16 by have := dL_len s 16 32; rw [← hacc] at this; simpa using this)
      clear he hacc r4 o4 k4 a4 GS R3 N3 A3
      obtain ⟨B, HB⟩ : ∃ B, Hid (w3.heap.size = B) := ⟨_, rfl⟩
      rw [HB.out] at O4 K4 hq3
      obtain ⟨n, HN⟩ : ∃ n, Hid (acc.length = n) := ⟨_, rfl⟩
      have HVN := mkHid (show (.slice a acc.length c : Value) = .slice a n c by rw [HN.out])
      rw [HVN.out] at O4 K4 ⊢
      obtain ⟨g1, G1⟩ : ∃ g1, Hid (gv s (8 * s.size - 32) 32 = g1) := ⟨_, rfl⟩
      have l1 : (g1 : Int) < 4294967296 := by have := gv_lt s (8 * s.size - 32) 32; rw [G1.out] at this; omega
      go_wp2_with fail
      have K1 := get_fit (q + 1) s HS.out (8 * s.size - 32) 32 32 rfl (by omega) (by have := HEL.out; omega) _ R4.out
      rw [G1.out] at K1
      refine K1.mono ?_
      clear K1
      rintro e w5 ⟨rfl, r5, a5⟩
      have N5 := mkHid (a5.heap N4.out (by omega))
      have A5 := mkHid (A4.out.trans a5 (fun i hi e => by rw [HQ.out] at hi; omega))
      have O5 := mkHid (ownsRow_apart O4.out a5 (by intro k hk e; omega))
      have K5 := mkHid (K4.out.kept (X' := (fun k => k < B ∨ (Value.slice a n c).ownBlock = some k)) a5 (fun k _ e => .inl (by omega)) (fun _ _ h => h))
      clear r5 a5 R4 N4 A4 O4 K4
      obtain ⟨⟨c0, c1, c2⟩, f0, f1, f2⟩ := cells3' N5.out
      go_wp2
      have dd := put3_is N5.out (.int .u32 (g0 : Int)) (.slice a n c) (.int .u32 (g1 : Int))
      have ap := put3_ap w5 q 0 (.int .u32 (g0 : Int)) (.slice a n c) (.int .u32 (g1 : Int))
      have o6 := ownsRow_apart O5.out ap (by intro k hk e; omega)
      have k6 := K5.out.kept (X' := (fun k => k < B ∨ (Value.slice a n c).ownBlock = some k)) ap (fun k _ e => .inl (by omega)) (fun _ _ h => h)
      obtain ⟨a', c', hv, hba⟩ := own_ba o6 (by have := HSZ.out; unfold maxLen; omega) k6
      have hl : decL s = acc.map (·.k) := by unfold decL; rw [if_pos HEZ.out, HAC.out]
      simp only [Value.slice.injEq] at hv
      obtain ⟨rfl, _, rfl⟩ := hv
      refine bodyPost_ret (res16 _ rfl dd) rfl ⟨⟨a, c, ?_, by rw [hl]; exact hba⟩, ?_⟩
      · unfold decSd decSt
        rw [if_pos HEZ.out, if_pos HEZ.out, HEZ.out, hl, List.length_map, HN.out, G0.out, G1.out]
        rfl
      · exact (A5.out.trans ap (fun i hi e => by rw [HQ.out] at hi; omega)).belowZ
    · have HEZ := mkHid (show ¬ decE s = 0 by rw [HDE.out]; exact he)
      have N4 := mkHid (a4.heap N3.out (by omega))
      have A4 := mkHid (A3.out.trans a4 (fun i hi e => by rw [HQ.out] at hi; omega))
      clear a4 GS R3 N3 A3 l0
      obtain ⟨F, HF⟩ : ∃ F, Hid (dE s 16 32 = F) := ⟨_, rfl⟩
      rw [HF.out] at he HDE ⊢
      obtain ⟨⟨c0, c1, c2⟩, f0, f1, f2⟩ := cells3' N4.out
      go_wp2
      have dd := put3_is N4.out (.int .u32 0) (.slice none 0 0) (.int .u32 0)
      have ap := put3_ap w4 q 0 (.int .u32 0) (.slice none 0 0) (.int .u32 0)
      refine bodyPost_ret (res16 _ rfl dd) rfl (dec_none HEZ.out (by rw [HDE.out]; rfl) ?_)
      exact (A4.out.trans ap (fun i hi e => by rw [HQ.out] at hi; omega)).belowZ
  · have HDE := mkHid (show decE s = E by rw [decE_len (by rw [HE.out]; exact hE), HE.out])
    have HEN := mkHid (show ¬ decE s = 0 by rw [HDE.out]; exact hE)
    go_enter Try.func16, Try.ntmps16
    go_wp2_with fail
    rw [HW.out, HQ.out]
    refine (LE.out _).mono ?_
    rintro e w1 ⟨rfl, rfl⟩
    go_wp2
    have dd := put3_is N0.out (.int .u32 0) (.slice none 0 0) (.int .u32 0)
    have ap := put3_ap w1 q 0 (.int .u32 0) (.slice none 0 0) (.int .u32 0)
    refine bodyPost_ret (res16 _ rfl dd) rfl (dec_none HEN.out (by rw [HDE.out]; rfl) ?_)
    exact (A0.out.trans ap (fun i hi e => by rw [HQ.out] at hi; omega)).belowZ
end Go.Proofs.Ytohembamfjbclaa
