/-
  The bits of parts are those of their bytes; what the function that writes all parts hands back.
-/
import Derived.Test.YthapkeokgpnjgaaRcW
import Derived.Test.YthapkeokgpnjgaaRcS
namespace Go.Proofs.Ythapkeokgpnjgaa
open Go.RowKit

/-- The bits of bytes. -/
def bitsL : List UInt8 → List Bool
  | [] => []
  | x :: r => bitsOf x.toNat 8 ++ bitsL r
@[simp] theorem bitsL_len (r : List UInt8) : (bitsL r).length = 8 * r.length := by induction r with | nil => rfl | cons x r ih => simp [bitsL, ih]; omega
theorem bitsL_app (r k : List UInt8) : bitsL (r ++ k) = bitsL r ++ bitsL k := by induction r with | nil => rfl | cons x r ih => simp [bitsL, ih]
theorem pk_bits (r : List UInt8) : pk (bitsL r) = r.map UInt8.toNat := by
  apply List.ext_getElem?
  intro j
  by_cases hj : j < r.length
  · rw [pk_get _ _ (by simp; omega), List.getElem?_map, List.getElem?_eq_getElem hj]
    have e : bitsL r = bitsL (r.take j) ++ (bitsOf r[j].toNat 8 ++ bitsL (r.drop (j + 1))) := by
      conv => lhs; rw [← List.take_append_drop j r, bitsL_app, List.drop_eq_getElem_cons hj]
      rfl
    have h := val_mid (bitsL (r.take j)) (bitsL (r.drop (j + 1))) r[j].toNat 8
    have el : (bitsL (r.take j)).length = 8 * j := by simp; omega
    rw [← e, el] at h
    unfold bv
    rw [h]
    have := r[j].toNat_lt
    simp only [Option.map_some, Option.some.injEq]
    omega
  · rw [List.getElem?_eq_none (by simp; omega), List.getElem?_eq_none (by simp; omega)]
theorem pack_bits (r : List UInt8) : packS (bitsL r) = ⟨r.toArray⟩ := by
  unfold packS
  rw [pk_bits, List.map_map]
  have : (UInt8.ofNat ∘ UInt8.toNat) = id := by funext x; simp
  rw [this, List.map_id]
theorem txt_bits (d : ByteArray) (k : Nat) (hk : k ≤ d.size) : txtB d k = bitsL (d.data.toList.take k) := by
  induction k with
  | zero => rfl
  | succ k ih =>
    have hl : k < d.data.toList.length := by show k < d.size; omega
    rw [txtB, ih (by omega), List.take_succ_eq_append_getElem hl, bitsL_app]
    unfold byt
    rw [List.getD_eq_getElem?_getD, List.getElem?_eq_getElem hl]
    simp [bitsL]
theorem bits_byte (n : Nat) : bitsOf (UInt8.ofNat n).toNat 8 = bitsOf n 8 := by
  rw [UInt8.toNat_ofNat']
  exact bitsOf_mod n 8 8 (Nat.le_refl _)
theorem pB_bits {p : Pt} (h : p.ok = true) : pB p = bitsL (pb p) := by
  obtain ⟨o0, o1, o2, o3, o4, o5⟩ := Pt.ok_iff.1 h
  unfold pB pb
  rw [bitsL_app, txt_bits p.d _ (Nat.le_refl _), ← toList_len p.d, List.take_length]
  congr 1
  unfold hB ph
  simp only [bitsL, bits_byte, List.append_nil]
  obtain ⟨c, hc⟩ : ∃ c : Nat, p.c.toNat = c := ⟨_, rfl⟩
  have hc2 : c ≤ 31 := by omega
  rw [hc, toList_len]
  have e1 : bitsOf (128 + c) 8 = bitsOf 2 2 ++ bitsOf 0 1 ++ bitsOf c 5 := by
    have := bitsOf_split (128 + c) 3 5
    rw [this, show (128 + c) / 2 ^ 5 = 4 by omega, ← bitsOf_mod (128 + c) 5 5 (Nat.le_refl _), show (128 + c) % 2 ^ 5 = c by omega]
    rfl
  have e2 : bitsOf (p.d.size / 4) 16 = bitsOf (p.d.size / 4 / 256) 8 ++ bitsOf (p.d.size / 4) 8 := bitsOf_split (p.d.size / 4) 8 8
  rw [e1, e2]
  simp only [List.append_assoc]
/-- The bits of parts. -/
def mB : List Pt → List Bool
  | [] => []
  | p :: l => pB p ++ mB l
@[simp] theorem mB_len (l : List Pt) : (mB l).length = 8 * sz l := by induction l with | nil => rfl | cons p l ih => simp [mB, sz, ih]; omega
theorem mB_app (l k : List Pt) : mB (l ++ k) = mB l ++ mB k := by induction l with | nil => rfl | cons p l ih => simp [mB, ih]
theorem mB_bits (l : List Pt) (h : allOk l = true) : mB l = bitsL (mb l) := by
  induction l with
  | nil => rfl
  | cons p l ih =>
    have h1 := allOk_iff.1 h
    rw [mB, mb, bitsL_app, pB_bits (h1 p (by simp)), ih (allOk_iff.2 fun q hq => h1 q (by simp [hq]))]
/-- The message of parts. -/
def bA (l : List Pt) : ByteArray := ⟨(mb l).toArray⟩
theorem bA_size (l : List Pt) : (bA l).size = sz l := by unfold bA; rw [ba_size, mb_len]
theorem mB_next {l : List Pt} {i : Nat} {p : Pt} (h : l[i]? = some p) : mB (l.take (i + 1)) = mB (l.take i) ++ pB p := by
  rw [take_next h, mB_app]; simp [mB]
theorem frame20 (a : Act) (hs : a.tmps.size = 20) (hd : a.defers = []) : ∃ u : Nat → Value, (∀ i, a.tmps.getD i undef = u i) ∧ a = { tmps := #[u 0, u 1, u 2, u 3, u 4, u 5, u 6, u 7, u 8, u 9, u 10, u 11, u 12, u 13, u 14, u 15, u 16, u 17, u 18, u 19], defers := [] } := frame_of a 20 hs hd
set_option maxRecDepth 100000 in
set_option maxHeartbeats 1000000 in
theorem written_any (a : Option Addr) (cap : Nat) (l : List Pt) (hz : sz l ≤ 65536) (hok : allOk l = true) (w : World) (h : PA w.heap.size w a l) :
    Calls Try.prog 18 #[.slice a l.length cap] w fun e w' => e = .returned (.string (bA l)) ∧ Below w.heap.size w w' := by
  have H := mkHid h
  have HZ := mkHid hz
  have HOK := mkHid hok
  obtain ⟨n, HN⟩ : ∃ n, Hid (l.length = n) := ⟨_, rfl⟩
  have hn : (n : Int) ≤ 10000000 := by have := sz_len l; have := HN.out; omega
  have HE := mkHid (show packS (mB l) = bA l by rw [mB_bits l hok, pack_bits]; rfl)
  obtain ⟨S, HS⟩ : ∃ S, Hid (bA l = S) := ⟨_, rfl⟩
  rw [HN.out, HS.out]
  rw [HS.out] at HE
  clear h hz hok
  obtain ⟨b, HBX⟩ : ∃ b, Hid (w.heap.size = b) := ⟨_, rfl⟩
  go_enter Try.func18, Try.ntmps18
  go_wp2
  refine wp_scope_label 0 (fun a' w' => ∃ (i : Nat) (v : Value), (a'.tmps.size = 20 ∧ a'.defers = [] ∧ a'.tmps.getD 0 undef = .slice a n cap ∧ a'.tmps.getD 2 undef = .string ⟨#[]⟩ ∧ a'.tmps.getD 3 undef = .pointer (some ⟨b, 0, none⟩) ∧ a'.tmps.getD 4 undef = .int .i64 (i : Int)) ∧ i ≤ n ∧ Wr 59 w' b v (mB (l.take i)) ∧ Below b w w') (fun a' _ => n - (intOf (a'.tmps.getD 4 undef)).toNat) rfl ?_ ?_
  · intro Q' hh
    have HH := mkHid hh
    clear hh
    go_wp2_with fail
    refine (write_any _).mono ?_
    rw [HBX.out]
    rintro e w1 ⟨rfl, h1, p1, z1⟩
    have W1 := mkHid h1
    have P1 := mkHid p1
    clear h1 p1 z1
    go_wp2
    go_step3
    refine ‹∀ a w, Code.wp _ _ _ a w → _› _ _ (HH.out _ _ ?_)
    exact ⟨0, _, ⟨rfl, rfl, rfl, rfl, rfl, rfl⟩, Nat.zero_le _, W1.out, P1.out.belowF _ (by rw [HBX.out]; exact Nat.le_refl _)⟩
  · rintro a' w' ⟨i, v, ⟨z, d, e0, e2, e3, e4⟩, hi, hw, hb⟩
    obtain ⟨u, hu, ha⟩ := frame20 a' z d
    rw [hu] at e0 e2 e3 e4
    rw [e0, e2, e3, e4] at ha
    clear z d hu e0 e2 e3 e4
    subst ha
    have HB := mkHid hb
    have HW := mkHid hw
    clear hb hw
    by_cases hlt : i < n
    · obtain ⟨ab, off, p, rfl, hbl, hp, hc⟩ := H.out.at i (by rw [HN.out]; exact hlt)
      rw [HBX.out] at hbl
      have hc2 := hc.kept HB.out hbl
      have hsz := sz_next hp
      have hz1 := sz_take l (i + 1)
      have hz2 := HZ.out
      have hpok := allOk_iff.1 HOK.out p (List.mem_of_getElem? hp)
      have PP := mkHid (putpart_any b v _ p hpok (by rw [mB_len]; omega) _ HW.out)
      have HM := mkHid (mB_next hp)
      rw [← HM.out] at PP
      have HP := mkHid hp
      clear hsz hz1 hz2 hp hc hpok
      obtain ⟨c0, c1, c2, c3⟩ := hc2
      have hne : ¬ (i : Int) = n := by omega
      unfold pv at PP
      obtain ⟨pc, pt, pd⟩ := p
      simp only at *
      clear c3
      go_wp2_with fail
      refine (PP.out).mono ?_
      rintro e w2 ⟨rfl, v2, h2, t2⟩
      have W2 := mkHid h2
      have B2 := mkHid (HB.out.trans (t2.below HW.out b (Nat.le_refl _)))
      clear h2 t2
      go_wp2
      go_step3
      refine ⟨rfl, ⟨i + 1, v2, ⟨rfl, rfl, rfl, rfl, rfl, by go_num⟩, by omega, W2.out, B2.out⟩, ?_⟩
      simp [intOf]; omega
    · obtain rfl : i = n := by omega
      have hw := HW.out
      rw [← HN.out, List.take_length] at hw
      have TX := mkHid (text_any b v _ _ hw)
      rw [HE.out] at TX
      clear hw
      go_wp2_with fail
      refine (TX.out).mono ?_
      rintro e w2 ⟨rfl, rfl⟩
      go_wp2
      simp only [Exit.jump]
      go_ret
      exact ⟨rfl, by rw [HBX.out]; exact HB.out⟩
end Go.Proofs.Ythapkeokgpnjgaa
