/-
  A header's bits, read again: what stands where; a text that begins with them, or is cut off.
-/
import Derived.Test.YtdajcgicpfpeoaaRtS
namespace Go.Proofs.Ytdajcgicpfpeoaa

theorem val_at {L A R : List Bool} {c k p : Nat} (e : L = A ++ (bitsOf c k ++ R)) (hp : A.length = p) : val (lb L) p k = c % 2 ^ k := by subst e hp; exact val_mid _ _ _ _
theorem srcB_cut (S : Nat → Int) (n i : Nat) (h : i < n) : ∃ r, srcB S n = srcB S i ++ (bitsOf (S i).toNat 32 ++ r) := by
  induction n with
  | zero => omega
  | succ n ih =>
    by_cases e : i = n
    · subst e; exact ⟨[], by simp [srcB]⟩
    · obtain ⟨r, hr⟩ := ih (by omega)
      exact ⟨r ++ bitsOf (S n).toNat 32, by simp [srcB, hr]⟩
theorem txtB_cut (s : ByteArray) (n i : Nat) (h : i < n) : ∃ r, txtB s n = txtB s i ++ (bitsOf (byt s i) 8 ++ r) := by
  induction n with
  | zero => omega
  | succ n ih =>
    by_cases e : i = n
    · subst e; exact ⟨[], by simp [txtB]⟩
    · obtain ⟨r, hr⟩ := ih (by omega)
      exact ⟨r ++ bitsOf (byt s n) 8, by simp [txtB, hr]⟩
theorem extB_cut (I : Nat → Int) (D : Nat → ByteArray) (n i : Nat) (h : i < n) : ∃ r, extB I D n = extB I D i ++ (bitsOf (I i).toNat 4 ++ (bitsOf ((D i).size - 1) 4 ++ (txtB (D i) (D i).size ++ r))) := by
  induction n with
  | zero => omega
  | succ n ih =>
    by_cases e : i = n
    · subst e; exact ⟨[], by simp [extB]⟩
    · obtain ⟨r, hr⟩ := ih (by omega)
      exact ⟨r ++ (bitsOf (I n).toNat 4 ++ (bitsOf ((D n).size - 1) 4 ++ txtB (D n) (D n).size)), by simp [extB, hr]⟩
theorem zero_cut (n j : Nat) (h : j + 4 ≤ n) : bitsOf 0 n = bitsOf 0 j ++ (bitsOf 0 4 ++ bitsOf 0 (n - j - 4)) := by
  have e : n = j + (4 + (n - j - 4)) := by omega
  have h1 := bitsOf_split 0 j (4 + (n - j - 4))
  have h2 := bitsOf_split 0 4 (n - j - 4)
  rw [Nat.zero_div] at h1 h2
  rw [h2, ← e] at h1
  exact h1
theorem bytes_back (d : ByteArray) : (⟨((List.range d.size).map fun i => UInt8.ofNat (byt d i)).toArray⟩ : ByteArray) = d := by
  obtain ⟨⟨l⟩⟩ := d
  congr 2
  apply List.ext_getElem?
  intro i
  show ((List.range l.length).map _)[i]? = _
  rw [List.getElem?_map]
  by_cases h : i < l.length
  · rw [List.getElem?_range h]
    simp [byt, List.getD_eq_getElem?_getD, List.getElem?_eq_getElem h]
  · rw [List.getElem?_eq_none (by simpa using h), List.getElem?_eq_none (by omega)]
    rfl
/-- How many bytes the extensions take, filled up. -/
def roomX (D : Nat → ByteArray) (ne : Nat) : Nat := 4 * ((xlen D ne + 3) / 4)
theorem encL_0 (mk : Bool) (ty sq tm ss : Int) (ns : Nat) (S : Nat → Int) (I : Nat → Int) (D : Nat → ByteArray) : encL mk ty sq tm ss ns S 0 I D = fixB mk ty sq tm ss ns 0 ++ srcB S ns := by unfold encL; exact if_pos rfl
theorem encL_x (mk : Bool) (ty sq tm ss : Int) (ns : Nat) (S : Nat → Int) (ne : Nat) (I : Nat → Int) (D : Nat → ByteArray) (h0 : ne ≠ 0) (hns : ns ≤ 15) (hne : ne ≤ 14) (hok : ExtOk I D ne) :
    encL mk ty sq tm ss ns S ne I D = (fixB mk ty sq tm ss ns ne ++ srcB S ns) ++ (bitsOf 190 8 ++ (bitsOf 222 8 ++ (bitsOf ((xlen D ne + 3) / 4) 16 ++ (extB I D ne ++ bitsOf 0 (8 * (roomX D ne - xlen D ne)))))) := by
  have hx := xlen_le hok ne (Nat.le_refl _)
  unfold encL
  rw [if_neg h0]
  have hlen : (preB (fixB mk ty sq tm ss ns ne ++ srcB S ns) D ne ++ extB I D ne).length = 96 + 32 * ns + 32 + 8 * xlen D ne := by simp
  unfold alignS
  rw [hlen]
  have hpad : (((32 : Int) - ((96 + 32 * ns + 32 + 8 * xlen D ne : Nat) : Int) % 32) % 32).toNat = 8 * (roomX D ne - xlen D ne) := by unfold roomX; omega
  rw [if_pos (by omega), hpad]
  simp [preB]
theorem encL_len (mk : Bool) (ty sq tm ss : Int) (ns : Nat) (S : Nat → Int) (ne : Nat) (I : Nat → Int) (D : Nat → ByteArray) (hns : ns ≤ 15) (hne : ne ≤ 14) (hok : ExtOk I D ne) :
    (encL mk ty sq tm ss ns S ne I D).length = if ne = 0 then 96 + 32 * ns else 96 + 32 * ns + 32 + 8 * roomX D ne := by
  by_cases h0 : ne = 0
  · subst h0; rw [encL_0, if_pos rfl]; simp
  · rw [if_neg h0, encL_x _ _ _ _ _ _ _ _ _ _ h0 hns hne hok]
    have : xlen D ne ≤ roomX D ne := by unfold roomX; omega
    simp; omega
/-- s begins with the bits L, or is cut off within them. -/
def Pre (s : ByteArray) (L : List Bool) : Prop := ∀ p n, p + n ≤ L.length → p + n ≤ 8 * s.size → gv s p n = val (lb L) p n
theorem gv_same (s t : ByteArray) (m : Nat) (h : ∀ i, i < m → s.data.toList.getD i 0 = t.data.toList.getD i 0) (p n : Nat) (hp : p + n ≤ 8 * m) : gv s p n = gv t p n := by
  refine val_congr _ _ _ _ _ fun i hi => ?_
  unfold bt
  rw [h ((p + i) / 8) (by omega)]
theorem pre_app (L : List Bool) (b : ByteArray) (h8 : L.length % 8 = 0) : Pre (packS L ++ b) L := by
  intro p n h1 _
  rw [← gv_pack]
  have hz : (packS L).data.toList.length = L.length / 8 := by have := packS_size L; have e : (packS L).size = (packS L).data.toList.length := rfl; omega
  refine gv_same _ _ (L.length / 8) (fun i hi => ?_) p n (by omega)
  have e : (packS L ++ b).data.toList = (packS L).data.toList ++ b.data.toList := by simp
  rw [e, List.getD_eq_getElem?_getD, List.getD_eq_getElem?_getD, List.getElem?_append_left (by omega)]
theorem pre_self (L : List Bool) : Pre (packS L) L := fun p n _ _ => gv_pack L p n
end Go.Proofs.Ytdajcgicpfpeoaa
