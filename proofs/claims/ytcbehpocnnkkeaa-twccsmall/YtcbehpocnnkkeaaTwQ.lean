/-
  What was encoded is decoded, whole, with something behind it, or cut off: in plain numbers.
-/
import Derived.Test.YtcbehpocnnkkeaaTwP
namespace Go.Proofs.Ytcbehpocnnkkeaa

theorem gv_mid (A B : List Bool) (c n p : Nat) (L : List Bool) (hL : L = A ++ (bitsOf c n ++ B)) (hp : p = A.length) : gv (packS L) p n = c % 2 ^ n := by
  subst hp hL; rw [gv_pack]; exact val_mid _ _ _ _
theorem rowB_cut (k : Nat) {m : List Int} {j : Nat} {x : Int} (h : m[j]? = some x) : rowB k m = rowB k (m.take j) ++ (bitsOf x.toNat k ++ rowB k (m.drop (j + 1))) := by
  obtain ⟨hj, rfl⟩ := List.getElem?_eq_some_iff.1 h
  have e : m = m.take j ++ (m[j] :: m.drop (j + 1)) := by
    rw [← List.drop_eq_getElem_cons hj, List.take_append_drop]
  conv => lhs; rw [e, rowB_app]
  rfl
theorem bits0_cut (a k c : Nat) : bitsOf 0 (a + k + c) = bitsOf 0 a ++ (bitsOf 0 k ++ bitsOf 0 c) := by
  rw [bitsOf_zero, bitsOf_zero, bitsOf_zero, bitsOf_zero, List.replicate_append_replicate, List.replicate_append_replicate]
  congr 1; omega
theorem row_enc (k S : Nat) (hS : k * S = 14) (m : List Int) (hm : m.length ≤ S) (hx : ∀ x ∈ m, 0 ≤ x ∧ x < (2 ^ k : Nat)) (A B L : List Bool) (p : Nat) (hL : L = A ++ (rowB k m ++ (bitsOf 0 (14 - k * m.length) ++ B))) (hp : p = A.length) :
    rowV (packS L) p k S = m ++ List.replicate (S - m.length) 0 := by
  apply List.ext_getElem?
  intro j
  by_cases hj : j < S
  · have e1 : (rowV (packS L) p k S)[j]? = some (gv (packS L) (p + k * j) k : Int) := by simp [rowV, hj]
    rw [e1]
    by_cases hjm : j < m.length
    · rw [List.getElem?_append_left hjm, List.getElem?_eq_getElem hjm]
      have hc := rowB_cut k (List.getElem?_eq_getElem hjm)
      have hb := hx m[j] (List.getElem_mem hjm)
      rw [gv_mid (A ++ rowB k (m.take j)) (rowB k (m.drop (j + 1)) ++ (bitsOf 0 (14 - k * m.length) ++ B)) m[j].toNat k _ L (by rw [hL, hc]; simp only [List.append_assoc]) (by rw [hp, List.length_append, rowB_len, List.length_take, Nat.min_eq_left (by omega)])]
      rw [Nat.mod_eq_of_lt (by omega)]
      congr 1; omega
    · rw [List.getElem?_append_right (by omega), List.getElem?_replicate, if_pos (by omega)]
      have hk : k * m.length ≤ k * j := Nat.mul_le_mul_left k (by omega)
      have hk2 : k * j + k ≤ 14 := by
        have : k * (j + 1) ≤ k * S := Nat.mul_le_mul_left k (by omega)
        rw [Nat.mul_add, Nat.mul_one] at this; omega
      have e : 14 - k * m.length = (k * j - k * m.length) + k + (14 - k * j - k) := by omega
      rw [e, bits0_cut] at hL
      rw [gv_mid (A ++ (rowB k m ++ bitsOf 0 (k * j - k * m.length))) (bitsOf 0 (14 - k * j - k) ++ B) 0 k _ L (by rw [hL]; simp only [List.append_assoc]) (by rw [hp]; simp; omega)]
      simp
  · rw [List.getElem?_eq_none (by simp; omega), List.getElem?_eq_none (by simp; omega)]
theorem rowD_enc (k S : Nat) (hS : k * S = 14) (l : List Int) (hl : ∀ x ∈ l.take S, 0 ≤ x ∧ x ≤ 2 ∧ x < (2 ^ k : Nat)) (A B L : List Bool) (p : Nat) (hL : L = A ++ (rowB k (l.take S) ++ (bitsOf 0 (14 - k * min S l.length) ++ B))) (hp : p = A.length) :
    rowD (packS L) p k S l.length = some (l.take S) := by
  have hml : (l.take S).length = min S l.length := by simp
  have h1 := row_enc k S hS (l.take S) (by omega) (fun x hx => ⟨(hl x hx).1, (hl x hx).2.2⟩) A B L p (by rw [hml]; exact hL) hp
  unfold rowD
  rw [h1]
  have hok : rowOk (l.take S ++ List.replicate (S - (l.take S).length) 0) l.length = true := by
    unfold rowOk
    simp only [Bool.and_eq_true, List.all_eq_true, decide_eq_true_eq]
    constructor
    · intro x hx
      rcases List.mem_append.1 hx with hx | hx
      · exact (hl x hx).2.1
      · rw [(List.mem_replicate.1 hx).2]; decide
    · intro x hx
      rw [List.drop_append, List.drop_of_length_le (by rw [hml]; omega), List.nil_append, List.drop_replicate] at hx
      exact (List.mem_replicate.1 hx).2
  rw [if_pos hok]
  congr 1
  by_cases h : S ≤ l.length
  · have : S - (l.take S).length = 0 := by omega
    rw [this, List.replicate_zero, List.append_nil, List.take_of_length_le (by omega)]
  · rw [List.take_append_of_le_length (by omega), List.take_of_length_le (by omega)]
theorem kind1_no2 {l : List Int} (h : kind l = 1) : ∀ x ∈ l.take 14, x ≠ 2 := by
  unfold kind at h
  split at h
  · cases h
  · split at h
    · cases h
    · rename_i h2
      intro x hx e
      subst e
      exact h2 (by simpa using hx)
theorem ck_enc (l : List Int) (hn : 0 < l.length) (h4 : l.length ≤ 4096) (h2 : ∀ s ∈ l, 0 ≤ s ∧ s ≤ 2) (A B L : List Bool) (p : Nat) (hL : L = A ++ (ckB l ++ B)) (hp : p = A.length) :
    ckD (packS L) p l.length = some (l.take (ckN l)) := by
  have hk := kind_le l
  unfold ckD
  rcases (by omega : kind l = 0 ∨ kind l = 1 ∨ kind l = 2) with hK | hK | hK
  · have e : ckB l = bitsOf 0 1 ++ (bitsOf (l.getD 0 0).toNat 2 ++ bitsOf (alk l) 13) := by unfold ckB runB; rw [hK]; simp
    rw [e] at hL
    rw [gv_mid A (bitsOf (l.getD 0 0).toNat 2 ++ (bitsOf (alk l) 13 ++ B)) 0 1 p L (by rw [hL]; simp only [List.append_assoc]) hp, if_pos rfl]
    unfold runD
    have ha := alk_le l
    have ha0 := alk_pos hn
    have hs : 0 ≤ l.getD 0 0 ∧ l.getD 0 0 ≤ 2 := by
      cases l with
      | nil => simp at hn
      | cons x l => exact h2 x (by simp)
    rw [gv_mid (A ++ bitsOf 0 1) (bitsOf (alk l) 13 ++ B) (l.getD 0 0).toNat 2 (p + 1) L (by rw [hL]; simp only [List.append_assoc]) (by rw [hp]; simp)]
    rw [gv_mid (A ++ (bitsOf 0 1 ++ bitsOf (l.getD 0 0).toNat 2)) B (alk l) 13 (p + 1 + 2) L (by rw [hL]; simp only [List.append_assoc]) (by rw [hp]; simp)]
    simp only [Nat.reducePow]
    rw [Nat.mod_eq_of_lt (by omega : (l.getD 0 0).toNat < 4), Nat.mod_eq_of_lt (by omega : alk l < 8192), if_neg (by omega), Nat.min_eq_left ha]
    congr 1
    have : ckN l = alk l := by unfold ckN; rw [if_pos hK]
    rw [this, Int.toNat_of_nonneg hs.1]
    unfold alk
    rw [cnt_take]
  · have e : ckB l = bitsOf 1 1 ++ (bitsOf 0 1 ++ (rowB 1 (l.take 14) ++ bitsOf 0 (14 - min 14 l.length))) := by unfold ckB longB; rw [hK]; simp
    rw [e] at hL
    rw [gv_mid A (bitsOf 0 1 ++ (rowB 1 (l.take 14) ++ (bitsOf 0 (14 - min 14 l.length) ++ B))) 1 1 p L (by rw [hL]; simp only [List.append_assoc]) hp, if_neg (by decide)]
    rw [gv_mid (A ++ bitsOf 1 1) (rowB 1 (l.take 14) ++ (bitsOf 0 (14 - min 14 l.length) ++ B)) 0 1 (p + 1) L (by rw [hL]; simp only [List.append_assoc]) (by rw [hp]; simp), if_pos (by decide)]
    have hno := kind1_no2 hK
    rw [rowD_enc 1 14 rfl l (fun x hx => by have := h2 x (List.mem_of_mem_take hx); have := hno x hx; simp; omega) (A ++ (bitsOf 1 1 ++ bitsOf 0 1)) B L (p + 2) (by rw [hL, Nat.one_mul]; simp only [List.append_assoc]) (by rw [hp]; simp)]
    congr 1
    unfold ckN
    rw [if_neg (by omega), if_pos hK]
    by_cases h : 14 ≤ l.length
    · rw [Nat.min_eq_left h]
    · rw [List.take_of_length_le (by omega), List.take_of_length_le (by omega)]
  · have e : ckB l = bitsOf 1 1 ++ (bitsOf 1 1 ++ (rowB 2 (l.take 7) ++ bitsOf 0 (14 - 2 * min 7 l.length))) := by unfold ckB shortB; rw [hK]; simp
    rw [e] at hL
    rw [gv_mid A (bitsOf 1 1 ++ (rowB 2 (l.take 7) ++ (bitsOf 0 (14 - 2 * min 7 l.length) ++ B))) 1 1 p L (by rw [hL]; simp only [List.append_assoc]) hp, if_neg (by decide)]
    rw [gv_mid (A ++ bitsOf 1 1) (rowB 2 (l.take 7) ++ (bitsOf 0 (14 - 2 * min 7 l.length) ++ B)) 1 1 (p + 1) L (by rw [hL]; simp only [List.append_assoc]) (by rw [hp]; simp), if_neg (by decide)]
    rw [rowD_enc 2 7 rfl l (fun x hx => by have := h2 x (List.mem_of_mem_take hx); simp; omega) (A ++ (bitsOf 1 1 ++ bitsOf 1 1)) B L (p + 2) (by rw [hL]; simp only [List.append_assoc]) (by rw [hp]; simp)]
    congr 1
    unfold ckN
    rw [if_neg (by omega), if_neg (by omega)]
    by_cases h : 7 ≤ l.length
    · rw [Nat.min_eq_left h]
    · rw [List.take_of_length_le (by omega), List.take_of_length_le (by omega)]
theorem st_enc (f : Nat) : ∀ (l : List Int) (_ : l.length ≤ f) (_ : l.length ≤ 4096) (_ : ∀ s ∈ l, 0 ≤ s ∧ s ≤ 2) (A B L : List Bool) (p : Nat) (_ : L = A ++ (chB l ++ B)) (_ : p = A.length) (_ : L.length % 8 = 0),
    stD (packS L) f p l.length = ⟨0, l, p + (chB l).length⟩ := by
  induction f with
  | zero =>
    intro l hf _ _ A B L p _ _ _
    obtain rfl := List.eq_nil_of_length_eq_zero (by omega : l.length = 0)
    rfl
  | succ f ih =>
    intro l hf h4 h2 A B L p hL hp h8
    by_cases hl : l.length = 0
    · obtain rfl := List.eq_nil_of_length_eq_zero hl
      rfl
    · have hn : 0 < l.length := by omega
      have hc := chB_cons hn
      have hk := ckN_pos hn
      have hkl := ckN_le l
      have ckl := ckB_len l
      have hck := ck_enc l hn h4 h2 A (chB (l.drop (ckN l)) ++ B) L p (by rw [hL, hc]; simp only [List.append_assoc]) hp
      have hlen : (l.take (ckN l)).length = ckN l := by rw [List.length_take]; omega
      have hsz : p + 16 ≤ 8 * (packS L).size := by
        rw [packS_size]
        have : L.length = A.length + (16 + (chB (l.drop (ckN l))).length + B.length) := by rw [hL, hc]; simp [ckl]; omega
        omega
      have hi := ih (l.drop (ckN l)) (by simp; omega) (by simp; omega) (fun s hs => h2 s (List.mem_of_mem_drop hs)) (A ++ ckB l) B L (p + 16) (by rw [hL, hc]; simp only [List.append_assoc]) (by simp [hp]) h8
      rw [List.length_drop] at hi
      rw [stD, if_neg hl, if_neg (by omega), hck]
      simp only
      rw [hlen, hi]
      simp only [List.take_append_drop]
      rw [hc, List.length_append, ckl]
      simp only [Rs.mk.injEq, true_and]
      omega
theorem u32_small {d : Int} {n : Nat} (hn : n = 8 ∨ n = 16) (h : -32768 ≤ d ∧ d ≤ 32767) : u32 d % 2 ^ n = (d % (2 ^ n : Nat)).toNat := by
  unfold u32
  rcases hn with rfl | rfl <;> simp only [Nat.reducePow] <;> omega
theorem dV_enc (x d : Int) (hd : dOk x d = true) (A B L : List Bool) (p : Nat) (hL : L = A ++ (bitsOf (u32 d) (dW x) ++ B)) (hp : p = A.length) : dV (packS L) p x = d ∧ (x = 1 ∨ x = 2) := by
  unfold dOk at hd
  split at hd
  · rename_i h1
    subst h1
    simp only [Bool.and_eq_true, decide_eq_true_eq] at hd
    refine ⟨?_, .inl rfl⟩
    unfold dV
    rw [if_pos rfl, gv_mid A B (u32 d) 8 p L (by rw [hL]; rfl) hp]
    unfold u32
    simp only [Nat.reducePow]
    omega
  · split at hd
    · rename_i h1 h2
      subst h2
      simp only [Bool.and_eq_true, decide_eq_true_eq] at hd
      refine ⟨?_, .inr rfl⟩
      unfold dV
      rw [if_neg (by omega), gv_mid A B (u32 d) 16 p L (by rw [hL]; rfl) hp]
      unfold u32 sg
      simp only [Nat.reducePow, Nat.reduceSub]
      split <;> omega
    · cases hd
theorem dl_enc : ∀ (st dl : List Int) (_ : mat st dl = true) (A B L : List Bool) (p : Nat) (_ : L = A ++ (dls st dl ++ B)) (_ : p = A.length) (_ : L.length % 8 = 0),
    dlD (packS L) p st = ⟨0, dl, p + (dls st dl).length⟩ := by
  intro st
  induction st with
  | nil =>
    intro dl hm A B L p _ _ _
    have : dl = [] := by
      rw [mat] at hm
      cases dl with
      | nil => rfl
      | cons x dl => cases hm
    subst this
    rfl
  | cons x st ih =>
    intro dl hm A B L p hL hp h8
    by_cases h0 : x = 0
    · subst h0
      have e1 : mat (0 :: st) dl = mat st dl := by cases dl <;> rw [mat, if_pos rfl]
      have e2 : dls (0 :: st) dl = dls st dl := by cases dl <;> rw [dls, if_pos rfl]
      rw [e1] at hm
      rw [e2] at hL ⊢
      rw [dlD, if_pos rfl]
      exact ih dl hm A B L p hL hp h8
    · cases dl with
      | nil => rw [mat, if_neg h0] at hm; cases hm
      | cons y dl =>
        have e1 : mat (x :: st) (y :: dl) = (dOk x y && mat st dl) := by rw [mat, if_neg h0]
        have e2 : dls (x :: st) (y :: dl) = bitsOf (u32 y) (dW x) ++ dls st dl := by rw [dls, if_neg h0]
        rw [e1, Bool.and_eq_true] at hm
        rw [e2] at hL ⊢
        obtain ⟨hv, _⟩ := dV_enc x y hm.1 A (dls st dl ++ B) L p (by rw [hL]; simp only [List.append_assoc]) hp
        have hi := ih dl hm.2 (A ++ bitsOf (u32 y) (dW x)) B L (p + dW x) (by rw [hL]; simp only [List.append_assoc]) (by simp [hp]) h8
        have hsz : p + dW x ≤ 8 * (packS L).size := by
          rw [packS_size]
          have : L.length = A.length + (dW x + (dls st dl).length + B.length) := by rw [hL]; simp; omega
          omega
        rw [dlD, if_neg h0, if_neg (by omega), hv, hi]
        simp only [List.length_append, bitsOf_len, Rs.mk.injEq, true_and]
        omega
theorem encL_len (r : Rp) : (encL r).length % 32 = 0 ∧ (bodyB r).length ≤ (encL r).length ∧ (encL r).length < (bodyB r).length + 32 := by
  unfold encL
  simp only [List.length_append, bitsOf_len]
  omega
theorem lenE_is {n : Nat} (h1 : n ≤ 65536) (h2 : n % 4 = 0) (h3 : 16 ≤ n) : lenE n = 0 := by unfold lenE; rw [if_neg (by omega), if_neg (by omega), if_neg (by omega)]
theorem manyE_is {n : Nat} (h1 : 0 < n) (h2 : n ≤ 4096) : manyE n = 0 := by unfold manyE; rw [if_neg (by omega), if_neg (by omega)]
theorem u24 {b : Int} (h : -8388608 ≤ b ∧ b ≤ 8388607) : sg (u32 b % 2 ^ 24) 24 = b := by
  unfold u32 sg
  simp only [Nat.reducePow, Nat.reduceSub]
  split <;> omega
/-- What is read of a body that is encoded. -/
theorem enc_parts {r : Rp} (hg : goodR r = true) : nS (packS (encL r)) = r.st.length ∧ stR (packS (encL r)) = ⟨0, r.st, 128 + (chB r.st).length⟩ ∧ dlR (packS (encL r)) = ⟨0, r.dl, (bodyB r).length⟩ ∧ (packS (encL r)).size = (encL r).length / 8 := by
  obtain ⟨_, _, _, ⟨h1, h2⟩, h3⟩ := goodR_iff.1 hg
  have hs2 := mat_012 h3
  obtain ⟨l1, l2, l3⟩ := encL_len r
  have hn : nS (packS (encL r)) = r.st.length := by
    unfold nS
    rw [gv_mid (bitsOf r.sd.toNat 32 ++ (bitsOf r.md.toNat 32 ++ bitsOf r.fi.toNat 16)) (bitsOf (u32 r.ba) 24 ++ (bitsOf r.co.toNat 8 ++ (chB r.st ++ (dls r.st r.dl ++ bitsOf 0 ((32 - (bodyB r).length % 32) % 32))))) r.st.length 16 80 (encL r) (by unfold encL bodyB hdB; simp only [List.append_assoc]) (by simp)]
    exact Nat.mod_eq_of_lt (by omega)
  have hst : stR (packS (encL r)) = ⟨0, r.st, 128 + (chB r.st).length⟩ := by
    unfold stR
    rw [hn]
    exact st_enc r.st.length r.st (Nat.le_refl _) h2 hs2 (hdB r) (dls r.st r.dl ++ bitsOf 0 ((32 - (bodyB r).length % 32) % 32)) (encL r) 128 (by unfold encL bodyB; simp only [List.append_assoc]) (by simp) (by omega)
  have hdl : dlR (packS (encL r)) = ⟨0, r.dl, (bodyB r).length⟩ := by
    unfold dlR
    rw [hst]
    have := dl_enc r.st r.dl h3 (hdB r ++ chB r.st) (bitsOf 0 ((32 - (bodyB r).length % 32) % 32)) (encL r) (128 + (chB r.st).length) (by unfold encL bodyB; simp only [List.append_assoc]) (by simp) (by omega)
    rw [this]
    simp only [Rs.mk.injEq, true_and]
    unfold bodyB
    simp
    omega
  exact ⟨hn, hst, hdl, by rw [packS_size]; omega⟩
theorem enc_size {r : Rp} (hg : goodR r = true) : (packS (encL r)).size % 4 = 0 ∧ 20 ≤ (packS (encL r)).size ∧ (packS (encL r)).size ≤ 20000 ∧ ((bodyB r).length : Int) = 128 + (chB r.st).length + 8 * sumL r.st ∧ (bodyB r).length ≤ 8 * (packS (encL r)).size ∧ 8 * (packS (encL r)).size < (bodyB r).length + 32 := by
  obtain ⟨_, _, _, hz⟩ := enc_parts hg
  obtain ⟨b1, b2, b3⟩ := bodyB_len hg
  obtain ⟨l1, l2, l3⟩ := encL_len r
  obtain ⟨_, _, _, ⟨h1, h2⟩, h3⟩ := goodR_iff.1 hg
  have hc := (chB_len r.st).2.2 (by omega)
  have hs := (sumL_bd (mat_012 h3)).1
  omega
theorem dec_enc {r : Rp} (hg : goodR r = true) (s0 : 0 ≤ r.sd) (s1 : r.sd < 4294967296) (t0 : 0 ≤ r.md) (t1 : r.md < 4294967296) : decE (packS (encL r)) = 0 ∧ decR (packS (encL r)) = r := by
  obtain ⟨hn, hst, hdl, hz⟩ := enc_parts hg
  obtain ⟨z1, z2, z3, z4, z5, z6⟩ := enc_size hg
  obtain ⟨⟨f0, f1⟩, hba, ⟨k0, k1⟩, ⟨h1, h2⟩, h3⟩ := goodR_iff.1 hg
  have hE : decE (packS (encL r)) = 0 := by
    unfold decE
    rw [lenE_is (by omega) (by omega) (by omega), hn, manyE_is (by omega) (by omega), hst, hdl]
    simp only [ne_eq, not_true_eq_false, if_false]
    unfold padE
    obtain ⟨l1, l2, l3⟩ := encL_len r
    rw [if_neg]
    have e : 8 * (packS (encL r)).size - (bodyB r).length = (32 - (bodyB r).length % 32) % 32 := by
      have : (encL r).length = (bodyB r).length + (32 - (bodyB r).length % 32) % 32 := by unfold encL; simp
      omega
    rw [gv_mid (bodyB r) [] 0 _ _ (encL r) (by rw [e, List.append_nil]; rfl) rfl]
    simp
    omega
  refine ⟨hE, ?_⟩
  unfold decR
  rw [if_pos hE]
  unfold decG
  rw [hst, hdl]
  have g0 := gv_mid [] (bitsOf r.md.toNat 32 ++ (bitsOf r.fi.toNat 16 ++ (bitsOf r.st.length 16 ++ (bitsOf (u32 r.ba) 24 ++ (bitsOf r.co.toNat 8 ++ (chB r.st ++ (dls r.st r.dl ++ bitsOf 0 ((32 - (bodyB r).length % 32) % 32)))))))) r.sd.toNat 32 0 (encL r) (by unfold encL bodyB hdB; simp only [List.append_assoc, List.nil_append]) rfl
  have g1 := gv_mid (bitsOf r.sd.toNat 32) (bitsOf r.fi.toNat 16 ++ (bitsOf r.st.length 16 ++ (bitsOf (u32 r.ba) 24 ++ (bitsOf r.co.toNat 8 ++ (chB r.st ++ (dls r.st r.dl ++ bitsOf 0 ((32 - (bodyB r).length % 32) % 32))))))) r.md.toNat 32 32 (encL r) (by unfold encL bodyB hdB; simp only [List.append_assoc]) (by simp)
  have g2 := gv_mid (bitsOf r.sd.toNat 32 ++ bitsOf r.md.toNat 32) (bitsOf r.st.length 16 ++ (bitsOf (u32 r.ba) 24 ++ (bitsOf r.co.toNat 8 ++ (chB r.st ++ (dls r.st r.dl ++ bitsOf 0 ((32 - (bodyB r).length % 32) % 32)))))) r.fi.toNat 16 64 (encL r) (by unfold encL bodyB hdB; simp only [List.append_assoc]) (by simp)
  have g4 := gv_mid (bitsOf r.sd.toNat 32 ++ (bitsOf r.md.toNat 32 ++ (bitsOf r.fi.toNat 16 ++ bitsOf r.st.length 16))) (bitsOf r.co.toNat 8 ++ (chB r.st ++ (dls r.st r.dl ++ bitsOf 0 ((32 - (bodyB r).length % 32) % 32)))) (u32 r.ba) 24 96 (encL r) (by unfold encL bodyB hdB; simp only [List.append_assoc]) (by simp)
  have g5 := gv_mid (bitsOf r.sd.toNat 32 ++ (bitsOf r.md.toNat 32 ++ (bitsOf r.fi.toNat 16 ++ (bitsOf r.st.length 16 ++ bitsOf (u32 r.ba) 24)))) (chB r.st ++ (dls r.st r.dl ++ bitsOf 0 ((32 - (bodyB r).length % 32) % 32))) r.co.toNat 8 120 (encL r) (by unfold encL bodyB hdB; simp only [List.append_assoc]) (by simp)
  rw [g0, g1, g2, g4, g5, u24 hba]
  obtain ⟨sd, md, fi, ba, co, st, dl⟩ := r
  simp only [Nat.reducePow, Rp.mk.injEq, and_true, true_and] at *
  omega
/-! ### A text that begins as another one -/
def Pre (s s' : ByteArray) : Prop := s.size ≤ s'.size ∧ ∀ p n, p + n ≤ 8 * s.size → gv s' p n = gv s p n
theorem rowV_pre {s s' : ByteArray} (h : Pre s s') (p k S : Nat) (hp : p + k * S ≤ 8 * s.size) : rowV s' p k S = rowV s p k S := by
  unfold rowV
  apply List.map_congr_left
  intro i hi
  rw [List.mem_range] at hi
  have : k * (i + 1) ≤ k * S := Nat.mul_le_mul_left k (by omega)
  rw [Nat.mul_add, Nat.mul_one] at this
  rw [h.2 _ _ (by omega)]
theorem ckD_pre {s s' : ByteArray} (h : Pre s s') (p n : Nat) (hp : p + 16 ≤ 8 * s.size) : ckD s' p n = ckD s p n := by
  unfold ckD runD rowD
  rw [h.2 _ _ (by omega), h.2 _ _ (by omega), h.2 _ _ (by omega), h.2 _ _ (by omega), rowV_pre h (p + 2) 1 14 (by omega), rowV_pre h (p + 2) 2 7 (by omega)]
theorem stD_pre {s s' : ByteArray} (h : Pre s s') (f : Nat) : ∀ p n, (stD s f p n).e = 0 → p ≤ 8 * s.size → stD s' f p n = stD s f p n ∧ (stD s f p n).p ≤ 8 * s.size := by
  induction f with
  | zero => intro p n _ hp; exact ⟨rfl, hp⟩
  | succ f ih =>
    intro p n he hp
    rw [stD] at he ⊢
    rw [stD]
    by_cases hn : n = 0
    · rw [if_pos hn, if_pos hn]; exact ⟨rfl, hp⟩
    · rw [if_neg hn] at he ⊢
      rw [if_neg hn]
      by_cases h16 : 8 * s.size < p + 16
      · rw [if_pos h16] at he; cases he
      · rw [if_neg h16] at he ⊢
        have hs := h.1
        rw [if_neg (by omega), ckD_pre h p n (by omega)]
        cases hc : ckD s p n with
        | none => rw [hc] at he; cases he
        | some l =>
          rw [hc] at he
          simp only at he ⊢
          obtain ⟨i1, i2⟩ := ih (p + 16) (n - l.length) he (by omega)
          rw [i1]
          exact ⟨rfl, i2⟩
theorem dlD_pre {s s' : ByteArray} (h : Pre s s') : ∀ (st : List Int) (p : Nat), (dlD s p st).e = 0 → p ≤ 8 * s.size → dlD s' p st = dlD s p st ∧ (dlD s p st).p ≤ 8 * s.size := by
  intro st
  induction st with
  | nil => intro p _ hp; exact ⟨rfl, hp⟩
  | cons x st ih =>
    intro p he hp
    rw [dlD] at he ⊢
    rw [dlD]
    by_cases h0 : x = 0
    · rw [if_pos h0] at he ⊢
      rw [if_pos h0]
      exact ih p he hp
    · rw [if_neg h0] at he ⊢
      rw [if_neg h0]
      by_cases hw : 8 * s.size < p + dW x
      · rw [if_pos hw] at he; cases he
      · rw [if_neg hw] at he ⊢
        have hs := h.1
        rw [if_neg (by omega)]
        simp only at he ⊢
        obtain ⟨i1, i2⟩ := ih (p + dW x) he (by omega)
        have hv : dV s' p x = dV s p x := by
          have hd : dW x = 8 ∧ x = 1 ∨ dW x = 16 ∧ ¬ x = 1 := by unfold dW; split <;> simp [*]
          unfold dV
          rcases hd with ⟨hd, h1⟩ | ⟨hd, h1⟩
          · rw [if_pos h1, if_pos h1, h.2 _ _ (by omega)]
          · rw [if_neg h1, if_neg h1, h.2 _ _ (by omega)]
        rw [i1, hv]
        exact ⟨rfl, i2⟩
/-- Where the parts of a text are told, they are those of any longer one. -/
theorem parts_pre {s s' : ByteArray} (h : Pre s s') (h16 : 16 ≤ s.size) (h1 : (stR s).e = 0) (h2 : (dlR s).e = 0) : nS s' = nS s ∧ stR s' = stR s ∧ dlR s' = dlR s ∧ (dlR s).p ≤ 8 * s.size := by
  have hn : nS s' = nS s := h.2 80 16 (by omega)
  obtain ⟨a1, a2⟩ := stD_pre h (nS s) 128 (nS s) h1 (by omega)
  have hst : stR s' = stR s := by unfold stR; rw [hn]; exact a1
  obtain ⟨b1, b2⟩ := dlD_pre h (stR s).l (stR s).p h2 a2
  exact ⟨hn, hst, by unfold dlR; rw [hst]; exact b1, b2⟩
/-- A body with four bytes more behind it. -/
theorem dec_more {r : Rp} (hg : goodR r = true) {s' : ByteArray} (h : Pre (packS (encL r)) s') (hz : s'.size = (packS (encL r)).size + 4) : decE s' = 91 := by
  obtain ⟨hn, hst, hdl, _⟩ := enc_parts hg
  obtain ⟨z1, z2, z3, z4, z5, z6⟩ := enc_size hg
  obtain ⟨_, _, _, ⟨h1, h2⟩, h3⟩ := goodR_iff.1 hg
  obtain ⟨a, b, c, d⟩ := parts_pre h (by omega) (by rw [hst]) (by rw [hdl])
  unfold decE
  rw [lenE_is (by omega) (by omega) (by omega), a, hn, manyE_is (by omega) (by omega), b, hst, c, hdl]
  simp only [ne_eq, not_true_eq_false, if_false]
  unfold padE
  rw [if_pos (.inl (by omega))]
/-- A body that lacks its last four bytes. -/
theorem dec_less {r : Rp} (hg : goodR r = true) {s' : ByteArray} (h : Pre s' (packS (encL r))) (hz : s'.size + 4 = (packS (encL r)).size) : ¬ decE s' = 0 := by
  intro he
  obtain ⟨hn, hst, hdl, _⟩ := enc_parts hg
  obtain ⟨z1, z2, z3, z4, z5, z6⟩ := enc_size hg
  obtain ⟨_, _, d2, d3, _⟩ := decE_zero he
  obtain ⟨a, b, c, d⟩ := parts_pre h (by omega) d2 d3
  rw [hdl] at c
  rw [← c] at d
  simp only at d
  omega
end Go.Proofs.Ytcbehpocnnkkeaa
