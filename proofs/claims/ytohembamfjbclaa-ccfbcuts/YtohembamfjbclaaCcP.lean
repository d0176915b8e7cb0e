/-
  Reports as plain lists: whether a report may be, how long its body is, its bits; what a body tells.
-/
import Derived.Test.YtohembamfjbclaaBiP
namespace Go.Proofs.Ytohembamfjbclaa

/-- Is n from a to b? -/
def inR (n a b : Int) : Bool := decide (a ≤ n ∧ n ≤ b)
theorem inR_yes {n a b : Int} (h0 : a ≤ n) (h1 : n ≤ b) : inR n a b = true := by simp [inR, h0, h1]
theorem inR_no {n a b : Int} (h : ¬ (a ≤ n ∧ n ≤ b)) : inR n a b = false := by simpa [inR] using h
theorem inR_iff {n a b : Int} : inR n a b = true ↔ a ≤ n ∧ n ≤ b := by simp [inR]

/-- What is told of a packet. -/
structure Mt where
  g : Bool
  e : Int
  a : Int
/-- What is told of a source. -/
structure Bk where
  s : Int
  f : Int
  m : List Mt
theorem Mt.eq {x y : Mt} (h0 : x.g = y.g) (h1 : x.e = y.e) (h2 : x.a = y.a) : x = y := by cases x; cases y; simp_all
theorem Bk.eq {x y : Bk} (h0 : x.s = y.s) (h1 : x.f = y.f) (h2 : x.m = y.m) : x = y := by cases x; cases y; simp_all

def mtOk (m : Mt) : Bool := if m.g then inR m.e 0 3 && inR m.a 0 8191 else decide (m.e = 0) && decide (m.a = 0)
def bkOk (b : Bk) : Bool := inR b.f 0 65535 && decide (b.m.length ≤ 4096) && b.m.all mtOk
def goodL (l : List Bk) : Bool := decide (l.length ≤ 16) && l.all bkOk
theorem mtOk_bd {m : Mt} (h : mtOk m = true) : 0 ≤ m.e ∧ m.e ≤ 3 ∧ 0 ≤ m.a ∧ m.a ≤ 8191 := by
  unfold mtOk at h
  cases hg : m.g with
  | true => rw [hg] at h; simp [inR] at h; omega
  | false => rw [hg] at h; simp at h; omega
theorem bkOk_iff {b : Bk} : bkOk b = true ↔ (0 ≤ b.f ∧ b.f ≤ 65535) ∧ b.m.length ≤ 4096 ∧ b.m.all mtOk = true := by
  simp only [bkOk, inR, Bool.and_eq_true, decide_eq_true_eq, and_assoc]
theorem goodL_iff {l : List Bk} : goodL l = true ↔ l.length ≤ 16 ∧ l.all bkOk = true := by simp only [goodL, Bool.and_eq_true, decide_eq_true_eq]

/-- The bytes of so many packets. -/
def mb (n : Nat) : Nat := (n + 1) / 2 * 4
/-- The bytes of sources. -/
def szB : List Bk → Nat
  | [] => 0
  | b :: l => 8 + mb b.m.length + szB l
theorem szB_app (l k : List Bk) : szB (l ++ k) = szB l + szB k := by induction l with | nil => simp [szB] | cons b l ih => simp [szB, ih]; omega
theorem szB_take {l : List Bk} {k : Nat} {b : Bk} (h : l[k]? = some b) : szB (l.take (k + 1)) = szB (l.take k) + (8 + mb b.m.length) := by
  have : l.take (k + 1) = l.take k ++ [b] := by rw [List.take_add_one, h]; rfl
  rw [this, szB_app]; simp [szB]
theorem szB_le (l : List Bk) (k : Nat) : szB (l.take k) ≤ szB l := by
  have := szB_app (l.take k) (l.drop k)
  rw [List.take_append_drop] at this; omega
theorem szB_mod (l : List Bk) : szB l % 4 = 0 := by induction l with | nil => rfl | cons b l ih => simp only [szB, mb]; omega
/-- How many packets. -/
def nM : List Bk → Nat
  | [] => 0
  | b :: l => b.m.length + nM l
theorem nM_app (l k : List Bk) : nM (l ++ k) = nM l + nM k := by induction l with | nil => simp [nM] | cons b l ih => simp [nM, ih]; omega
theorem nM_take {l : List Bk} {k : Nat} {b : Bk} (h : l[k]? = some b) : nM (l.take (k + 1)) = nM (l.take k) + b.m.length := by
  have : l.take (k + 1) = l.take k ++ [b] := by rw [List.take_add_one, h]; rfl
  rw [this, nM_app]; simp [nM]
theorem nM_sz (l : List Bk) : 2 * nM l ≤ szB l := by induction l with | nil => simp [nM, szB] | cons b l ih => simp only [nM, szB, mb]; omega
theorem sz_nM (l : List Bk) : szB l ≤ 10 * l.length + 2 * nM l := by induction l with | nil => simp [nM, szB] | cons b l ih => simp only [nM, szB, mb, List.length_cons]; omega

def b01 (b : Bool) : Nat := if b then 1 else 0
/-- The bits of what is told of a packet. -/
def mB (m : Mt) : List Bool := bitsOf (b01 m.g) 1 ++ bitsOf m.e.toNat 2 ++ bitsOf m.a.toNat 13
@[simp] theorem mB_len (m : Mt) : (mB m).length = 16 := by simp [mB]
def msB : List Mt → List Bool
  | [] => []
  | m :: l => mB m ++ msB l
@[simp] theorem msB_len (l : List Mt) : (msB l).length = 16 * l.length := by induction l with | nil => rfl | cons m l ih => simp [msB, ih]; omega
theorem msB_app (l k : List Mt) : msB (l ++ k) = msB l ++ msB k := by induction l with | nil => rfl | cons b l ih => simp [msB, ih]
theorem msB_take {l : List Mt} {k : Nat} {m : Mt} (h : l[k]? = some m) : msB (l.take (k + 1)) = msB (l.take k) ++ mB m := by
  have : l.take (k + 1) = l.take k ++ [m] := by rw [List.take_add_one, h]; rfl
  rw [this, msB_app]; simp [msB]
/-- The bits of a source ahead of its packets. -/
def hB (b : Bk) : List Bool := bitsOf b.s.toNat 32 ++ bitsOf b.f.toNat 16 ++ bitsOf b.m.length 16
@[simp] theorem hB_len (b : Bk) : (hB b).length = 64 := by simp [hB]
def bB (b : Bk) : List Bool := hB b ++ msB b.m ++ bitsOf 0 (16 * (b.m.length % 2))
theorem bB_len (b : Bk) : (bB b).length = 64 + 8 * mb b.m.length := by simp [bB, mb]; omega
def bsB : List Bk → List Bool
  | [] => []
  | b :: l => bB b ++ bsB l
theorem bsB_len (l : List Bk) : (bsB l).length = 8 * szB l := by induction l with | nil => rfl | cons b l ih => simp [bsB, szB, ih, bB_len]; omega
theorem bsB_app (l k : List Bk) : bsB (l ++ k) = bsB l ++ bsB k := by induction l with | nil => rfl | cons b l ih => simp [bsB, ih]
theorem bsB_take {l : List Bk} {k : Nat} {b : Bk} (h : l[k]? = some b) : bsB (l.take (k + 1)) = bsB (l.take k) ++ bB b := by
  have : l.take (k + 1) = l.take k ++ [b] := by rw [List.take_add_one, h]; rfl
  rw [this, bsB_app]; simp [bsB]
/-- The bits of a report's body. -/
def encL (sd : Int) (l : List Bk) (st : Int) : List Bool := bitsOf sd.toNat 32 ++ bsB l ++ bitsOf st.toNat 32
theorem encL_len (sd : Int) (l : List Bk) (st : Int) : (encL sd l st).length = 8 * (8 + szB l) := by simp [encL, bsB_len]; omega
/-- What Encode answers: the error, the body. -/
def encE (l : List Bk) : Int := if goodL l = true then (if 65536 < 8 + szB l then 2 else 0) else 1
def encS (sd : Int) (l : List Bk) (st : Int) : ByteArray := if encE l = 0 then packS (encL sd l st) else ⟨#[]⟩
theorem encE_zero {l : List Bk} (h : encE l = 0) : goodL l = true ∧ 8 + szB l ≤ 65536 := by
  unfold encE at h
  by_cases h1 : goodL l = true
  · rw [if_pos h1] at h
    by_cases h2 : 65536 < 8 + szB l
    · rw [if_pos h2] at h; omega
    · exact ⟨h1, by omega⟩
  · rw [if_neg h1] at h; omega
theorem encE_is {l : List Bk} (h1 : goodL l = true) (h2 : 8 + szB l ≤ 65536) : encE l = 0 := by unfold encE; rw [if_pos h1, if_neg (by omega)]
theorem encS_is {sd st : Int} {l : List Bk} (h : encE l = 0) : encS sd l st = packS (encL sd l st) := if_pos h
theorem encS_size {sd st : Int} {l : List Bk} (h : encE l = 0) : (encS sd l st).size = 8 + szB l := by rw [encS_is h, packS_size, encL_len]; omega

/-! ### What a body tells -/
def mtAt (s : ByteArray) (p : Nat) : Mt := ⟨decide (gv s p 1 = 1), gv s (p + 1) 2, gv s (p + 3) 13⟩
def msAt (s : ByteArray) (p n : Nat) : List Mt := (List.range n).map fun i => mtAt s (p + 16 * i)
@[simp] theorem msAt_len (s : ByteArray) (p n : Nat) : (msAt s p n).length = n := by simp [msAt]
theorem msAt_succ (s : ByteArray) (p n : Nat) : msAt s p (n + 1) = msAt s p n ++ [mtAt s (p + 16 * n)] := by simp [msAt, List.range_succ]
/-- How many packets the source at p tells. -/
def cnt (s : ByteArray) (p : Nat) : Nat := gv s (p + 48) 16
def bkE (s : ByteArray) (p : Nat) : Int :=
  if 8 * s.size < p + 96 then 60 else if 4096 < cnt s p then 3 else if 8 * s.size < p + 64 + 8 * mb (cnt s p) + 32 then 60
  else if (msAt s (p + 64) (cnt s p)).all mtOk = true then (if gv s (p + 64 + 16 * cnt s p) (16 * (cnt s p % 2)) = 0 then 0 else 91) else 70
def bkAt (s : ByteArray) (p : Nat) : Bk := ⟨gv s p 32, gv s (p + 32) 16, msAt s (p + 64) (cnt s p)⟩
def bkN (s : ByteArray) (p : Nat) : Nat := p + 64 + 8 * mb (cnt s p)
theorem bkE_zero {s : ByteArray} {p : Nat} (h : bkE s p = 0) : p + 96 ≤ 8 * s.size ∧ cnt s p ≤ 4096 ∧ bkN s p + 32 ≤ 8 * s.size ∧ (msAt s (p + 64) (cnt s p)).all mtOk = true ∧ gv s (p + 64 + 16 * cnt s p) (16 * (cnt s p % 2)) = 0 := by
  unfold bkE at h
  by_cases h1 : 8 * s.size < p + 96
  · rw [if_pos h1] at h; omega
  rw [if_neg h1] at h
  by_cases h2 : 4096 < cnt s p
  · rw [if_pos h2] at h; omega
  rw [if_neg h2] at h
  by_cases h3 : 8 * s.size < p + 64 + 8 * mb (cnt s p) + 32
  · rw [if_pos h3] at h; omega
  rw [if_neg h3] at h
  by_cases h4 : (msAt s (p + 64) (cnt s p)).all mtOk = true
  · rw [if_pos h4] at h
    by_cases h5 : gv s (p + 64 + 16 * cnt s p) (16 * (cnt s p % 2)) = 0
    · exact ⟨by omega, by omega, by unfold bkN; omega, h4, h5⟩
    · rw [if_neg h5] at h; omega
  · rw [if_neg h4] at h; omega
theorem bkE_is {s : ByteArray} {p : Nat} (h1 : p + 96 ≤ 8 * s.size) (h2 : cnt s p ≤ 4096) (h3 : bkN s p + 32 ≤ 8 * s.size) (h4 : (msAt s (p + 64) (cnt s p)).all mtOk = true) (h5 : gv s (p + 64 + 16 * cnt s p) (16 * (cnt s p % 2)) = 0) : bkE s p = 0 := by
  unfold bkN at h3
  unfold bkE
  rw [if_neg (by omega), if_neg (by omega), if_neg (by omega), if_pos h4, if_pos h5]
theorem bkE_short {s : ByteArray} {p : Nat} (h1 : 8 * s.size < p + 96) : bkE s p = 60 := if_pos h1
theorem bkE_many {s : ByteArray} {p : Nat} (h1 : p + 96 ≤ 8 * s.size) (h2 : 4096 < cnt s p) : bkE s p = 3 := by unfold bkE; rw [if_neg (by omega), if_pos h2]
theorem bkE_lacks {s : ByteArray} {p : Nat} (h1 : p + 96 ≤ 8 * s.size) (h2 : cnt s p ≤ 4096) (h3 : 8 * s.size < bkN s p + 32) : bkE s p = 60 := by
  unfold bkN at h3
  unfold bkE; rw [if_neg (by omega), if_neg (by omega), if_pos (by omega)]
theorem bkE_mark {s : ByteArray} {p : Nat} (h1 : p + 96 ≤ 8 * s.size) (h2 : cnt s p ≤ 4096) (h3 : bkN s p + 32 ≤ 8 * s.size) (h4 : ¬ (msAt s (p + 64) (cnt s p)).all mtOk = true) : bkE s p = 70 := by
  unfold bkN at h3
  unfold bkE; rw [if_neg (by omega), if_neg (by omega), if_neg (by omega), if_neg h4]
theorem bkE_pad {s : ByteArray} {p : Nat} (h1 : p + 96 ≤ 8 * s.size) (h2 : cnt s p ≤ 4096) (h3 : bkN s p + 32 ≤ 8 * s.size) (h4 : (msAt s (p + 64) (cnt s p)).all mtOk = true) (h5 : ¬ gv s (p + 64 + 16 * cnt s p) (16 * (cnt s p % 2)) = 0) : bkE s p = 91 := by
  unfold bkN at h3
  unfold bkE; rw [if_neg (by omega), if_neg (by omega), if_neg (by omega), if_pos h4, if_neg h5]
/-- The error of what is told from p on, k sources at most; the sources. -/
def dE (s : ByteArray) : Nat → Nat → Int
  | 0, p => if p + 32 < 8 * s.size then 3 else 0
  | k + 1, p => if p + 32 < 8 * s.size then (if bkE s p = 0 then dE s k (bkN s p) else bkE s p) else 0
def dL (s : ByteArray) : Nat → Nat → List Bk
  | 0, _ => []
  | k + 1, p => if p + 32 < 8 * s.size then (if bkE s p = 0 then bkAt s p :: dL s k (bkN s p) else []) else []
theorem dE_end {s : ByteArray} {k p : Nat} (h : ¬ p + 32 < 8 * s.size) : dE s k p = 0 ∧ dL s k p = [] := by cases k <;> simp [dE, dL, h]
theorem dE_many {s : ByteArray} {p : Nat} (h : p + 32 < 8 * s.size) : dE s 0 p = 3 := by simp [dE, h]
theorem dE_wrong {s : ByteArray} {k p : Nat} (h : p + 32 < 8 * s.size) (hb : ¬ bkE s p = 0) : dE s (k + 1) p = bkE s p := by simp only [dE]; rw [if_pos h, if_neg hb]
theorem dE_more {s : ByteArray} {k p : Nat} (h : p + 32 < 8 * s.size) (hb : bkE s p = 0) : dE s (k + 1) p = dE s k (bkN s p) ∧ dL s (k + 1) p = bkAt s p :: dL s k (bkN s p) := by
  simp only [dE, dL]; rw [if_pos h, if_pos hb, if_pos h, if_pos hb]; exact ⟨rfl, rfl⟩
theorem dL_len (s : ByteArray) (k : Nat) : ∀ p, (dL s k p).length ≤ k := by
  induction k with
  | zero => intro p; simp [dL]
  | succ k ih =>
    intro p
    simp only [dL]
    split
    · split
      · have := ih (bkN s p); simp; omega
      · simp
    · simp
def lenE (n : Nat) : Int := if 65536 < n then 2 else if n % 4 ≠ 0 then 90 else if n < 8 then 60 else 0
/-- What Decode answers. -/
def decE (s : ByteArray) : Int := if lenE s.size = 0 then dE s 16 32 else lenE s.size
def decL (s : ByteArray) : List Bk := if decE s = 0 then dL s 16 32 else []
def decSd (s : ByteArray) : Int := if decE s = 0 then gv s 0 32 else 0
def decSt (s : ByteArray) : Int := if decE s = 0 then gv s (8 * s.size - 32) 32 else 0
theorem lenE_zero {n : Nat} (h : lenE n = 0) : n ≤ 65536 ∧ n % 4 = 0 ∧ 8 ≤ n := by
  unfold lenE at h
  by_cases h1 : 65536 < n
  · rw [if_pos h1] at h; omega
  rw [if_neg h1] at h
  by_cases h2 : n % 4 ≠ 0
  · rw [if_pos h2] at h; omega
  rw [if_neg h2] at h
  by_cases h3 : n < 8
  · rw [if_pos h3] at h; omega
  omega
theorem lenE_is {n : Nat} (h1 : n ≤ 65536) (h2 : n % 4 = 0) (h3 : 8 ≤ n) : lenE n = 0 := by unfold lenE; rw [if_neg (by omega), if_neg (by omega), if_neg (by omega)]

/-! ### Back -/
theorem gv_mid (A B : List Bool) (c n p : Nat) (L : List Bool) (hL : L = A ++ (bitsOf c n ++ B)) (hp : p = A.length) : gv (packS L) p n = c % 2 ^ n := by
  subst hL hp; rw [gv_pack, val_mid]
theorem mtAt_enc (A B : List Bool) (m : Mt) (h : mtOk m = true) (L : List Bool) (p : Nat) (hL : L = A ++ (mB m ++ B)) (hp : p = A.length) : mtAt (packS L) p = m := by
  have hb := mtOk_bd h
  have g0 := gv_mid A (bitsOf m.e.toNat 2 ++ bitsOf m.a.toNat 13 ++ B) (b01 m.g) 1 p L (by rw [hL, mB]; simp) hp
  have g1 := gv_mid (A ++ bitsOf (b01 m.g) 1) (bitsOf m.a.toNat 13 ++ B) m.e.toNat 2 (p + 1) L (by rw [hL, mB]; simp) (by simp [hp])
  have g2 := gv_mid (A ++ bitsOf (b01 m.g) 1 ++ bitsOf m.e.toNat 2) B m.a.toNat 13 (p + 3) L (by rw [hL, mB]; simp) (by simp [hp])
  apply Mt.eq
  · simp only [mtAt, g0]
    cases m.g <;> simp [b01]
  · simp only [mtAt, g1]; omega
  · simp only [mtAt, g2]; omega
theorem msAt_enc (l : List Mt) : ∀ (A B : List Bool) (_ : l.all mtOk = true) (L : List Bool) (p : Nat) (_ : L = A ++ (msB l ++ B)) (_ : p = A.length), msAt (packS L) p l.length = l := by
  intro A B h L p hL hp
  apply List.ext_getElem?
  intro i
  by_cases hi : i < l.length
  · have hm : l[i]? = some l[i] := List.getElem?_eq_getElem hi
    have ho : mtOk l[i] = true := List.all_eq_true.1 h _ (List.getElem_mem hi)
    have e : l = l.take i ++ (l[i] :: l.drop (i + 1)) := by rw [List.getElem_cons_drop, List.take_append_drop]
    have em : msB l = msB (l.take i) ++ (mB l[i] ++ msB (l.drop (i + 1))) := by
      have := congrArg msB e
      rw [msB_app] at this
      rw [this]; rfl
    have := mtAt_enc (A ++ msB (l.take i)) (msB (l.drop (i + 1)) ++ B) l[i] ho L (p + 16 * i) (by rw [hL, em]; simp) (by simp [hp]; omega)
    rw [hm, msAt, List.getElem?_map, List.getElem?_range hi, Option.map_some, this]
  · rw [List.getElem?_eq_none (by rw [msAt_len]; omega), List.getElem?_eq_none (by omega)]
theorem bk_enc (A B : List Bool) (b : Bk) (hb : bkOk b = true) (h0 : 0 ≤ b.s) (h1 : b.s < 4294967296) (L : List Bool) (p : Nat) (hL : L = A ++ (bB b ++ B)) (hp : p = A.length) (hB : 32 ≤ B.length) (h8 : L.length % 8 = 0) :
    bkE (packS L) p = 0 ∧ bkAt (packS L) p = b ∧ bkN (packS L) p = p + (bB b).length := by
  obtain ⟨⟨f0, f1⟩, hn, hm⟩ := bkOk_iff.1 hb
  have hl := congrArg List.length hL
  rw [List.length_append, List.length_append, bB_len] at hl
  have hs : 8 * (packS L).size = L.length := by rw [packS_size]; omega
  have e0 : L = A ++ (bitsOf b.s.toNat 32 ++ (bitsOf b.f.toNat 16 ++ bitsOf b.m.length 16 ++ msB b.m ++ bitsOf 0 (16 * (b.m.length % 2)) ++ B)) := by rw [hL]; simp [bB, Ytohembamfjbclaa.hB]
  have g0 := gv_mid A _ _ 32 p L e0 hp
  have e1 : L = (A ++ bitsOf b.s.toNat 32) ++ (bitsOf b.f.toNat 16 ++ (bitsOf b.m.length 16 ++ msB b.m ++ bitsOf 0 (16 * (b.m.length % 2)) ++ B)) := by rw [e0]; simp
  have g1 := gv_mid _ _ _ 16 (p + 32) L e1 (by simp [hp])
  have e2 : L = (A ++ bitsOf b.s.toNat 32 ++ bitsOf b.f.toNat 16) ++ (bitsOf b.m.length 16 ++ (msB b.m ++ bitsOf 0 (16 * (b.m.length % 2)) ++ B)) := by rw [e0]; simp
  have g2 := gv_mid _ _ _ 16 (p + 48) L e2 (by simp [hp])
  have hc : cnt (packS L) p = b.m.length := by unfold cnt; rw [g2]; omega
  have e3 : L = (A ++ Ytohembamfjbclaa.hB b) ++ (msB b.m ++ (bitsOf 0 (16 * (b.m.length % 2)) ++ B)) := by rw [e0]; simp [Ytohembamfjbclaa.hB]
  have g3 := msAt_enc b.m _ _ hm L (p + 64) e3 (by simp [hp])
  have e4 : L = (A ++ Ytohembamfjbclaa.hB b ++ msB b.m) ++ (bitsOf 0 (16 * (b.m.length % 2)) ++ B) := by rw [e3]; simp
  have g4 := gv_mid _ _ _ (16 * (b.m.length % 2)) (p + 64 + 16 * b.m.length) L e4 (by simp [hp]; omega)
  refine ⟨bkE_is ?_ ?_ ?_ ?_ ?_, Bk.eq ?_ ?_ ?_, ?_⟩
  · rw [hs]; omega
  · rw [hc]; exact hn
  · unfold bkN; rw [hc, hs]; omega
  · rw [hc, g3]; exact hm
  · rw [hc, g4]; simp
  · simp only [bkAt, g0]; omega
  · simp only [bkAt, g1]; omega
  · simp only [bkAt, hc, g3]
  · unfold bkN; rw [hc, bB_len]; omega
theorem d_enc (l : List Bk) : ∀ (k : Nat) (A B : List Bool) (L : List Bool) (p : Nat) (_ : l.length ≤ k) (_ : l.all bkOk = true) (_ : ∀ b ∈ l, 0 ≤ b.s ∧ b.s < 4294967296) (_ : L = A ++ (bsB l ++ B)) (_ : p = A.length) (_ : B.length = 32) (_ : L.length % 8 = 0), dE (packS L) k p = 0 ∧ dL (packS L) k p = l := by
  induction l with
  | nil =>
    intro k A B L p _ _ _ hL hp hB h8
    have hl := congrArg List.length hL
    simp [bsB] at hl
    exact dE_end (by rw [packS_size]; omega)
  | cons b l ih =>
    intro k A B L p hk ho hs hL hp hB h8
    have hl := congrArg List.length hL
    rw [List.length_append, List.length_append, bsB_len] at hl
    simp only [szB] at hl
    simp only [List.all_cons, Bool.and_eq_true] at ho
    cases k with
    | zero => simp at hk
    | succ k =>
      obtain ⟨h1, h2, h3⟩ := bk_enc A (bsB l ++ B) b ho.1 (hs b (by simp)).1 (hs b (by simp)).2 L p (by rw [hL, bsB]; simp) hp (by simp; omega) h8
      have hlt : p + 32 < 8 * (packS L).size := by rw [packS_size]; omega
      obtain ⟨m1, m2⟩ := dE_more (k := k) hlt h1
      obtain ⟨i1, i2⟩ := ih k (A ++ bB b) B L (bkN (packS L) p) (by simp at hk; omega) ho.2 (fun x hx => hs x (by simp [hx])) (by rw [hL, bsB]; simp) (by rw [h3, hp]; simp) hB h8
      exact ⟨by rw [m1, i1], by rw [m2, h2, i2]⟩
/-- What was encoded is decoded. -/
theorem back {sd st : Int} {l : List Bk} (h : encE l = 0) (hs : ∀ b ∈ l, 0 ≤ b.s ∧ b.s < 4294967296) (d0 : 0 ≤ sd) (d1 : sd < 4294967296) (t0 : 0 ≤ st) (t1 : st < 4294967296) :
    decE (encS sd l st) = 0 ∧ decL (encS sd l st) = l ∧ decSd (encS sd l st) = sd ∧ decSt (encS sd l st) = st := by
  obtain ⟨hg, hz⟩ := encE_zero h
  obtain ⟨g1, g2⟩ := goodL_iff.1 hg
  have hsz := encS_size (sd := sd) (st := st) h
  have hm := szB_mod l
  have hlen := encL_len sd l st
  have hE := lenE_is (n := (encS sd l st).size) (by omega) (by omega) (by omega)
  rw [encS_is h] at hsz hE ⊢
  obtain ⟨k1, k2⟩ := d_enc l 16 (bitsOf sd.toNat 32) (bitsOf st.toNat 32) (encL sd l st) 32 g1 g2 hs (by simp [encL]) (by simp) (by simp) (by omega)
  have hd : decE (packS (encL sd l st)) = 0 := by unfold decE; rw [if_pos hE, k1]
  refine ⟨hd, by unfold decL; rw [if_pos hd, k2], ?_, ?_⟩
  · unfold decSd; rw [if_pos hd, gv_mid [] (bsB l ++ bitsOf st.toNat 32) sd.toNat 32 0 _ (by simp [encL]) rfl]; omega
  · unfold decSt; rw [if_pos hd, gv_mid (bitsOf sd.toNat 32 ++ bsB l) [] st.toNat 32 _ _ (by simp [encL]) (by rw [hsz]; simp [bsB_len]; omega)]; omega

/-! ### Again -/
theorem bits_add (s : ByteArray) (p k m : Nat) : bitsOf (gv s p (k + m)) (k + m) = bitsOf (gv s p k) k ++ bitsOf (gv s (p + k) m) m := by
  have h := gv_lt s (p + k) m
  have e := gv_add s p k m
  rw [bitsOf_split]
  have e1 : gv s p (k + m) / 2 ^ m = gv s p k := by
    rw [e, Nat.mul_comm, Nat.mul_add_div (Nat.two_pow_pos _), Nat.div_eq_of_lt h, Nat.add_zero]
  have e2 : bitsOf (gv s p (k + m)) m = bitsOf (gv s (p + k) m) m := by
    rw [← bitsOf_mod (gv s p (k + m)) m m (Nat.le_refl _)]
    congr 1
    rw [e, Nat.mul_comm, Nat.mul_add_mod, Nat.mod_eq_of_lt h]
  rw [e1, e2]
theorem pack_self (s : ByteArray) : packS (bitsOf (gv s 0 (8 * s.size)) (8 * s.size)) = s := by
  have key : ∀ j, j < s.size → bv (bitsOf (gv s 0 (8 * s.size)) (8 * s.size)) j = (s.data.toList.getD j 0).toNat := by
    intro j hj
    obtain ⟨r, hr⟩ : ∃ r, 8 * s.size = 8 * j + (8 + r) := ⟨8 * s.size - 8 * j - 8, by omega⟩
    rw [hr, bits_add, bits_add]
    unfold bv
    have := val_mid (bitsOf (gv s 0 (8 * j)) (8 * j)) (bitsOf (gv s (0 + 8 * j + 8) r) r) (gv s (0 + 8 * j) 8) 8
    rw [bitsOf_len] at this
    rw [this, Nat.mod_eq_of_lt (gv_lt s _ 8), gv_piece s _ 8 (by omega)]
    have e1 : (0 + 8 * j) / 8 = j := by omega
    have e2 : (0 + 8 * j) % 8 = 0 := by omega
    rw [e1, e2]
    have := (s.data.toList.getD j 0).toNat_lt
    simp
  obtain ⟨d⟩ := s
  unfold packS
  congr 1
  apply Array.ext'
  apply List.ext_getElem?
  intro j
  have hz : (ByteArray.mk d).size = d.size := rfl
  simp only [List.getElem?_map]
  by_cases hj : j < d.size
  · rw [pk_get _ _ (by simp [hz]; omega), Option.map_some, key j (by rw [hz]; exact hj)]
    have : d.toList[j]? = some d.toList[j] := List.getElem?_eq_getElem (by simpa using hj)
    rw [List.getD_eq_getElem?_getD, this]
    simp
  · rw [List.getElem?_eq_none (by simp [hz]; omega), List.getElem?_eq_none (by simp; omega)]
    rfl
theorem mB_at (s : ByteArray) (p : Nat) : mB (mtAt s p) = bitsOf (gv s p 16) 16 := by
  rw [show (16 : Nat) = 1 + (2 + 13) from rfl, bits_add, bits_add]
  have h := gv_lt s p 1
  have e : b01 (mtAt s p).g = gv s p 1 := by
    simp only [mtAt, b01]
    rcases (by omega : gv s p 1 = 0 ∨ gv s p 1 = 1) with e | e <;> simp [e]
  simp only [mB, e]
  simp [mtAt, Nat.add_assoc]
theorem msB_at (s : ByteArray) (p n : Nat) : msB (msAt s p n) = bitsOf (gv s p (16 * n)) (16 * n) := by
  induction n with
  | zero => rfl
  | succ n ih =>
    rw [msAt_succ, msB_app, ih, show 16 * (n + 1) = 16 * n + 16 from rfl, bits_add, ← mB_at]
    simp [msB]
theorem bB_at (s : ByteArray) (p : Nat) (h : bkE s p = 0) : bB (bkAt s p) = bitsOf (gv s p (64 + 8 * mb (cnt s p))) (64 + 8 * mb (cnt s p)) := by
  obtain ⟨_, _, _, _, h5⟩ := bkE_zero h
  have e : 64 + 8 * mb (cnt s p) = 32 + (16 + (16 + (16 * cnt s p + 16 * (cnt s p % 2)))) := by unfold mb; omega
  rw [e, bits_add, bits_add, bits_add, bits_add]
  have e1 : p + 32 + 16 + 16 = p + 64 := by omega
  have e2 : p + 32 + 16 = p + 48 := by omega
  rw [e1, e2, ← msB_at, h5]
  simp [bB, hB, bkAt, cnt]
theorem d_at (s : ByteArray) (k : Nat) : ∀ p, dE s k p = 0 → p + 32 ≤ 8 * s.size → p % 32 = 0 → s.size % 4 = 0 →
    bsB (dL s k p) = bitsOf (gv s p (8 * s.size - 32 - p)) (8 * s.size - 32 - p) ∧ 8 * szB (dL s k p) = 8 * s.size - 32 - p ∧ (dL s k p).all bkOk = true ∧ ∀ b ∈ dL s k p, 0 ≤ b.s ∧ b.s < 4294967296 := by
  induction k with
  | zero =>
    intro p hd hp _ _
    simp only [dE] at hd
    have : ¬ p + 32 < 8 * s.size := fun h => by rw [if_pos h] at hd; omega
    have e : 8 * s.size - 32 - p = 0 := by omega
    rw [e]
    exact ⟨rfl, rfl, rfl, fun b hb => by cases hb⟩
  | succ k ih =>
    intro p hd hp hm h4
    by_cases hlt : p + 32 < 8 * s.size
    · by_cases hb : bkE s p = 0
      · obtain ⟨m1, m2⟩ := dE_more (k := k) hlt hb
        obtain ⟨z1, z2, z3, z4, z5⟩ := bkE_zero hb
        rw [m1] at hd
        have hmod : bkN s p % 32 = 0 := by unfold bkN mb; omega
        obtain ⟨i1, i2, i3, i4⟩ := ih (bkN s p) hd z3 hmod h4
        have hbn : bkN s p = p + (64 + 8 * mb (cnt s p)) := by unfold bkN; omega
        have e : 8 * s.size - 32 - p = (64 + 8 * mb (cnt s p)) + (8 * s.size - 32 - bkN s p) := by omega
        rw [m2]
        refine ⟨?_, ?_, ?_, ?_⟩
        · rw [bsB, e, bits_add, bB_at s p hb, i1, hbn]
        · have hl : (bkAt s p).m.length = cnt s p := by simp [bkAt]
          simp only [szB]
          rw [hl]
          omega
        · rw [List.all_cons, i3, Bool.and_true]
          have g := gv_lt s (p + 32) 16
          exact bkOk_iff.2 ⟨⟨by simp [bkAt], by simp only [bkAt]; omega⟩, by simp [bkAt]; exact z2, z4⟩
        · intro b hbm
          rcases List.mem_cons.1 hbm with rfl | hbm
          · have g := gv_lt s p 32
            exact ⟨by simp [bkAt], by simp only [bkAt]; omega⟩
          · exact i4 b hbm
      · rw [dE_wrong hlt hb] at hd; exact absurd hd hb
    · obtain ⟨_, e2⟩ := dE_end (k := k + 1) hlt
      have e : 8 * s.size - 32 - p = 0 := by omega
      rw [e2, e]
      exact ⟨rfl, rfl, rfl, fun b hb => by cases hb⟩
theorem decE_zero {s : ByteArray} (h : decE s = 0) : lenE s.size = 0 ∧ dE s 16 32 = 0 := by
  unfold decE at h
  by_cases h1 : lenE s.size = 0
  · rw [if_pos h1] at h; exact ⟨h1, h⟩
  · rw [if_neg h1] at h; exact absurd h h1
/-- What was decoded is encoded as it was. -/
theorem again {s : ByteArray} (h : decE s = 0) : encE (decL s) = 0 ∧ 8 + szB (decL s) = s.size ∧ encS (decSd s) (decL s) (decSt s) = s ∧ (∀ b ∈ decL s, 0 ≤ b.s ∧ b.s < 4294967296) := by
  obtain ⟨h1, h2⟩ := decE_zero h
  obtain ⟨l1, l2, l3⟩ := lenE_zero h1
  obtain ⟨d1, d2, d3, d4⟩ := d_at s 16 32 h2 (by omega) rfl l2
  have eL : decL s = dL s 16 32 := by unfold decL; rw [if_pos h]
  have eD : decSd s = gv s 0 32 := by unfold decSd; rw [if_pos h]
  have eT : decSt s = gv s (8 * s.size - 32) 32 := by unfold decSt; rw [if_pos h]
  have hz : 8 + szB (dL s 16 32) = s.size := by omega
  have hE : encE (dL s 16 32) = 0 := encE_is (goodL_iff.2 ⟨dL_len s 16 32, d3⟩) (by omega)
  rw [eL, eD, eT]
  refine ⟨hE, hz, ?_, d4⟩
  rw [encS_is hE]
  have e : encL (gv s 0 32) (dL s 16 32) (gv s (8 * s.size - 32) 32) = bitsOf (gv s 0 (8 * s.size)) (8 * s.size) := by
    obtain ⟨r, hr⟩ : ∃ r, 8 * s.size = 32 + (r + 32) := ⟨8 * s.size - 64, by omega⟩
    have e1 : 8 * s.size - 32 - 32 = r := by omega
    have e2 : 8 * s.size - 32 = 0 + 32 + r := by omega
    rw [e1] at d1
    rw [e2, hr, bits_add, bits_add, encL, d1]
    simp
  rw [e, pack_self]
theorem decSd_bd (s : ByteArray) : 0 ≤ decSd s ∧ decSd s < 4294967296 := by
  unfold decSd; split
  · have := gv_lt s 0 32; omega
  · omega
theorem decSt_bd (s : ByteArray) : 0 ≤ decSt s ∧ decSt s < 4294967296 := by
  unfold decSt; split
  · have := gv_lt s (8 * s.size - 32) 32; omega
  · omega
theorem decL_bd (s : ByteArray) : (decL s).length ≤ 16 ∧ (decL s).all bkOk = true ∧ ∀ b ∈ decL s, 0 ≤ b.s ∧ b.s < 4294967296 := by
  by_cases h : decE s = 0
  · obtain ⟨h1, _, _, h4⟩ := again h
    have := goodL_iff.1 (encE_zero h1).1
    exact ⟨this.1, this.2, h4⟩
  · have e : decL s = [] := by unfold decL; rw [if_neg h]
    rw [e]; exact ⟨by simp, rfl, fun b hb => by cases hb⟩
theorem decL_none {s : ByteArray} (h : ¬ decE s = 0) : decL s = [] ∧ decSd s = 0 ∧ decSt s = 0 := by
  unfold decL decSd decSt; rw [if_neg h, if_neg h, if_neg h]; exact ⟨rfl, rfl, rfl⟩
end Go.Proofs.Ytohembamfjbclaa
