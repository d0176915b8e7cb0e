/-
  A report as plain numbers: whether it may be, its body's bits, what a body tells.
-/
import Derived.Test.YtcbehpocnnkkeaaBiP
namespace Go.Proofs.Ytcbehpocnnkkeaa

/-- A report. -/
structure Rp where
  sd : Int
  md : Int
  fi : Int
  ba : Int
  co : Int
  st : List Int
  dl : List Int
def Rp.none : Rp := ⟨0, 0, 0, 0, 0, [], []⟩

/-! ### Whether it may be -/
def dOk (s d : Int) : Bool := if s = 1 then decide (0 ≤ d) && decide (d ≤ 255) else if s = 2 then decide (-32768 ≤ d) && decide (d ≤ 32767) else false
def mat : List Int → List Int → Bool
  | [], d => d.isEmpty
  | s :: st, d => if s = 0 then mat st d else match d with
    | [] => false
    | x :: d' => dOk s x && mat st d'
def goodR (r : Rp) : Bool :=
  decide (0 ≤ r.fi ∧ r.fi ≤ 65535) && decide (-8388608 ≤ r.ba ∧ r.ba ≤ 8388607) && decide (0 ≤ r.co ∧ r.co ≤ 255) && decide (1 ≤ r.st.length ∧ r.st.length ≤ 4096) && mat r.st r.dl
theorem goodR_iff {r : Rp} : goodR r = true ↔ (0 ≤ r.fi ∧ r.fi ≤ 65535) ∧ (-8388608 ≤ r.ba ∧ r.ba ≤ 8388607) ∧ (0 ≤ r.co ∧ r.co ≤ 255) ∧ (1 ≤ r.st.length ∧ r.st.length ≤ 4096) ∧ mat r.st r.dl = true := by
  simp only [goodR, Bool.and_eq_true, decide_eq_true_eq, and_assoc]
theorem mat_012 {st dl : List Int} (h : mat st dl = true) : ∀ s ∈ st, 0 ≤ s ∧ s ≤ 2 := by
  induction st generalizing dl with
  | nil => intro s hs; cases hs
  | cons a st ih =>
    intro s hs
    unfold mat at h
    by_cases ha : a = 0
    · rw [if_pos ha] at h
      rcases List.mem_cons.1 hs with rfl | hs
      · omega
      · exact ih h s hs
    · rw [if_neg ha] at h
      cases dl with
      | nil => cases h
      | cons x dl =>
        simp only [Bool.and_eq_true] at h
        rcases List.mem_cons.1 hs with rfl | hs
        · have := h.1
          unfold dOk at this
          split at this
          · omega
          · split at this
            · omega
            · cases this
        · exact ih h.2 s hs

/-! ### Its body -/
def cnt (s : Int) : List Int → Nat
  | [] => 0
  | x :: l => if x = s then cnt s l + 1 else 0
/-- How many are like the first one. -/
def alk (l : List Int) : Nat := cnt (l.getD 0 0) l
theorem cnt_le (s : Int) (l : List Int) : cnt s l ≤ l.length := by
  induction l with
  | nil => simp [cnt]
  | cons x l ih => unfold cnt; split <;> simp <;> omega
theorem cnt_take (s : Int) (l : List Int) : l.take (cnt s l) = List.replicate (cnt s l) s := by
  induction l with
  | nil => simp [cnt]
  | cons x l ih =>
    unfold cnt
    split
    · rename_i h; subst h; rw [List.take_succ_cons, ih, List.replicate_succ]
    · simp
theorem alk_pos {l : List Int} (h : 0 < l.length) : 0 < alk l := by
  cases l with
  | nil => simp at h
  | cons x l => simp [alk, cnt]
theorem alk_le (l : List Int) : alk l ≤ l.length := cnt_le _ _
def rowB (k : Nat) : List Int → List Bool
  | [] => []
  | x :: l => bitsOf x.toNat k ++ rowB k l
@[simp] theorem rowB_len (k : Nat) (l : List Int) : (rowB k l).length = k * l.length := by
  induction l with
  | nil => simp [rowB]
  | cons x l ih => simp [rowB, ih, Nat.mul_add]; omega
theorem rowB_app (k : Nat) (l r : List Int) : rowB k (l ++ r) = rowB k l ++ rowB k r := by
  induction l with
  | nil => rfl
  | cons x l ih => simp [rowB, ih]
/-- Which chunk the next one is: 0 a run, 1 a row of 14, 2 a row of 7. -/
def kind (l : List Int) : Nat := if min 7 l.length ≤ alk l then 0 else if (l.take 14).contains 2 then 2 else 1
/-- Of how many Status it tells. -/
def ckN (l : List Int) : Nat := if kind l = 0 then alk l else if kind l = 1 then min 14 l.length else min 7 l.length
def runB (l : List Int) : List Bool := bitsOf 0 1 ++ bitsOf (l.getD 0 0).toNat 2 ++ bitsOf (alk l) 13
def longB (l : List Int) : List Bool := bitsOf 1 1 ++ bitsOf 0 1 ++ rowB 1 (l.take 14) ++ bitsOf 0 (14 - min 14 l.length)
def shortB (l : List Int) : List Bool := bitsOf 1 1 ++ bitsOf 1 1 ++ rowB 2 (l.take 7) ++ bitsOf 0 (14 - 2 * min 7 l.length)
def ckB (l : List Int) : List Bool := if kind l = 0 then runB l else if kind l = 1 then longB l else shortB l
theorem kind_le (l : List Int) : kind l ≤ 2 := by unfold kind; split; omega; split <;> omega
theorem ckN_pos {l : List Int} (h : 0 < l.length) : 0 < ckN l := by
  have := alk_pos h
  unfold ckN; split
  · exact this
  · split <;> omega
theorem ckN_le (l : List Int) : ckN l ≤ l.length := by
  have := alk_le l
  unfold ckN; split
  · exact this
  · split <;> omega
theorem ckN_7 {l : List Int} : 7 ≤ ckN l ∨ ckN l = l.length := by
  have h := alk_le l
  unfold ckN
  split
  · rename_i h0
    unfold kind at h0
    split at h0
    · omega
    · split at h0 <;> omega
  · split <;> omega
@[simp] theorem ckB_len (l : List Int) : (ckB l).length = 16 := by
  unfold ckB runB longB shortB
  split
  · simp
  · split <;> simp <;> omega
def chs : Nat → List Int → List Bool
  | 0, _ => []
  | f + 1, l => if l.length = 0 then [] else ckB l ++ chs f (l.drop (ckN l))
theorem chs_nil (f : Nat) : chs f [] = [] := by cases f <;> simp [chs]
theorem chs_cons (f : Nat) (l : List Int) (h : 0 < l.length) : chs (f + 1) l = ckB l ++ chs f (l.drop (ckN l)) := by
  rw [chs, if_neg (by omega)]
theorem chs_same (f g : Nat) (l : List Int) (hf : l.length ≤ f) (hg : l.length ≤ g) : chs f l = chs g l := by
  induction f generalizing g l with
  | zero => obtain rfl := List.eq_nil_of_length_eq_zero (by omega : l.length = 0); rw [chs_nil, chs_nil]
  | succ f ih =>
    by_cases h : l.length = 0
    · obtain rfl := List.eq_nil_of_length_eq_zero h; rw [chs_nil, chs_nil]
    · cases g with
      | zero => omega
      | succ g =>
        have := ckN_pos (l := l) (by omega)
        rw [chs_cons _ _ (by omega), chs_cons _ _ (by omega), ih g _ (by simp; omega) (by simp; omega)]
/-- All chunks. -/
def chB (l : List Int) : List Bool := chs l.length l
theorem chB_nil : chB [] = [] := rfl
theorem chB_cons {l : List Int} (h : 0 < l.length) : chB l = ckB l ++ chB (l.drop (ckN l)) := by
  obtain ⟨n, hn⟩ : ∃ n, l.length = n + 1 := ⟨l.length - 1, by omega⟩
  have := ckN_pos h
  unfold chB
  rw [hn, chs_cons _ _ h, chs_same n (l.drop (ckN l)).length _ (by simp; omega) (Nat.le_refl _)]
theorem chs_len (f : Nat) (l : List Int) : (chs f l).length % 16 = 0 ∧ (chs f l).length ≤ 16 * ((l.length + 6) / 7) ∧ (0 < f → 0 < l.length → 16 ≤ (chs f l).length) := by
  induction f generalizing l with
  | zero => simp [chs]
  | succ f ih =>
    by_cases h : l.length = 0
    · obtain rfl := List.eq_nil_of_length_eq_zero h; simp [chs]
    · rw [chs_cons _ _ (by omega)]
      obtain ⟨i0, i1, _⟩ := ih (l.drop (ckN l))
      have h7 := ckN_7 (l := l)
      have hl := ckN_le l
      simp only [List.length_append, ckB_len, List.length_drop] at *
      refine ⟨by omega, ?_, fun _ _ => by omega⟩
      rcases h7 with h7 | h7
      · omega
      · omega
theorem chB_len (l : List Int) : (chB l).length % 16 = 0 ∧ (chB l).length ≤ 16 * ((l.length + 6) / 7) ∧ (0 < l.length → 16 ≤ (chB l).length) := by
  obtain ⟨a, b, c⟩ := chs_len l.length l
  exact ⟨a, b, fun h => c h h⟩
/-- A number as so many bits have it. -/
def u32 (x : Int) : Nat := (x % 4294967296).toNat
theorem u32_lt (x : Int) : u32 x < 4294967296 := by unfold u32; omega
def dW (s : Int) : Nat := if s = 1 then 8 else 16
def dls : List Int → List Int → List Bool
  | [], _ => []
  | s :: st, d => if s = 0 then dls st d else match d with
    | [] => []
    | x :: d' => bitsOf (u32 x) (dW s) ++ dls st d'
def sumL : List Int → Int
  | [] => 0
  | x :: l => x + sumL l
theorem dls_len {st dl : List Int} (h : mat st dl = true) : ((dls st dl).length : Int) = 8 * sumL st := by
  induction st generalizing dl with
  | nil => simp [dls, sumL]
  | cons s st ih =>
    unfold mat at h
    unfold dls sumL
    by_cases hs : s = 0
    · rw [if_pos hs] at h ⊢; rw [ih h]; omega
    · rw [if_neg hs] at h ⊢
      cases dl with
      | nil => cases h
      | cons x dl =>
        simp only [Bool.and_eq_true] at h
        have := ih h.2
        have h1 := h.1
        simp only [List.length_append, bitsOf_len]
        unfold dOk at h1
        unfold dW
        split at h1
        · rename_i h2; subst h2; rw [if_pos rfl]; omega
        · rename_i h2
          split at h1
          · rw [if_neg h2]; omega
          · cases h1
theorem sumL_bd {st : List Int} (h : ∀ s ∈ st, 0 ≤ s ∧ s ≤ 2) : 0 ≤ sumL st ∧ sumL st ≤ 2 * st.length := by
  induction st with
  | nil => simp [sumL]
  | cons s st ih =>
    have h1 := h s (List.mem_cons_self)
    have := ih fun x hx => h x (List.mem_cons_of_mem _ hx)
    simp only [sumL, List.length_cons]
    omega
def hdB (r : Rp) : List Bool := bitsOf r.sd.toNat 32 ++ bitsOf r.md.toNat 32 ++ bitsOf r.fi.toNat 16 ++ bitsOf r.st.length 16 ++ bitsOf (u32 r.ba) 24 ++ bitsOf r.co.toNat 8
@[simp] theorem hdB_len (r : Rp) : (hdB r).length = 128 := by simp [hdB]
/-- Its body's bits, ahead of what fills up. -/
def bodyB (r : Rp) : List Bool := hdB r ++ chB r.st ++ dls r.st r.dl
def encL (r : Rp) : List Bool := bodyB r ++ bitsOf 0 ((32 - (bodyB r).length % 32) % 32)
def encE (r : Rp) : Int := if goodR r then 0 else 1
def encS (r : Rp) : ByteArray := if goodR r then packS (encL r) else ⟨#[]⟩
theorem bodyB_len {r : Rp} (h : goodR r = true) : ((bodyB r).length : Int) = 128 + (chB r.st).length + 8 * sumL r.st ∧ (bodyB r).length ≤ 128 + 16 * 586 + 16 * 4096 ∧ (bodyB r).length % 8 = 0 := by
  obtain ⟨_, _, _, ⟨h1, h2⟩, h3⟩ := goodR_iff.1 h
  have a := dls_len h3
  have b := sumL_bd (mat_012 h3)
  obtain ⟨c0, c1, _⟩ := chB_len r.st
  unfold bodyB
  simp only [List.length_append, hdB_len]
  omega

/-! ### What a body tells -/
def sg (v : Nat) (b : Nat) : Int := if v < 2 ^ (b - 1) then (v : Int) else (v : Int) - (2 ^ b : Nat)
def rowV (s : ByteArray) (p k size : Nat) : List Int := (List.range size).map fun i => (gv s (p + k * i) k : Int)
@[simp] theorem rowV_len (s : ByteArray) (p k size : Nat) : (rowV s p k size).length = size := by simp [rowV]
def rowOk (l : List Int) (n : Nat) : Bool := l.all (fun x => decide (x ≤ 2)) && (l.drop n).all (fun x => decide (x = 0))
def rowD (s : ByteArray) (p k size n : Nat) : Option (List Int) := if rowOk (rowV s p k size) n then some ((rowV s p k size).take n) else none
def runD (s : ByteArray) (p n : Nat) : Option (List Int) := if gv s p 2 = 3 ∨ gv s (p + 2) 13 = 0 then none else some (List.replicate (min (gv s (p + 2) 13) n) (gv s p 2 : Int))
def ckD (s : ByteArray) (p n : Nat) : Option (List Int) := if gv s p 1 = 0 then runD s (p + 1) n else if gv s (p + 1) 1 = 0 then rowD s (p + 2) 1 14 n else rowD s (p + 2) 2 7 n
structure Rs where
  e : Int
  l : List Int
  p : Nat
def stD (s : ByteArray) : Nat → Nat → Nat → Rs
  | 0, p, _ => ⟨0, [], p⟩
  | f + 1, p, n => if n = 0 then ⟨0, [], p⟩ else if 8 * s.size < p + 16 then ⟨60, [], p⟩ else match ckD s p n with
    | none => ⟨100, [], p⟩
    | some l => ⟨(stD s f (p + 16) (n - l.length)).e, l ++ (stD s f (p + 16) (n - l.length)).l, (stD s f (p + 16) (n - l.length)).p⟩
def dV (s : ByteArray) (p : Nat) (x : Int) : Int := if x = 1 then (gv s p 8 : Int) else sg (gv s p 16) 16
def dlD (s : ByteArray) : Nat → List Int → Rs
  | p, [] => ⟨0, [], p⟩
  | p, x :: st => if x = 0 then dlD s p st else if 8 * s.size < p + dW x then ⟨60, [], p⟩ else ⟨(dlD s (p + dW x) st).e, dV s p x :: (dlD s (p + dW x) st).l, (dlD s (p + dW x) st).p⟩
def padE (s : ByteArray) (p : Nat) : Int := if 32 ≤ 8 * s.size - p ∨ gv s p (8 * s.size - p) ≠ 0 then 91 else 0
def lenE (n : Nat) : Int := if 65536 < n then 2 else if n % 4 ≠ 0 then 90 else if n < 16 then 60 else 0
def manyE (n : Nat) : Int := if n = 0 then 90 else if 4096 < n then 3 else 0
def nS (s : ByteArray) : Nat := gv s 80 16
def stR (s : ByteArray) : Rs := stD s (nS s) 128 (nS s)
def dlR (s : ByteArray) : Rs := dlD s (stR s).p (stR s).l
def decE (s : ByteArray) : Int := if lenE s.size ≠ 0 then lenE s.size else if manyE (nS s) ≠ 0 then manyE (nS s) else if (stR s).e ≠ 0 then (stR s).e else if (dlR s).e ≠ 0 then (dlR s).e else padE s (dlR s).p
def decG (s : ByteArray) : Rp := ⟨gv s 0 32, gv s 32 32, gv s 64 16, sg (gv s 96 24) 24, gv s 120 8, (stR s).l, (dlR s).l⟩
def decR (s : ByteArray) : Rp := if decE s = 0 then decG s else Rp.none

theorem rowD_len {s : ByteArray} {p k size n : Nat} {l : List Int} (h : rowD s p k size n = some l) : l.length = min n size ∧ ∀ x ∈ l, 0 ≤ x ∧ x ≤ 2 := by
  unfold rowD at h
  split at h
  · rename_i ho
    simp only [Option.some.injEq] at h
    subst h
    refine ⟨by simp, fun x hx => ?_⟩
    have hm := List.mem_of_mem_take hx
    unfold rowOk at ho
    simp only [Bool.and_eq_true, List.all_eq_true, decide_eq_true_eq] at ho
    refine ⟨?_, ho.1 x hm⟩
    simp only [rowV, List.mem_map] at hm
    obtain ⟨i, _, rfl⟩ := hm
    omega
  · cases h
theorem ckD_len {s : ByteArray} {p n : Nat} {l : List Int} (h : ckD s p n = some l) (hn : 0 < n) : 0 < l.length ∧ l.length ≤ n ∧ ∀ x ∈ l, 0 ≤ x ∧ x ≤ 2 := by
  unfold ckD at h
  split at h
  · unfold runD at h
    split at h
    · cases h
    · rename_i h1
      simp only [Option.some.injEq] at h
      subst h
      have := gv_lt s (p + 1) 2
      refine ⟨by simp; omega, by simp; omega, fun x hx => ?_⟩
      obtain rfl := (List.mem_replicate.1 hx).2
      omega
  · split at h
    · obtain ⟨a, b⟩ := rowD_len h; exact ⟨by omega, by omega, b⟩
    · obtain ⟨a, b⟩ := rowD_len h; exact ⟨by omega, by omega, b⟩
theorem stD_same (s : ByteArray) (f g p n : Nat) (hf : n ≤ f) (hg : n ≤ g) : stD s f p n = stD s g p n := by
  induction f generalizing g p n with
  | zero =>
    obtain rfl : n = 0 := by omega
    cases g <;> simp [stD]
  | succ f ih =>
    cases g with
    | zero => obtain rfl : n = 0 := by omega
              simp [stD]
    | succ g =>
      unfold stD
      by_cases hn : n = 0
      · rw [if_pos hn, if_pos hn]
      · rw [if_neg hn, if_neg hn]
        split
        · rfl
        · cases hc : ckD s p n with
          | none => rfl
          | some l =>
            have := ckD_len hc (by omega)
            simp only [ih g (p + 16) (n - l.length) (by omega) (by omega)]
theorem stD_good (s : ByteArray) (f p n : Nat) (hf : n ≤ f) (h : (stD s f p n).e = 0) : (stD s f p n).l.length = n ∧ ∀ x ∈ (stD s f p n).l, 0 ≤ x ∧ x ≤ 2 := by
  induction f generalizing p n with
  | zero => obtain rfl : n = 0 := by omega
            simp [stD]
  | succ f ih =>
    unfold stD at h ⊢
    by_cases hn : n = 0
    · rw [if_pos hn]; subst hn; simp
    · rw [if_neg hn] at h ⊢
      split
      · rename_i h1; rw [if_pos h1] at h; cases h
      · rename_i h1; rw [if_neg h1] at h
        cases hc : ckD s p n with
        | none => rw [hc] at h; cases h
        | some l =>
          obtain ⟨a, b, c⟩ := ckD_len hc (by omega)
          rw [hc] at h
          simp only at h ⊢
          obtain ⟨d, e⟩ := ih (p + 16) (n - l.length) (by omega) h
          refine ⟨by simp [d]; omega, fun x hx => ?_⟩
          rcases List.mem_append.1 hx with hx | hx
          · exact c x hx
          · exact e x hx
theorem sg_bd (v b : Nat) (hb : 0 < b) (h : v < 2 ^ b) : -(2 ^ (b - 1) : Nat) ≤ sg v b ∧ sg v b ≤ (2 ^ (b - 1) : Nat) - 1 := by
  have e : 2 ^ b = 2 * 2 ^ (b - 1) := by
    rw [← Nat.pow_succ']; congr 1; omega
  unfold sg
  split <;> omega
theorem dlD_good (s : ByteArray) (p : Nat) (st : List Int) (hs : ∀ x ∈ st, 0 ≤ x ∧ x ≤ 2) (h : (dlD s p st).e = 0) : mat st (dlD s p st).l = true := by
  induction st generalizing p with
  | nil => simp [dlD, mat]
  | cons x st ih =>
    unfold dlD at h ⊢
    unfold mat
    have hx := hs x (List.mem_cons_self)
    by_cases h0 : x = 0
    · rw [if_pos h0] at h ⊢
      rw [if_pos h0]
      exact ih p (fun y hy => hs y (List.mem_cons_of_mem _ hy)) h
    · rw [if_neg h0] at h ⊢
      rw [if_neg h0]
      by_cases h1 : 8 * s.size < p + dW x
      · rw [if_pos h1] at h; cases h
      · rw [if_neg h1] at h ⊢
        simp only at h ⊢
        rw [ih _ (fun y hy => hs y (List.mem_cons_of_mem _ hy)) h, Bool.and_true]
        unfold dOk dV
        by_cases hx1 : x = 1
        · have := gv_lt s p 8
          rw [if_pos hx1, if_pos hx1]; simp; omega
        · have := sg_bd _ 16 (by omega) (gv_lt s p 16)
          rw [if_neg hx1, if_neg hx1, if_pos (by omega)]; simp at this ⊢; omega
theorem decE_zero {s : ByteArray} (h : decE s = 0) : lenE s.size = 0 ∧ manyE (nS s) = 0 ∧ (stR s).e = 0 ∧ (dlR s).e = 0 ∧ padE s (dlR s).p = 0 := by
  unfold decE at h
  by_cases h0 : lenE s.size = 0
  · rw [if_neg (by simpa using h0)] at h
    by_cases h1 : manyE (nS s) = 0
    · rw [if_neg (by simpa using h1)] at h
      by_cases h2 : (stR s).e = 0
      · rw [if_neg (by simpa using h2)] at h
        by_cases h3 : (dlR s).e = 0
        · rw [if_neg (by simpa using h3)] at h
          exact ⟨h0, h1, h2, h3, h⟩
        · rw [if_pos h3] at h; exact absurd h h3
      · rw [if_pos h2] at h; exact absurd h h2
    · rw [if_pos h1] at h; exact absurd h h1
  · rw [if_pos h0] at h; exact absurd h h0
theorem dec_good {s : ByteArray} (h : decE s = 0) : goodR (decR s) = true ∧ 0 ≤ (decR s).sd ∧ (decR s).sd < 4294967296 ∧ 0 ≤ (decR s).md ∧ (decR s).md < 4294967296 := by
  obtain ⟨h0, h1, h2, h3, _⟩ := decE_zero h
  obtain ⟨a, b⟩ := stD_good s (nS s) 128 (nS s) (Nat.le_refl _) h2
  have c := dlD_good s (stR s).p (stR s).l b h3
  have hn : nS s ≠ 0 ∧ nS s ≤ 4096 := by
    unfold manyE at h1
    split at h1
    · cases h1
    · split at h1
      · cases h1
      · omega
  unfold decR
  rw [if_pos h]
  have g0 := gv_lt s 0 32
  have g1 := gv_lt s 32 32
  have g2 := gv_lt s 64 16
  have g3 := sg_bd _ 24 (by omega) (gv_lt s 96 24)
  have g4 := gv_lt s 120 8
  simp at g0 g1 g2 g3 g4
  refine ⟨goodR_iff.2 ⟨?_, ?_, ?_, ?_, c⟩, ?_⟩
  · simp only [decG]; omega
  · simp only [decG]; omega
  · simp only [decG]; omega
  · have : (stR s).l.length = nS s := a
    simp only [decG]; omega
  · simp only [decG]; omega
end Go.Proofs.Ytcbehpocnnkkeaa
