/-
  A list of packets that are asked for again, as plain numbers: whether it may be; its entries; its bits; what the bits tell.
-/
import Derived.Test.YtmnpghelglohlaaBiP
namespace Go.Proofs.Ytmnpghelglohlaa

/-- A list with its two senders. -/
structure Nk where
  sd : Int
  md : Int
  lo : List Int

/-- Is a behind b, by 16 bits? -/
def af (a b : Int) : Bool := decide (0 ≤ a ∧ a < 65536 ∧ 0 ≤ b ∧ b < 65536 ∧ 0 < (a - b) % 65536 ∧ (a - b) % 65536 < 32768)
/-- What follows last, in a list that begins with f: as the code asks. -/
def okL (f : Int) : Int → List Int → Bool
  | _, [] => true
  | la, v :: t => af v la && (af v f && okL f v t)
/-- As the reference asks. -/
def okR (f : Int) : Int → List Int → Bool
  | _, [] => true
  | la, v :: t => af v la && (decide ((v - f) % 65536 < 32768) && okR f v t)
def isL : List Int → Bool
  | [] => false
  | f :: t => decide (t.length < 4096) && (decide (0 ≤ f) && (decide (f < 65536) && okL f f t))
theorem af_iff (a b : Int) : af a b = true ↔ (0 ≤ a ∧ a < 65536 ∧ 0 ≤ b ∧ b < 65536 ∧ 0 < (a - b) % 65536 ∧ (a - b) % 65536 < 32768) := by unfold af; simp
theorem okR_eq (f : Int) (f0 : 0 ≤ f) (f1 : f < 65536) (t : List Int) : ∀ la : Int, (la - f) % 65536 < 32768 → okR f la t = okL f la t := by
  induction t with
  | nil => intro la _; rfl
  | cons v t ih =>
    intro la hl
    unfold okR okL
    by_cases ha : af v la = true
    · have h := (af_iff _ _).1 ha
      by_cases hf : (v - f) % 65536 < 32768
      · rw [ih v hf]
        have : af v f = true := (af_iff _ _).2 ⟨h.1, h.2.1, f0, f1, by omega, hf⟩
        rw [this, decide_eq_true hf]
      · have : af v f = false := by
          rw [Bool.eq_false_iff]; intro h'; have := (af_iff _ _).1 h'; omega
        rw [this, decide_eq_false hf]; rfl
    · rw [Bool.eq_false_iff.2 ha]; rfl

/-- Those that follow la rise, as f sees them. -/
def Up (f : Int) : Int → List Int → Prop
  | _, [] => True
  | la, v :: t => (0 ≤ v ∧ v < 65536 ∧ (la - f) % 65536 < (v - f) % 65536 ∧ (v - f) % 65536 < 32768) ∧ Up f v t
theorem okL_up (f : Int) (t : List Int) : ∀ la : Int, (la - f) % 65536 < 32768 → okL f la t = true → Up f la t := by
  induction t with
  | nil => intro la _ _; trivial
  | cons v t ih =>
    intro la hl h
    unfold okL at h
    simp only [Bool.and_eq_true] at h
    obtain ⟨h1, h2, h3⟩ := h
    have g1 := (af_iff _ _).1 h1
    have g2 := (af_iff _ _).1 h2
    exact ⟨⟨g1.1, g1.2.1, by omega, by omega⟩, ih v (by omega) h3⟩
theorem up_okL (f : Int) (f0 : 0 ≤ f) (f1 : f < 65536) (t : List Int) : ∀ la : Int, 0 ≤ la → la < 65536 → Up f la t → okL f la t = true := by
  induction t with
  | nil => intro la _ _ _; rfl
  | cons v t ih =>
    intro la l0 l1 h
    obtain ⟨⟨h0, h1, h2, h3⟩, h4⟩ := h
    unfold okL
    rw [(af_iff v la).2 ⟨h0, h1, l0, l1, by omega, by omega⟩, (af_iff v f).2 ⟨h0, h1, f0, f1, by omega, by omega⟩, ih v h0 h1 h4]; rfl
theorem up_low (f : Int) (t : List Int) (la lb : Int) (h : (lb - f) % 65536 ≤ (la - f) % 65536) (hu : Up f la t) : Up f lb t := by
  cases t with
  | nil => trivial
  | cons v t => obtain ⟨⟨h0, h1, h2, h3⟩, h4⟩ := hu; exact ⟨⟨h0, h1, by omega, h3⟩, h4⟩
theorem up_drop (f : Int) (k : Nat) : ∀ (t : List Int) (la : Int), Up f la t → Up f la (t.drop k) := by
  induction k with
  | zero => intro t la h; exact h
  | succ k ih =>
    intro t la h
    cases t with
    | nil => trivial
    | cons v t =>
      obtain ⟨⟨h0, h1, h2, h3⟩, h4⟩ := h
      exact ih t la (up_low f t v la (by omega) h4)
theorem up_base (f x : Int) (t : List Int) : ∀ la : Int, (x - f) % 65536 ≤ (la - f) % 65536 → (la - f) % 65536 < 32768 → Up f la t → Up x la t := by
  induction t with
  | nil => intro la _ _ _; trivial
  | cons v t ih =>
    intro la hx hl h
    obtain ⟨⟨h0, h1, h2, h3⟩, h4⟩ := h
    exact ⟨⟨h0, h1, by omega, by omega⟩, ih v (by omega) h3 h4⟩
/-- A list that rises, within half a turn. -/
def Ri : List Int → Prop
  | [] => True
  | x :: t => 0 ≤ x ∧ x < 65536 ∧ Up x x t
theorem ri_of (x : Int) (t : List Int) (h : Up x x t) (k : Nat) : Ri (t.drop k) := by
  have := up_drop x k t x h
  cases hd : t.drop k with
  | nil => trivial
  | cons y s =>
    rw [hd] at this
    obtain ⟨⟨h0, h1, h2, h3⟩, h4⟩ := this
    exact ⟨h0, h1, up_base x y s y (by omega) h3 h4⟩
theorem ri_drop (l : List Int) (h : Ri l) (k : Nat) : Ri (l.drop k) := by
  cases l with
  | nil => simp; trivial
  | cons x t =>
    cases k with
    | zero => exact h
    | succ k => exact ri_of x t h.2.2 k
theorem isL_iff (l : List Int) : isL l = true ↔ 1 ≤ l.length ∧ l.length ≤ 4096 ∧ Ri l := by
  cases l with
  | nil => simp [isL]
  | cons f t =>
    unfold isL Ri
    simp only [Bool.and_eq_true, decide_eq_true_eq, List.length_cons]
    constructor
    · rintro ⟨h1, h2, h3, h4⟩
      exact ⟨by omega, by omega, h2, h3, okL_up f t f (by omega) h4⟩
    · rintro ⟨_, h1, h2, h3, h4⟩
      exact ⟨by omega, h2, h3, up_okL f h2 h3 t f h2 h3 h4⟩

/-! ### Entries -/
/-- How many of those that follow the entry of x tells of. -/
def tkN (x : Int) : List Int → Nat
  | [] => 0
  | v :: t => if (v - x) % 65536 ≤ 16 then tkN x t + 1 else 0
/-- Its mask, some of which stands. -/
def msk (x : Int) : Nat → List Int → Nat
  | m, [] => m
  | m, v :: t => if (v - x) % 65536 ≤ 16 then msk x (m ||| 2 ^ ((v - x) % 65536 - 1).toNat) t else m
theorem tkN_le (x : Int) (t : List Int) : tkN x t ≤ t.length := by
  induction t with
  | nil => exact Nat.le_refl _
  | cons v t ih => unfold tkN; split <;> simp <;> omega
theorem msk_lt (x : Int) (t : List Int) : ∀ m, m < 65536 → msk x m t < 65536 := by
  induction t with
  | nil => intro m h; exact h
  | cons v t ih =>
    intro m h
    unfold msk
    split
    · refine ih _ ?_
      have h2 : 2 ^ ((v - x) % 65536 - 1).toNat < 2 ^ 16 := Nat.pow_lt_pow_right (by decide) (by omega)
      exact Nat.or_lt_two_pow (n := 16) h h2
    · exact h
def ens : Nat → List Int → List (Int × Nat)
  | 0, _ => []
  | _ + 1, [] => []
  | n + 1, x :: t => (x, msk x 0 t) :: ens n (t.drop (tkN x t))
theorem ens_same (n : Nat) : ∀ (m : Nat) (l : List Int), l.length ≤ n → l.length ≤ m → ens n l = ens m l := by
  induction n with
  | zero =>
    intro m l h _
    obtain rfl := List.eq_nil_of_length_eq_zero (by omega : l.length = 0)
    cases m <;> rfl
  | succ n ih =>
    intro m l h1 h2
    cases l with
    | nil => cases m <;> rfl
    | cons x t =>
      cases m with
      | zero => simp at h2
      | succ m =>
        unfold ens
        rw [ih m (t.drop (tkN x t)) (by simp at h1 ⊢; omega) (by simp at h2 ⊢; omega)]
def enL (l : List Int) : List (Int × Nat) := ens l.length l
theorem enL_nil : enL [] = [] := rfl
theorem enL_cons (x : Int) (t : List Int) : enL (x :: t) = (x, msk x 0 t) :: enL (t.drop (tkN x t)) := by
  unfold enL
  show (x, msk x 0 t) :: ens t.length (t.drop (tkN x t)) = _
  rw [ens_same t.length (t.drop (tkN x t)).length _ (by simp) (Nat.le_refl _)]
theorem enL_len (n : Nat) : ∀ l : List Int, l.length ≤ n → (enL l).length ≤ l.length := by
  induction n with
  | zero =>
    intro l h
    obtain rfl := List.eq_nil_of_length_eq_zero (by omega : l.length = 0)
    exact Nat.le_refl _
  | succ n ih =>
    intro l h
    cases l with
    | nil => exact Nat.le_refl _
    | cons x t =>
      rw [enL_cons]
      have := ih (t.drop (tkN x t)) (by simp at h ⊢; omega)
      simp at this ⊢; omega
theorem enL_in (n : Nat) : ∀ l : List Int, l.length ≤ n → Ri l → ∀ e ∈ enL l, 0 ≤ e.1 ∧ e.1 < 65536 ∧ e.2 < 65536 := by
  induction n with
  | zero =>
    intro l h
    obtain rfl := List.eq_nil_of_length_eq_zero (by omega : l.length = 0)
    intro _ e he; simp [enL_nil] at he
  | succ n ih =>
    intro l h hr
    cases l with
    | nil => intro e he; simp [enL_nil] at he
    | cons x t =>
      rw [enL_cons]
      intro e he
      rcases List.mem_cons.1 he with rfl | he
      · exact ⟨hr.1, hr.2.1, msk_lt x t 0 (by decide)⟩
      · exact ih _ (by simp at h ⊢; omega) (ri_of x t hr.2.2 _) e he
def enB : List (Int × Nat) → List Bool
  | [] => []
  | e :: t => bitsOf e.1.toNat 16 ++ (bitsOf e.2 16 ++ enB t)
@[simp] theorem enB_len (es : List (Int × Nat)) : (enB es).length = 32 * es.length := by
  induction es with
  | nil => rfl
  | cons e t ih => simp [enB, ih]; omega
/-- A list's bits. -/
def nkB (r : Nk) : List Bool := bitsOf r.sd.toNat 32 ++ (bitsOf r.md.toNat 32 ++ enB (enL r.lo))
theorem nkB_len (r : Nk) : (nkB r).length = 64 + 32 * (enL r.lo).length := by simp [nkB]; omega
def encS (r : Nk) : ByteArray := if isL r.lo = true then packS (nkB r) else ⟨#[]⟩
def encE (r : Nk) : Int := if isL r.lo = true then 0 else 1
theorem enc_size (r : Nk) : (packS (nkB r)).size = 8 + 4 * (enL r.lo).length := by rw [packS_size, nkB_len]; omega

/-! ### What bits tell -/
/-- Of what the bits i and on of a mask tell. -/
def tl (x : Int) (m : Nat) : Nat → Nat → List Int
  | _, 0 => []
  | i, n + 1 => (if m / 2 ^ i % 2 = 1 then [(x + i + 1) % 65536] else []) ++ tl x m (i + 1) n
/-- Of what so many entries from a place on tell. -/
def deL (s : ByteArray) : Nat → Nat → List Int
  | _, 0 => []
  | p, n + 1 => (gv s p 16 : Int) :: (tl (gv s p 16 : Int) (gv s (p + 16) 16) 0 16 ++ deL s (p + 32) n)
def lost (s : ByteArray) : List Int := deL s 64 (s.size / 4 - 2)
def decE (s : ByteArray) : Int := if 65536 < s.size then 2 else if s.size % 4 ≠ 0 then 90 else if s.size < 12 then 60 else if 4096 < (lost s).length then 3 else if isL (lost s) = true then 0 else 110
def decR (s : ByteArray) : Nk := if decE s = 0 then ⟨gv s 0 32, gv s 32 32, lost s⟩ else ⟨0, 0, []⟩

theorem tl_len (x : Int) (m n : Nat) : ∀ i, (tl x m i n).length ≤ n := by
  induction n with
  | zero => intro i; exact Nat.le_refl _
  | succ n ih => intro i; have := ih (i + 1); unfold tl; split <;> simp <;> omega
theorem bit_or (m k i : Nat) : (m ||| 2 ^ k) / 2 ^ i % 2 = 1 ↔ (m / 2 ^ i % 2 = 1 ∨ k = i) := by
  have h := Nat.testBit_or m (2 ^ k) i
  rw [Nat.testBit_two_pow, Nat.testBit_eq_decide_div_mod_eq, Nat.testBit_eq_decide_div_mod_eq, Bool.eq_iff_iff] at h
  simpa using h
/-- A bit below all those that are told of stays. -/
theorem msk_bit (x : Int) (i : Nat) (t : List Int) : ∀ (m : Nat) (la : Int), i + 1 ≤ (la - x) % 65536 → Up x la t → (msk x m t / 2 ^ i % 2 = 1 ↔ m / 2 ^ i % 2 = 1) := by
  induction t with
  | nil => intro m la _ _; exact Iff.rfl
  | cons v t ih =>
    intro m la hl h
    obtain ⟨⟨h0, h1, h2, h3⟩, h4⟩ := h
    unfold msk
    split
    · rw [ih _ v (by omega) h4, bit_or]
      constructor
      · rintro (h | h)
        · exact h
        · omega
      · exact .inl
    · exact Iff.rfl
theorem small_bit (m i : Nat) (h : m < 2 ^ i) : ¬ m / 2 ^ i % 2 = 1 := by rw [Nat.div_eq_of_lt h]; decide
theorem tell_take (x : Int) (n : Nat) : ∀ (i m : Nat) (la : Int) (t : List Int), i + n = 16 → (la - x) % 65536 = i → m < 2 ^ i → Up x la t → tl x (msk x m t) i n = t.take (tkN x t) := by
  induction n with
  | zero =>
    intro i m la t hi hl hm hu
    cases t with
    | nil => rfl
    | cons v t =>
      obtain ⟨⟨h0, h1, h2, h3⟩, h4⟩ := hu
      unfold tkN
      rw [if_neg (by omega)]; rfl
  | succ n ih =>
    intro i m la t hi hl hm hu
    have hm2 : m < 2 ^ (i + 1) := Nat.lt_trans hm (Nat.pow_lt_pow_right (by decide) (by omega))
    cases t with
    | nil =>
      unfold tl
      have hb : ¬ msk x m [] / 2 ^ i % 2 = 1 := small_bit m i hm
      rw [if_neg hb, List.nil_append]
      exact ih (i + 1) m ((x + i + 1)) [] (by omega) (by omega) hm2 trivial
    | cons v t =>
      obtain ⟨⟨h0, h1, h2, h3⟩, h4⟩ := hu
      by_cases hv : (v - x) % 65536 = i + 1
      · have e1 : ((v - x) % 65536 - 1).toNat = i := by omega
        unfold tl
        have hb : msk x m (v :: t) / 2 ^ i % 2 = 1 := by
          unfold msk
          rw [if_pos (by omega), e1]
          exact (msk_bit x i t _ v (by omega) h4).2 ((bit_or _ _ _).2 (.inr rfl))
        rw [if_pos hb]
        have hm3 : m ||| 2 ^ i < 2 ^ (i + 1) := Nat.or_lt_two_pow hm2 (Nat.pow_lt_pow_right (by decide) (by omega))
        have := ih (i + 1) (m ||| 2 ^ i) v t (by omega) (by omega) hm3 h4
        unfold msk tkN
        rw [if_pos (by omega), if_pos (by omega), e1, this]
        have e2 : (x + (i : Int) + 1) % 65536 = v := by omega
        rw [e2]; rfl
      · have hb : ¬ msk x m (v :: t) / 2 ^ i % 2 = 1 := by
          intro h
          exact small_bit m i hm ((msk_bit x i (v :: t) m (x + i + 1) (by omega) ⟨⟨h0, h1, by omega, h3⟩, h4⟩).1 h)
        rw [tl, if_neg hb, List.nil_append]
        exact ih (i + 1) m (x + i + 1) (v :: t) (by omega) (by omega) hm2 ⟨⟨h0, h1, by omega, h3⟩, h4⟩
def tell (e : Int × Nat) : List Int := e.1 :: tl e.1 e.2 0 16
theorem tell_all (n : Nat) : ∀ l : List Int, l.length ≤ n → Ri l → (enL l).flatMap tell = l := by
  induction n with
  | zero =>
    intro l h _
    obtain rfl := List.eq_nil_of_length_eq_zero (by omega : l.length = 0)
    rfl
  | succ n ih =>
    intro l h hr
    cases l with
    | nil => rfl
    | cons x t =>
      rw [enL_cons, List.flatMap_cons, ih _ (by simp at h ⊢; omega) (ri_of x t hr.2.2 _)]
      show x :: tl x (msk x 0 t) 0 16 ++ _ = _
      rw [tell_take x 16 0 0 x t rfl (by omega) (by decide) hr.2.2, List.cons_append, List.take_append_drop]
theorem deL_en (es : List (Int × Nat)) : ∀ (pre post : List Bool), (∀ e ∈ es, 0 ≤ e.1 ∧ e.1 < 65536 ∧ e.2 < 65536) → deL (packS (pre ++ (enB es ++ post))) pre.length es.length = es.flatMap tell := by
  induction es with
  | nil => intro pre post _; rfl
  | cons e t ih =>
    intro pre post h
    obtain ⟨h0, h1, h2⟩ := h e (List.mem_cons_self ..)
    have g1 : gv (packS (pre ++ (enB (e :: t) ++ post))) pre.length 16 = e.1.toNat := by
      have := val_mid pre (bitsOf e.2 16 ++ enB t ++ post) e.1.toNat 16
      rw [gv_pack]
      simp only [enB, List.append_assoc] at this ⊢
      rw [this]; omega
    have g2 : gv (packS (pre ++ (enB (e :: t) ++ post))) (pre.length + 16) 16 = e.2 := by
      have := val_mid (pre ++ bitsOf e.1.toNat 16) (enB t ++ post) e.2 16
      rw [gv_pack]
      simp only [enB, List.append_assoc, List.length_append, bitsOf_len] at this ⊢
      rw [this]; omega
    have g3 := ih (pre ++ (bitsOf e.1.toNat 16 ++ bitsOf e.2 16)) post (fun e he => h e (List.mem_cons_of_mem _ he))
    simp only [enB, List.append_assoc, List.length_append, bitsOf_len] at g1 g2 g3
    simp only [List.length_cons, deL, enB, List.append_assoc]
    rw [g1, g2, g3, List.flatMap_cons]
    unfold tell
    rw [Int.toNat_of_nonneg h0]; rfl
theorem dec_enc {r : Nk} (h : isL r.lo = true) (s0 : 0 ≤ r.sd) (s1 : r.sd < 4294967296) (t0 : 0 ≤ r.md) (t1 : r.md < 4294967296) : decE (packS (nkB r)) = 0 ∧ decR (packS (nkB r)) = r := by
  obtain ⟨h1, h2, h3⟩ := (isL_iff _).1 h
  have hz := enc_size r
  have hn := enL_len _ r.lo (Nat.le_refl _)
  have hp : 0 < (enL r.lo).length := by
    cases hl : r.lo with
    | nil => rw [hl] at h1; simp at h1
    | cons x t => rw [enL_cons]; simp
  have hl : lost (packS (nkB r)) = r.lo := by
    unfold lost
    rw [hz, show (8 + 4 * (enL r.lo).length) / 4 - 2 = (enL r.lo).length by omega]
    have := deL_en (enL r.lo) (bitsOf r.sd.toNat 32 ++ bitsOf r.md.toNat 32) [] (enL_in _ r.lo (Nat.le_refl _) h3)
    simp only [List.append_nil, List.append_assoc, List.length_append, bitsOf_len, Nat.reduceAdd] at this
    unfold nkB
    rw [this]
    exact tell_all _ r.lo (Nat.le_refl _) h3
  have he : decE (packS (nkB r)) = 0 := by
    unfold decE
    rw [hl, hz, if_neg (by omega), if_neg (by omega), if_neg (by omega), if_neg (by omega), if_pos h]
  refine ⟨he, ?_⟩
  unfold decR
  rw [if_pos he, hl]
  have g1 : gv (packS (nkB r)) 0 32 = r.sd.toNat := by
    have := val_mid [] (bitsOf r.md.toNat 32 ++ enB (enL r.lo)) r.sd.toNat 32
    rw [gv_pack]
    unfold nkB
    simp only [List.nil_append, List.length_nil] at this
    rw [this]; omega
  have g2 : gv (packS (nkB r)) 32 32 = r.md.toNat := by
    have := val_mid (bitsOf r.sd.toNat 32) (enB (enL r.lo)) r.md.toNat 32
    rw [gv_pack]
    unfold nkB
    simp only [bitsOf_len] at this
    rw [this]; omega
  rw [g1, g2, Int.toNat_of_nonneg s0, Int.toNat_of_nonneg t0]
/-! ### No list has fewer entries -/
theorem tkN_base (x y : Int) (h0 : (y - x) % 65536 < 32768) (t : List Int) : ∀ la, (y - x) % 65536 ≤ (la - x) % 65536 → Up x la t → tkN x t ≤ tkN y t := by
  induction t with
  | nil => intro la _ _; exact Nat.le_refl _
  | cons v t ih =>
    intro la hl h
    obtain ⟨⟨h1, h2, h3, h4⟩, h5⟩ := h
    unfold tkN
    by_cases hv : (v - x) % 65536 ≤ 16
    · rw [if_pos hv, if_pos (by omega)]
      have := ih v (by omega) h5
      omega
    · rw [if_neg hv]; exact Nat.zero_le _
theorem enL_drop (n : Nat) : ∀ l : List Int, l.length ≤ n → Ri l → ∀ j, (enL (l.drop j)).length ≤ (enL l).length := by
  induction n with
  | zero =>
    intro l h _ j
    obtain rfl := List.eq_nil_of_length_eq_zero (by omega : l.length = 0)
    simp
  | succ n ih =>
    intro l h hr j
    cases l with
    | nil => simp
    | cons x t =>
      cases j with
      | zero => exact Nat.le_refl _
      | succ j =>
        have hrt : Ri t := ri_drop (x :: t) hr 1
        refine Nat.le_trans (ih t (by simp at h; omega) hrt j) ?_
        cases t with
        | nil => simp [enL_nil]
        | cons y t =>
          have hu := hr.2.2
          obtain ⟨⟨h0, h1, h2, h3⟩, h4⟩ := hu
          rw [enL_cons x, enL_cons y]
          by_cases hv : (y - x) % 65536 ≤ 16
          · have e1 : tkN x (y :: t) = tkN x t + 1 := by rw [tkN, if_pos hv]
            rw [e1, List.drop_succ_cons]
            have hle := tkN_base x y h3 t y (Int.le_refl _) h4
            have e2 : t.drop (tkN y t) = (t.drop (tkN x t)).drop (tkN y t - tkN x t) := by rw [List.drop_drop]; congr 1; omega
            rw [e2]
            have := ih (t.drop (tkN x t)) (by simp at h ⊢; omega) (ri_of x (y :: t) hr.2.2 (tkN x t + 1)) (tkN y t - tkN x t)
            simp only [List.length_cons]; omega
          · have e1 : tkN x (y :: t) = 0 := by rw [tkN, if_neg hv]
            rw [e1, List.drop_zero, enL_cons y]
            simp only [List.length_cons]; omega
theorem tkN_app (x : Int) (m n : Nat) (R : List Int) : ∀ i, i + n = 16 → (tl x m i n).length ≤ tkN x (tl x m i n ++ R) := by
  induction n with
  | zero => intro i _; exact Nat.zero_le _
  | succ n ih =>
    intro i hi
    have := ih (i + 1) (by omega)
    unfold tl
    split
    · simp only [List.cons_append, List.nil_append, List.length_cons, tkN]
      rw [if_pos (by omega)]; omega
    · simpa using this
theorem enL_min (s : ByteArray) (n : Nat) : ∀ p, Ri (deL s p n) → (enL (deL s p n)).length ≤ n := by
  induction n with
  | zero => intro p _; exact Nat.le_refl _
  | succ n ih =>
    intro p h
    unfold deL at h ⊢
    obtain ⟨x, hx⟩ : ∃ x, (gv s p 16 : Int) = x := ⟨_, rfl⟩
    obtain ⟨T, hT⟩ : ∃ T, tl (gv s p 16 : Int) (gv s (p + 16) 16) 0 16 = T := ⟨_, rfl⟩
    have hk := tkN_app x (gv s (p + 16) 16) 16 (deL s (p + 32) n) 0 rfl
    rw [← hx, hT, hx] at hk
    rw [hT, hx] at h ⊢
    have hR : Ri (deL s (p + 32) n) := by
      have := ri_of x _ h.2.2 T.length
      rwa [List.drop_left] at this
    rw [enL_cons]
    have e : (T ++ deL s (p + 32) n).drop (tkN x (T ++ deL s (p + 32) n)) = (deL s (p + 32) n).drop (tkN x (T ++ deL s (p + 32) n) - T.length) := by
      rw [List.drop_append, List.drop_of_length_le hk, List.nil_append]
    rw [e]
    have h1 := enL_drop _ _ (Nat.le_refl _) hR (tkN x (T ++ deL s (p + 32) n) - T.length)
    have h2 := ih (p + 32) hR
    simp only [List.length_cons]; omega
theorem decE_yes {s : ByteArray} (h : decE s = 0) : s.size ≤ 65536 ∧ s.size % 4 = 0 ∧ 12 ≤ s.size ∧ isL (lost s) = true ∧ decR s = ⟨gv s 0 32, gv s 32 32, lost s⟩ := by
  have h' := h
  unfold decE at h'
  split at h'
  · omega
  · split at h'
    · omega
    · split at h'
      · omega
      · split at h'
        · omega
        · split at h'
          · refine ⟨by omega, by omega, by omega, by assumption, ?_⟩
            unfold decR; rw [if_pos h]
          · omega
/-- What was decoded is encoded to no more bytes. -/
theorem back_short {s : ByteArray} (h : decE s = 0) : (packS (nkB (decR s))).size ≤ s.size := by
  obtain ⟨h1, h2, h3, h4, h5⟩ := decE_yes h
  rw [enc_size, h5]
  have := enL_min s (s.size / 4 - 2) 64 ((isL_iff _).1 h4).2.2
  show 8 + 4 * (enL (lost s)).length ≤ s.size
  unfold lost
  omega
/-! ### One mask -/
theorem tl_up (x : Int) (m n : Nat) : ∀ (i : Nat) (la : Int), i + n = 16 → (la - x) % 65536 ≤ i → Up x la (tl x m i n) := by
  induction n with
  | zero => intro i la _ _; trivial
  | succ n ih =>
    intro i la hi hl
    unfold tl
    split
    · exact ⟨⟨by omega, by omega, by omega, by omega⟩, ih (i + 1) _ (by omega) (by omega)⟩
    · exact ih (i + 1) la (by omega) (by omega)
theorem tl_tkN (x : Int) (m n : Nat) (i : Nat) (h : i + n = 16) : tkN x (tl x m i n) = (tl x m i n).length := by
  have h1 := tkN_app x m n [] i h
  rw [List.append_nil] at h1
  have h2 := tkN_le x (tl x m i n)
  omega
theorem tl_msk (x : Int) (M n : Nat) : ∀ i, i + n = 16 → msk x (M % 2 ^ i) (tl x M i n) = M % 2 ^ 16 := by
  induction n with
  | zero =>
    intro i hi
    obtain rfl : i = 16 := by omega
    rfl
  | succ n ih =>
    intro i hi
    have e0 : M % 2 ^ (i + 1) = M % 2 ^ i + 2 ^ i * (M / 2 ^ i % 2) := by rw [Nat.pow_succ, Nat.mod_mul]
    unfold tl
    split
    · rename_i hb
      simp only [List.cons_append, List.nil_append, msk]
      have e1 : ((x + (i : Int) + 1) % 65536 - x) % 65536 = i + 1 := by omega
      rw [e1, if_pos (by omega)]
      have e2 : ((i : Int) + 1 - 1).toNat = i := by omega
      rw [e2]
      have e3 : M % 2 ^ i ||| 2 ^ i = M % 2 ^ (i + 1) := by
        have := or_add 1 (M % 2 ^ i) i (Nat.mod_lt _ (Nat.two_pow_pos _))
        rw [Nat.one_mul] at this
        rw [Nat.or_comm, this, e0, hb]; omega
      rw [e3]
      exact ih (i + 1) (by omega)
    · rename_i hb
      have hb0 : M / 2 ^ i % 2 = 0 := by omega
      rw [List.nil_append]
      have := ih (i + 1) (by omega)
      rwa [e0, hb0, Nat.mul_zero, Nat.add_zero] at this
theorem tl_isL (x : Int) (x0 : 0 ≤ x) (x1 : x < 65536) (M : Nat) : isL (x :: tl x M 0 16) = true := by
  have := tl_len x M 16 0
  refine (isL_iff _).2 ⟨by simp, by simp; omega, x0, x1, tl_up x M 16 0 x rfl (by omega)⟩
theorem tl_enL (x : Int) (M : Nat) (hM : M < 65536) : enL (x :: tl x M 0 16) = [(x, M)] := by
  rw [enL_cons, tl_tkN x M 16 0 rfl, List.drop_length, enL_nil]
  have := tl_msk x M 16 0 rfl
  rw [Nat.pow_zero, Nat.mod_one] at this
  rw [this, Nat.mod_eq_of_lt (by omega)]
/-! ### Numbers that stand together -/
def cq : Nat → Int → List Int
  | 0, _ => []
  | n + 1, x => x % 65536 :: cq n (x + 1)
@[simp] theorem cq_len (n : Nat) : ∀ x, (cq n x).length = n := by
  induction n with
  | zero => intro x; rfl
  | succ n ih => intro x; simp [cq, ih]
theorem cq_app (n : Nat) : ∀ x, cq (n + 1) x = cq n x ++ [(x + n) % 65536] := by
  induction n with
  | zero => intro x; simp [cq]
  | succ n ih =>
    intro x
    rw [cq, ih (x + 1)]
    conv => rhs; rw [cq]
    rw [List.cons_append, show x + 1 + (n : Int) = x + ((n + 1 : Nat) : Int) by omega]
theorem cq_drop (k : Nat) : ∀ n x, (cq n x).drop k = cq (n - k) (x + k) := by
  induction k with
  | zero => intro n x; simp
  | succ k ih =>
    intro n x
    cases n with
    | zero => simp [cq]
    | succ n =>
      rw [cq, List.drop_succ_cons, ih n (x + 1), show n + 1 - (k + 1) = n - k by omega, show x + 1 + (k : Int) = x + ((k + 1 : Nat) : Int) by omega]
theorem cq_tkN (x : Int) (n : Nat) : ∀ y, (y - x) % 65536 = y - x → 1 ≤ y - x → y - x ≤ 17 → (tkN x (cq n y) : Int) = min (17 - (y - x)) n := by
  induction n with
  | zero => intro y _ _ h; simp [cq, tkN]; omega
  | succ n ih =>
    intro y hy h1 h2
    rw [cq, tkN]
    by_cases h : y - x ≤ 16
    · rw [if_pos (by omega)]
      have := ih (y + 1) (by omega) (by omega) (by omega)
      omega
    · rw [if_neg (by omega)]; omega
theorem tkN_mod (x : Int) (t : List Int) : tkN (x % 65536) t = tkN x t := by
  induction t with
  | nil => rfl
  | cons v t ih => simp only [tkN, ih, show (v - x % 65536) % 65536 = (v - x) % 65536 by omega]
theorem cq_enL (m : Nat) : ∀ n x, n ≤ m → (enL (cq n x)).length = (n + 16) / 17 := by
  induction m with
  | zero =>
    intro n x h
    obtain rfl : n = 0 := by omega
    rfl
  | succ m ih =>
    intro n x h
    cases n with
    | zero => rfl
    | succ n =>
      rw [cq, enL_cons, tkN_mod]
      have h1 := cq_tkN x n (x + 1) (by omega) (by omega) (by omega)
      obtain ⟨k, hk⟩ : ∃ k, tkN x (cq n (x + 1)) = k := ⟨_, rfl⟩
      rw [hk] at h1 ⊢
      rw [cq_drop, List.length_cons, ih _ _ (by omega)]
      omega
theorem cq_up (f : Int) (n : Nat) : ∀ y la, (y - f) % 65536 = (la - f) % 65536 + 1 → (y - f) % 65536 + n ≤ 32768 → Up f la (cq n y) := by
  induction n with
  | zero => intro y la _ _; trivial
  | succ n ih =>
    intro y la h1 h2
    exact ⟨⟨by omega, by omega, by omega, by omega⟩, ih (y + 1) (y % 65536) (by omega) (by omega)⟩
theorem cq_isL (n : Nat) (x : Int) (h1 : 1 ≤ n) (h2 : n ≤ 4096) : isL (cq n x) = true := by
  refine (isL_iff _).2 ⟨by simp; omega, by simp; omega, ?_⟩
  cases n with
  | zero => omega
  | succ n => exact ⟨by omega, by omega, cq_up (x % 65536) n (x + 1) (x % 65536) (by omega) (by omega)⟩
end Go.Proofs.Ytmnpghelglohlaa
