/-
  What Decode reads of a header's bits: the header, or that bytes lack.
-/
import Derived.Test.YtdajcgicpfpeoaaRtU
namespace Go.Proofs.Ytdajcgicpfpeoaa

/-- The first k extensions as they are read. -/
def exl (I : Nat → Int) (D : Nat → ByteArray) (k : Nat) : Ex := (List.range k).map fun i => ((I i).toNat, D i)
theorem exl_next (I : Nat → Int) (D : Nat → ByteArray) (k : Nat) : exl I D (k + 1) = exl I D k ++ [((I k).toNat, D k)] := by simp [exl, List.range_succ]
theorem xrun_pad (s : ByteArray) (a pend : Nat) (acc : Ex) (hz : ∀ p, a ≤ p → p + 8 ≤ pend → p + 8 ≤ 8 * s.size → gv s p 4 = 0 ∧ gv s (p + 4) 4 = 0) (left : Nat) :
    ∀ f p, a ≤ p → p + 8 * left = pend → left < f → p ≤ 8 * s.size → xrun s f p left acc = if pend ≤ 8 * s.size then (0, acc) else (60, []) := by
  induction left with
  | zero =>
    intro f p ha hp hf hs
    obtain ⟨f, rfl⟩ : ∃ g, f = g + 1 := ⟨f - 1, by omega⟩
    rw [xrun, if_pos rfl, if_pos (by omega)]
  | succ left ih =>
    intro f p ha hp hf hs
    obtain ⟨f, rfl⟩ : ∃ g, f = g + 1 := ⟨f - 1, by omega⟩
    rw [xrun, if_neg (by omega)]
    by_cases h8 : p + 8 ≤ 8 * s.size
    · rw [if_neg (fun h => h h8), if_pos (hz p ha (by omega) h8)]
      exact ih f (p + 8) (by omega) (by omega) (by omega) h8
    · rw [if_pos h8, if_neg (by omega)]
theorem fresh_exl {I : Nat → Int} {D : Nat → ByteArray} {n k : Nat} (h : ExtOk I D n) (hk : k < n) : fresh (exl I D k) (I k).toNat := by
  obtain ⟨⟨h1, h2⟩, _, h3⟩ := h k hk
  refine ⟨⟨by omega, by omega⟩, fun x hx => ?_⟩
  simp only [exl, List.mem_map, List.mem_range] at hx
  obtain ⟨i, hi, rfl⟩ := hx
  have := h3 i hi
  have := (h i (by omega)).1
  simp only
  omega
theorem xlen_mono (D : Nat → ByteArray) (k n : Nat) (h : k ≤ n) : xlen D k ≤ xlen D n := by
  induction n with
  | zero => have : k = 0 := by omega
            subst this; exact Nat.le_refl _
  | succ n ih =>
    by_cases e : k = n + 1
    · subst e; exact Nat.le_refl _
    · have := ih (by omega); simp only [xlen]; omega
theorem xrun_enc (s : ByteArray) (P ne : Nat) (I : Nat → Int) (D : Nat → ByteArray) (hok : ExtOk I D ne)
    (hI : ∀ k, k < ne → P + 8 * xlen D k + 8 ≤ 8 * s.size → gv s (P + 8 * xlen D k) 4 = (I k).toNat ∧ gv s (P + 8 * xlen D k + 4) 4 = (D k).size - 1)
    (hD : ∀ k, k < ne → P + 8 * xlen D k + 8 + 8 * (D k).size ≤ 8 * s.size → txS s (P + 8 * xlen D k + 8) (D k).size = D k)
    (hz : ∀ p, P + 8 * xlen D ne ≤ p → p + 8 ≤ P + 8 * roomX D ne → p + 8 ≤ 8 * s.size → gv s p 4 = 0 ∧ gv s (p + 4) 4 = 0) (d : Nat) :
    ∀ k f, k + d = ne → roomX D ne - xlen D k < f → P + 8 * xlen D k ≤ 8 * s.size →
      xrun s f (P + 8 * xlen D k) (roomX D ne - xlen D k) (exl I D k) = if P + 8 * roomX D ne ≤ 8 * s.size then (0, exl I D ne) else (60, []) := by
  have hroom : xlen D ne ≤ roomX D ne := by unfold roomX; omega
  induction d with
  | zero =>
    intro k f hk hf hs
    obtain rfl : k = ne := by omega
    exact xrun_pad s _ _ _ hz _ f _ (Nat.le_refl _) (by omega) hf hs
  | succ d ih =>
    intro k f hk hf hs
    have hlt : k < ne := by omega
    obtain ⟨f, rfl⟩ : ∃ g, f = g + 1 := ⟨f - 1, by omega⟩
    obtain ⟨⟨i1, i2⟩, ⟨z1, z2⟩, _⟩ := hok k hlt
    have hm := xlen_mono D (k + 1) ne (by omega)
    have hx : xlen D (k + 1) = xlen D k + (1 + (D k).size) := rfl
    rw [xrun, if_neg (by omega)]
    by_cases h8 : P + 8 * xlen D k + 8 ≤ 8 * s.size
    · obtain ⟨g1, g2⟩ := hI k hlt h8
      rw [if_neg (fun h => h h8), g1, g2, if_neg (by omega), Nat.sub_add_cancel z1]
      rw [if_neg (by
        rintro (h | h)
        · omega
        · exact h (fresh_exl hok hlt))]
      by_cases h9 : P + 8 * xlen D k + 8 + 8 * (D k).size ≤ 8 * s.size
      · rw [if_neg (fun h => h h9), hD k hlt h9, ← exl_next]
        have e1 : P + 8 * xlen D k + 8 + 8 * (D k).size = P + 8 * xlen D (k + 1) := by omega
        have e2 : roomX D ne - xlen D k - 1 - (D k).size = roomX D ne - xlen D (k + 1) := by omega
        rw [e1, e2]
        exact ih (k + 1) f (by omega) (by omega) (by omega)
      · rw [if_pos h9, if_neg (by omega)]
    · rw [if_pos h8, if_neg (by omega)]
/-- A good header, its parts in numbers. -/
structure GoodH (ty sq tm ss : Int) (ns : Nat) (S : Nat → Int) (ne : Nat) (I : Nat → Int) (D : Nat → ByteArray) : Prop where
  y0 : 0 ≤ ty
  y1 : ty ≤ 127
  q0 : 0 ≤ sq
  q1 : sq ≤ 65535
  t0 : 0 ≤ tm
  t1 : tm < 4294967296
  s0 : 0 ≤ ss
  s1 : ss < 4294967296
  hs : ∀ i, i < ns → 0 ≤ S i ∧ S i < 4294967296
  hns : ns ≤ 15
  hne : ne ≤ 14
  hok : ExtOk I D ne
/-- What stands in the fields of a text that has them all. -/
theorem fields_of {mk : Bool} {ty sq tm ss : Int} {ns : Nat} {ne : Nat} {s : ByteArray} {T L : List Bool} (hL : L = fixB mk ty sq tm ss ns ne ++ T) (hp : Pre s L) (h8 : 8 ≤ 8 * s.size) (y0 : 0 ≤ ty) (y1 : ty ≤ 127) (q0 : 0 ≤ sq) (q1 : sq ≤ 65535)
    (t0 : 0 ≤ tm) (t1 : tm < 4294967296) (s0 : 0 ≤ ss) (s1 : ss < 4294967296) (hns : ns ≤ 15) :
    (gv s 0 3 = 4 ∧ gv s 3 1 = (b01 (decide (0 < ne))).toNat ∧ gv s 4 4 = ns) ∧ (96 ≤ 8 * s.size → gv s 8 1 = (b01 mk).toNat ∧ gv s 9 7 = ty.toNat ∧ gv s 16 16 = sq.toNat ∧ gv s 32 32 = tm.toNat ∧ gv s 64 32 = ss.toNat) := by
  have hlen : L.length = 96 + T.length := by rw [hL]; simp
  have b1 : ∀ b, (b01 b).toNat % 2 ^ 1 = (b01 b).toNat := by intro b; cases b <;> rfl
  refine ⟨⟨?_, ?_, ?_⟩, fun h => ⟨?_, ?_, ?_, ?_, ?_⟩⟩
  · rw [hp 0 3 (by omega) (by omega), val_at (A := []) (c := 4) (k := 3) (p := 0) (R := bitsOf (b01 (decide (0 < ne))).toNat 1 ++ (bitsOf ns 4 ++ (bitsOf (b01 mk).toNat 1 ++ (bitsOf ty.toNat 7 ++ (bitsOf sq.toNat 16 ++ (bitsOf tm.toNat 32 ++ (bitsOf ss.toNat 32 ++ T))))))) (by rw [hL]; simp [fixB]) (by simp <;> omega)]
  · rw [hp 3 1 (by omega) (by omega), val_at (A := bitsOf 4 3) (c := (b01 (decide (0 < ne))).toNat) (R := bitsOf ns 4 ++ (bitsOf (b01 mk).toNat 1 ++ (bitsOf ty.toNat 7 ++ (bitsOf sq.toNat 16 ++ (bitsOf tm.toNat 32 ++ (bitsOf ss.toNat 32 ++ T)))))) (by rw [hL]; simp [fixB]) (by simp), b1]
  · rw [hp 4 4 (by omega) (by omega), val_at (A := bitsOf 4 3 ++ bitsOf (b01 (decide (0 < ne))).toNat 1) (c := ns) (R := bitsOf (b01 mk).toNat 1 ++ (bitsOf ty.toNat 7 ++ (bitsOf sq.toNat 16 ++ (bitsOf tm.toNat 32 ++ (bitsOf ss.toNat 32 ++ T))))) (by rw [hL]; simp [fixB]) (by simp <;> omega)]
    exact Nat.mod_eq_of_lt (by omega)
  · rw [hp 8 1 (by omega) (by omega), val_at (A := bitsOf 4 3 ++ bitsOf (b01 (decide (0 < ne))).toNat 1 ++ bitsOf ns 4) (c := (b01 mk).toNat) (R := bitsOf ty.toNat 7 ++ (bitsOf sq.toNat 16 ++ (bitsOf tm.toNat 32 ++ (bitsOf ss.toNat 32 ++ T)))) (by rw [hL]; simp [fixB]) (by simp), b1]
  · rw [hp 9 7 (by omega) (by omega), val_at (A := bitsOf 4 3 ++ bitsOf (b01 (decide (0 < ne))).toNat 1 ++ bitsOf ns 4 ++ bitsOf (b01 mk).toNat 1) (c := ty.toNat) (R := bitsOf sq.toNat 16 ++ (bitsOf tm.toNat 32 ++ (bitsOf ss.toNat 32 ++ T))) (by rw [hL]; simp [fixB]) (by simp <;> omega)]
    exact Nat.mod_eq_of_lt (by omega)
  · rw [hp 16 16 (by omega) (by omega), val_at (A := bitsOf 4 3 ++ bitsOf (b01 (decide (0 < ne))).toNat 1 ++ bitsOf ns 4 ++ bitsOf (b01 mk).toNat 1 ++ bitsOf ty.toNat 7) (c := sq.toNat) (R := bitsOf tm.toNat 32 ++ (bitsOf ss.toNat 32 ++ T)) (by rw [hL]; simp [fixB]) (by simp <;> omega)]
    exact Nat.mod_eq_of_lt (by omega)
  · rw [hp 32 32 (by omega) (by omega), val_at (A := bitsOf 4 3 ++ bitsOf (b01 (decide (0 < ne))).toNat 1 ++ bitsOf ns 4 ++ bitsOf (b01 mk).toNat 1 ++ bitsOf ty.toNat 7 ++ bitsOf sq.toNat 16) (c := tm.toNat) (R := bitsOf ss.toNat 32 ++ T) (by rw [hL]; simp [fixB]) (by simp <;> omega)]
    exact Nat.mod_eq_of_lt (by omega)
  · rw [hp 64 32 (by omega) (by omega), val_at (A := bitsOf 4 3 ++ bitsOf (b01 (decide (0 < ne))).toNat 1 ++ bitsOf ns 4 ++ bitsOf (b01 mk).toNat 1 ++ bitsOf ty.toNat 7 ++ bitsOf sq.toNat 16 ++ bitsOf tm.toNat 32) (c := ss.toNat) (R := T) (by rw [hL]; simp [fixB]) (by simp <;> omega)]
    exact Nat.mod_eq_of_lt (by omega)
/-- What is read of a text that begins with all bits of a header. -/
structure ReadH (mk : Bool) (ty sq tm ss : Int) (ns : Nat) (S : Nat → Int) (ne : Nat) (I : Nat → Int) (D : Nat → ByteArray) (s : ByteArray) (len : Nat) : Prop where
  e : decE s = 0
  p : decP s = len
  x : decX s = exl I D ne
  m : gw s 8 1 = (b01 mk).toNat
  ty : gw s 9 7 = ty.toNat
  sq : gw s 16 16 = sq.toNat
  tm : gw s 32 32 = tm.toNat
  ss : gw s 64 32 = ss.toNat
  n : gv s 4 4 = ns
  s : ∀ i, i < ns → gw s (96 + 32 * i) 32 = (S i).toNat
theorem dec_enc {mk : Bool} {ty sq tm ss : Int} {ns : Nat} {S : Nat → Int} {ne : Nat} {I : Nat → Int} {D : Nat → ByteArray} (g : GoodH ty sq tm ss ns S ne I D) (s : ByteArray) (L : List Bool) (hL : encL mk ty sq tm ss ns S ne I D = L) (hp : Pre s L) :
    (¬ L.length ≤ 8 * s.size → decE s = 60) ∧ (L.length ≤ 8 * s.size → ReadH mk ty sq tm ss ns S ne I D s L.length) := by
  have hlen := encL_len mk ty sq tm ss ns S ne I D g.hns g.hne g.hok
  rw [hL] at hlen
  obtain ⟨T, hT⟩ : ∃ T, L = fixB mk ty sq tm ss ns ne ++ (srcB S ns ++ T) := by
    by_cases h0 : ne = 0
    · subst h0; exact ⟨[], by rw [← hL, encL_0]; simp⟩
    · exact ⟨_, by rw [← hL, encL_x _ _ _ _ _ _ _ _ _ _ h0 g.hns g.hne g.hok, List.append_assoc]⟩
  have hl0 : 96 + 32 * ns ≤ L.length := by rw [hT]; simp <;> omega
  by_cases hz : s.size = 0
  · exact ⟨fun _ => by unfold decE; rw [if_pos hz], fun h => by omega⟩
  obtain ⟨⟨f0, f1, f2⟩, f3⟩ := fields_of hT hp (by omega) g.y0 g.y1 g.q0 g.q1 g.t0 g.t1 g.s0 g.s1 g.hns
  have hP : P0 s = 96 + 32 * ns := by unfold P0; rw [f2]
  have hE : decE s = headE s := by unfold decE; rw [if_neg hz, if_neg (by rw [f0]; simp)]
  have hsrc : 96 + 32 * ns ≤ 8 * s.size → ∀ i, i < ns → gw s (96 + 32 * i) 32 = (S i).toNat := by
    intro h i hi
    obtain ⟨r, hr⟩ := srcB_cut S ns i hi
    have := g.hs i hi
    rw [gw_in (by omega), hp _ _ (by omega) (by omega), val_at (A := fixB mk ty sq tm ss ns ne ++ srcB S i) (c := (S i).toNat) (R := r ++ T) (by rw [hT, hr]; simp) (by simp <;> omega)]
    exact Nat.mod_eq_of_lt (by omega)
  by_cases h0 : ne = 0
  · subst h0
    rw [if_pos rfl] at hlen
    have f1' : ¬ gv s 3 1 = 1 := by rw [f1]; decide
    refine ⟨fun h => ?_, fun h => ?_⟩
    · rw [hE]; unfold headE; rw [if_pos (by rw [hP]; omega)]
    · obtain ⟨k1, k2, k3, k4, k5⟩ := f3 (by omega)
      refine ⟨?_, ?_, ?_, ?_, ?_, ?_, ?_, ?_, f2, hsrc (by omega)⟩
      · rw [hE]; unfold headE; rw [if_neg (by rw [hP]; omega), if_neg f1']
      · unfold decP; rw [if_neg f1', hP, hlen]
      · unfold decX; rw [if_neg f1']; rfl
      · rw [gw_in (by omega), k1]
      · rw [gw_in (by omega), k2]
      · rw [gw_in (by omega), k3]
      · rw [gw_in (by omega), k4]
      · rw [gw_in (by omega), k5]
  · rw [if_neg h0] at hlen
    have hX := encL_x mk ty sq tm ss ns S ne I D h0 g.hns g.hne g.hok
    rw [hL] at hX
    have hx := xlen_le g.hok ne (Nat.le_refl _)
    have hne := g.hne
    have hroom : xlen D ne ≤ roomX D ne := by unfold roomX; omega
    have f1' : gv s 3 1 = 1 := by rw [f1, decide_eq_true (by omega)]; rfl
    have gA : 96 + 32 * ns + 8 ≤ 8 * s.size → gv s (96 + 32 * ns) 8 = 190 := fun h => by
      rw [hp _ _ (by omega) (by omega), val_at (A := fixB mk ty sq tm ss ns ne ++ srcB S ns) (c := 190) (k := 8) hX (by simp <;> omega)]
    have gB : 96 + 32 * ns + 16 ≤ 8 * s.size → gv s (96 + 32 * ns + 8) 8 = 222 := fun h => by
      rw [hp _ _ (by omega) (by omega), val_at (A := fixB mk ty sq tm ss ns ne ++ srcB S ns ++ bitsOf 190 8) (c := 222) (k := 8) (R := bitsOf ((xlen D ne + 3) / 4) 16 ++ (extB I D ne ++ bitsOf 0 (8 * (roomX D ne - xlen D ne)))) (by rw [hX]; simp) (by simp <;> omega)]
    have gC : 96 + 32 * ns + 32 ≤ 8 * s.size → gv s (96 + 32 * ns + 16) 16 = (xlen D ne + 3) / 4 := fun h => by
      rw [hp _ _ (by omega) (by omega), val_at (A := fixB mk ty sq tm ss ns ne ++ srcB S ns ++ bitsOf 190 8 ++ bitsOf 222 8) (c := (xlen D ne + 3) / 4) (k := 16) (R := extB I D ne ++ bitsOf 0 (8 * (roomX D ne - xlen D ne))) (by rw [hX]; simp) (by simp <;> omega)]
      exact Nat.mod_eq_of_lt (by omega)
    have hroomE : 96 + 32 * ns ≤ 8 * s.size → roomE s (96 + 32 * ns) = if 96 + 32 * ns + 32 ≤ 8 * s.size then 0 else 60 := by
      intro _
      unfold roomE expE
      by_cases c1 : 96 + 32 * ns + 8 ≤ 8 * s.size
      · rw [if_pos c1, gA c1, if_pos rfl, if_neg (by simp <;> omega)]
        by_cases c2 : 96 + 32 * ns + 16 ≤ 8 * s.size
        · rw [if_pos (show 96 + 32 * ns + 8 + 8 ≤ 8 * s.size by omega), gB c2, if_pos rfl, if_neg (by simp <;> omega)]
        · rw [if_neg (show ¬ 96 + 32 * ns + 8 + 8 ≤ 8 * s.size by omega), if_pos (by decide), if_neg (by omega)]
      · rw [if_neg c1, if_pos (by decide), if_neg (by omega)]
    have hrun : 96 + 32 * ns + 32 ≤ 8 * s.size → decR s = if L.length ≤ 8 * s.size then (0, exl I D ne) else (60, []) := by
      intro h32
      have hrn : roomN s = roomX D ne := by unfold roomN roomX; rw [hP, gC h32]
      unfold decR
      rw [hrn, hP, hlen]
      have hcut : ∀ k, k < ne → P0 s + 32 + 8 * xlen D (k + 1) ≤ L.length := fun k hk => by have := xlen_mono D (k + 1) ne (by omega); omega
      refine xrun_enc s (96 + 32 * ns + 32) ne I D g.hok ?_ ?_ ?_ ne 0 (roomX D ne + 1) (by omega) (by simp [xlen]) (by simpa [xlen] using h32)
      · intro k hk h
        obtain ⟨r, hr⟩ := extB_cut I D ne k hk
        have := hcut k hk
        obtain ⟨⟨i1, i2⟩, ⟨z1, z2⟩, _⟩ := g.hok k hk
        have hxk : xlen D (k + 1) = xlen D k + (1 + (D k).size) := rfl
        refine ⟨?_, ?_⟩
        · rw [hp _ _ (by omega) (by omega), val_at (A := fixB mk ty sq tm ss ns ne ++ srcB S ns ++ bitsOf 190 8 ++ bitsOf 222 8 ++ bitsOf ((xlen D ne + 3) / 4) 16 ++ extB I D k) (c := (I k).toNat) (k := 4) (R := bitsOf ((D k).size - 1) 4 ++ (txtB (D k) (D k).size ++ (r ++ bitsOf 0 (8 * (roomX D ne - xlen D ne))))) (by rw [hX, hr]; simp) (by simp <;> omega)]
          exact Nat.mod_eq_of_lt (by omega)
        · rw [hp _ _ (by omega) (by omega), val_at (A := fixB mk ty sq tm ss ns ne ++ srcB S ns ++ bitsOf 190 8 ++ bitsOf 222 8 ++ bitsOf ((xlen D ne + 3) / 4) 16 ++ extB I D k ++ bitsOf (I k).toNat 4) (c := (D k).size - 1) (k := 4) (R := txtB (D k) (D k).size ++ (r ++ bitsOf 0 (8 * (roomX D ne - xlen D ne)))) (by rw [hX, hr]; simp) (by simp <;> omega)]
          exact Nat.mod_eq_of_lt (by omega)
      · intro k hk h
        obtain ⟨r, hr⟩ := extB_cut I D ne k hk
        have := hcut k hk
        have hxk : xlen D (k + 1) = xlen D k + (1 + (D k).size) := rfl
        rw [← bytes_back (D k)]
        unfold txS
        congr 2
        have hsz : (⟨((List.range (D k).size).map fun i => UInt8.ofNat (byt (D k) i)).toArray⟩ : ByteArray).size = (D k).size := by rw [bytes_back]
        rw [hsz]
        apply List.map_congr_left
        intro i hi
        have hi' : i < (D k).size := by simpa using hi
        obtain ⟨r2, hr2⟩ := txtB_cut (D k) (D k).size i hi'
        rw [gw_in (by omega), hp _ _ (by omega) (by omega), val_at (A := fixB mk ty sq tm ss ns ne ++ srcB S ns ++ bitsOf 190 8 ++ bitsOf 222 8 ++ bitsOf ((xlen D ne + 3) / 4) 16 ++ extB I D k ++ bitsOf (I k).toNat 4 ++ bitsOf ((D k).size - 1) 4 ++ txtB (D k) i) (c := byt (D k) i) (k := 8) (R := r2 ++ (r ++ bitsOf 0 (8 * (roomX D ne - xlen D ne)))) (by rw [hX, hr, hr2]; simp) (by simp <;> omega)]
        rw [Nat.mod_eq_of_lt (by have := byt_lt (D k) i; omega)]
      · intro p h1 h2 h3
        refine ⟨?_, ?_⟩
        · rw [hp _ _ (by omega) (by omega), val_at (A := fixB mk ty sq tm ss ns ne ++ srcB S ns ++ bitsOf 190 8 ++ bitsOf 222 8 ++ bitsOf ((xlen D ne + 3) / 4) 16 ++ extB I D ne ++ bitsOf 0 (p - (96 + 32 * ns + 32 + 8 * xlen D ne))) (c := 0) (k := 4) (R := bitsOf 0 (8 * (roomX D ne - xlen D ne) - (p - (96 + 32 * ns + 32 + 8 * xlen D ne)) - 4)) (by rw [hX, zero_cut (8 * (roomX D ne - xlen D ne)) (p - (96 + 32 * ns + 32 + 8 * xlen D ne)) (by omega)]; simp) (by simp <;> omega)]
        · rw [hp _ _ (by omega) (by omega), val_at (A := fixB mk ty sq tm ss ns ne ++ srcB S ns ++ bitsOf 190 8 ++ bitsOf 222 8 ++ bitsOf ((xlen D ne + 3) / 4) 16 ++ extB I D ne ++ bitsOf 0 (p + 4 - (96 + 32 * ns + 32 + 8 * xlen D ne))) (c := 0) (k := 4) (R := bitsOf 0 (8 * (roomX D ne - xlen D ne) - (p + 4 - (96 + 32 * ns + 32 + 8 * xlen D ne)) - 4)) (by rw [hX, zero_cut (8 * (roomX D ne - xlen D ne)) (p + 4 - (96 + 32 * ns + 32 + 8 * xlen D ne)) (by omega)]; simp) (by simp <;> omega)]
    refine ⟨fun h => ?_, fun h => ?_⟩
    · rw [hE]
      unfold headE
      by_cases c0 : 96 + 32 * ns ≤ 8 * s.size
      · rw [if_neg (by rw [hP]; omega), if_pos f1', hP, hroomE c0]
        by_cases c1 : 96 + 32 * ns + 32 ≤ 8 * s.size
        · rw [if_pos c1, if_neg (by simp), hrun c1, if_neg h]
        · rw [if_neg c1, if_pos (by decide)]
      · rw [if_pos (by rw [hP]; exact c0)]
    · obtain ⟨k1, k2, k3, k4, k5⟩ := f3 (by omega)
      have c1 : 96 + 32 * ns + 32 ≤ 8 * s.size := by omega
      have hrn : roomN s = roomX D ne := by unfold roomN roomX; rw [hP, gC c1]
      have hr := hrun c1
      rw [if_pos h] at hr
      refine ⟨?_, ?_, ?_, ?_, ?_, ?_, ?_, ?_, f2, hsrc (by omega)⟩
      · rw [hE]; unfold headE; rw [if_neg (by rw [hP]; omega), if_pos f1', hP, hroomE (by omega), if_pos c1, if_neg (by simp), hr]
      · unfold decP; rw [if_pos f1', hP, hrn, hlen]
      · unfold decX; rw [if_pos f1', hr]
      · rw [gw_in (by omega), k1]
      · rw [gw_in (by omega), k2]
      · rw [gw_in (by omega), k3]
      · rw [gw_in (by omega), k4]
      · rw [gw_in (by omega), k5]
end Go.Proofs.Ytdajcgicpfpeoaa
