/-
  What the functions that read parts of a header hand back.
-/
import Derived.Test.YtdajcgicpfpeoaaRtM
namespace Go.Proofs.Ytdajcgicpfpeoaa
open Go.RowKit

/-- A reader that was asked for so many bits from the beginning on: at that place, or bad. -/
def At (s : ByteArray) (p : Nat) : Option Nat := if p ≤ 8 * s.size then some p else none
/-- What Get answers there. -/
def gw (s : ByteArray) (p n : Nat) : Nat := if p + n ≤ 8 * s.size then gv s p n else 0
theorem gw_in {s : ByteArray} {p n : Nat} (h : p + n ≤ 8 * s.size) : gw s p n = gv s p n := if_pos h
theorem gw_lt (s : ByteArray) (p n : Nat) : gw s p n < 2 ^ n := by
  unfold gw
  split
  · exact gv_lt s p n
  · exact Nat.two_pow_pos n
theorem get_at (b : Nat) (s : ByteArray) (hs : s.size ≤ 1000000) (p : Nat) (n : Int) (m : Nat) (e : n = m) (hm : m ≤ 32) (w : World) (h : Rd 78 w b s (At s p)) :
    Calls Try.prog 41 #[.pointer (some ⟨b, 0, none⟩), .int .i64 n] w fun e w' => e = .returned (.int .u32 (gw s p m : Int)) ∧ Rd 78 w' b s (At s (p + m)) ∧ Apart (· = b) w w' := by
  subst e
  have := get_any b s hs _ m w h
  have e1 : gval s (At s p) m = (gw s p m : Int) := by
    unfold At gw
    by_cases h1 : p ≤ 8 * s.size
    · rw [if_pos h1]
      simp only [gval]
      by_cases h2 : p + m ≤ 8 * s.size
      · rw [if_pos (by omega), if_pos h2]; rfl
      · rw [if_neg (by omega), if_neg h2]; rfl
    · rw [if_neg h1, if_neg (by omega)]; rfl
  have e2 : gnext s (At s p) m = At s (p + m) := by
    unfold At
    by_cases h1 : p ≤ 8 * s.size
    · rw [if_pos h1]
      simp only [gnext]
      by_cases h2 : p + m ≤ 8 * s.size
      · rw [if_pos (by omega), if_pos h2]; rfl
      · rw [if_neg (by omega), if_neg h2]
    · rw [if_neg h1, if_neg (by omega)]; rfl
  rw [e1, e2] at this
  exact this
/-- Is it bad there? -/
def badB (s : ByteArray) (p : Nat) : Bool := decide (8 * s.size < p)
theorem badB_no {s : ByteArray} {p : Nat} (h : p ≤ 8 * s.size) : badB s p = false := by simp [badB]; omega
theorem badB_yes {s : ByteArray} {p : Nat} (h : ¬ p ≤ 8 * s.size) : badB s p = true := by simp [badB]; omega
theorem bad_at (b : Nat) (s : ByteArray) (p : Nat) (w : World) (h : Rd 78 w b s (At s p)) :
    Calls Try.prog 42 #[.pointer (some ⟨b, 0, none⟩)] w fun e w' => e = .returned (.bool (badB s p)) ∧ w' = w := by
  have := bad_any b s _ w h
  have e : gbad (At s p) = badB s p := by
    unfold At
    by_cases h1 : p ≤ 8 * s.size
    · rw [if_pos h1, badB_no h1]; rfl
    · rw [if_neg h1, badB_yes h1]; rfl
  rw [e] at this
  exact this

/-- What expect answers. -/
def expE (s : ByteArray) (p c : Nat) : Int := if p + 8 ≤ 8 * s.size then (if gv s p 8 = c then 0 else 71) else 60
theorem expect_any (b : Nat) (s : ByteArray) (hs : s.size ≤ 1000000) (p c : Nat) (w : World) (h : Rd 78 w b s (At s p)) :
    Calls Try.prog 50 #[.pointer (some ⟨b, 0, none⟩), .int .u32 (c : Int)] w fun e w' => e = .returned (.int .i64 (expE s p c)) ∧ Rd 78 w' b s (At s (p + 8)) ∧ Apart (· = b) w w' := by
  have H := mkHid h
  clear h
  unfold expE
  by_cases h1 : p + 8 ≤ 8 * s.size
  · have hb := badB_no h1
    have HG := mkHid (gw_in h1)
    have HB := mkHid hb
    clear hb
    rw [if_pos h1]
    by_cases h2 : gv s p 8 = c
    · rw [if_pos h2]
      have H2 := mkHid h2
      clear h2
      go_enter Try.func50, Try.ntmps50
      go_wp2_with fail
      refine (get_at b s hs p _ 8 rfl (by omega) _ H.out).mono ?_
      rw [HG.out, H2.out]
      rintro e w1 ⟨rfl, h1, p1⟩
      have H1 := mkHid h1
      have P1 := mkHid p1
      clear h1 p1
      go_wp2_with fail
      refine (bad_at b s _ _ H1.out).mono ?_
      rw [HB.out]
      rintro e w2 ⟨rfl, rfl⟩
      go_wp2
      go_ret
      exact ⟨rfl, H1.out, P1.out⟩
    · rw [if_neg h2]
      generalize gv s p 8 = g at *
      have h2' : ¬ (g : Int) = c := by omega
      go_enter Try.func50, Try.ntmps50
      go_wp2_with fail
      refine (get_at b s hs p _ 8 rfl (by omega) _ H.out).mono ?_
      rw [HG.out]
      rintro e w1 ⟨rfl, h1, p1⟩
      have H1 := mkHid h1
      have P1 := mkHid p1
      clear h1 p1
      go_wp2_with fail
      refine (bad_at b s _ _ H1.out).mono ?_
      rw [HB.out]
      rintro e w2 ⟨rfl, rfl⟩
      go_wp2
      go_ret
      exact ⟨rfl, H1.out, P1.out⟩
  · have HB := mkHid (badB_yes h1)
    rw [if_neg h1]
    go_enter Try.func50, Try.ntmps50
    go_wp2_with fail
    refine (get_at b s hs p _ 8 rfl (by omega) _ H.out).mono ?_
    generalize gw s p 8 = g
    rintro e w1 ⟨rfl, h1, p1⟩
    have H1 := mkHid h1
    have P1 := mkHid p1
    clear h1 p1
    go_wp2_with fail
    refine (bad_at b s _ _ H1.out).mono ?_
    rw [HB.out]
    rintro e w2 ⟨rfl, rfl⟩
    go_wp2
    go_ret
    exact ⟨rfl, H1.out, P1.out⟩
/-- What getRoom answers: the error. -/
def roomE (s : ByteArray) (p : Nat) : Int := if expE s p 190 ≠ 0 then expE s p 190 else if expE s (p + 8) 222 ≠ 0 then expE s (p + 8) 222 else if p + 32 ≤ 8 * s.size then 0 else 60
theorem room_bad (b : Nat) (s : ByteArray) (hs : s.size ≤ 1000000) (p : Nat) (hr : roomE s p ≠ 0) (w : World) (h : Rd 78 w b s (At s p)) :
    Calls Try.prog 48 #[.pointer (some ⟨b, 0, none⟩)] w fun e w' => e = .returned (.tuple #[.int .i64 0, .int .i64 (roomE s p)]) ∧ Apart (· = b) w w' := by
  have H := mkHid h
  clear h
  unfold roomE at hr ⊢
  have X1 := mkHid (expect_any b s hs p 190 w H.out)
  have X2 := mkHid (fun w h => expect_any b s hs (p + 8) 222 w h)
  generalize expE s p 190 = e1 at *
  generalize expE s (p + 8) 222 = e2 at *
  by_cases h1 : e1 = 0
  · subst h1
    by_cases h2 : e2 = 0
    · subst h2
      have h3 : ¬ p + 32 ≤ 8 * s.size := by intro h3; rw [if_neg (by simp), if_neg (by simp), if_pos h3] at hr; exact hr rfl
      rw [if_neg (by simp), if_neg (by simp), if_neg h3]
      have HB := mkHid (badB_yes h3)
      clear hr
      go_enter Try.func48, Try.ntmps48
      go_wp2_with fail
      refine (X1.out).mono ?_
      rintro e w1 ⟨rfl, h1, p1⟩
      have H1 := mkHid h1
      have P1 := mkHid p1
      clear h1 p1
      go_wp2_with fail
      refine (X2.out _ H1.out).mono ?_
      rintro e w2 ⟨rfl, h2, p2⟩
      have H2 := mkHid h2
      have P2 := mkHid (P1.out.trans p2 (fun _ _ h => h))
      clear h2 p2
      go_wp2_with fail
      refine (get_at b s hs _ _ 16 rfl (by omega) _ H2.out).mono ?_
      have hg := gw_lt s (p + 8 + 8) 16
      generalize gw s (p + 8 + 8) 16 = g at hg ⊢
      rintro e w3 ⟨rfl, h3, p3⟩
      have H3 := mkHid h3
      have P3 := mkHid (P2.out.trans p3 (fun _ _ h => h))
      clear h3 p3
      go_wp2_with fail
      refine (bad_at b s _ _ H3.out).mono ?_
      rw [show p + 8 + 8 + 16 = p + 32 from by omega, HB.out]
      rintro e w4 ⟨rfl, rfl⟩
      go_wp2
      go_ret2
      exact ⟨rfl, P3.out⟩
    · rw [if_neg (by simp), if_pos h2]
      clear hr
      go_enter Try.func48, Try.ntmps48
      go_wp2_with fail
      refine (X1.out).mono ?_
      rintro e w1 ⟨rfl, h1, p1⟩
      have H1 := mkHid h1
      have P1 := mkHid p1
      clear h1 p1
      go_wp2_with fail
      refine (X2.out _ H1.out).mono ?_
      rintro e w2 ⟨rfl, h2, p2⟩
      have P2 := mkHid (P1.out.trans p2 (fun _ _ h => h))
      clear h2 p2
      go_wp2
      go_ret2
      exact ⟨rfl, P2.out⟩
  · rw [if_pos h1]
    clear hr
    go_enter Try.func48, Try.ntmps48
    go_wp2_with fail
    refine (X1.out).mono ?_
    rintro e w1 ⟨rfl, h1, p1⟩
    have P1 := mkHid p1
    clear h1 p1
    go_wp2
    go_ret2
    exact ⟨rfl, P1.out⟩
theorem room_parts {s : ByteArray} {p : Nat} (h : roomE s p = 0) : expE s p 190 = 0 ∧ expE s (p + 8) 222 = 0 ∧ p + 32 ≤ 8 * s.size := by
  unfold roomE at h
  by_cases h1 : expE s p 190 = 0
  · rw [if_neg (by simp [h1])] at h
    by_cases h2 : expE s (p + 8) 222 = 0
    · rw [if_neg (by simp [h2])] at h
      by_cases h3 : p + 32 ≤ 8 * s.size
      · exact ⟨h1, h2, h3⟩
      · rw [if_neg h3] at h; omega
    · rw [if_pos h2] at h; exact absurd h h2
  · rw [if_pos h1] at h; exact absurd h h1
theorem room_ok (b : Nat) (s : ByteArray) (hs : s.size ≤ 1000000) (p : Nat) (hr : roomE s p = 0) (w : World) (h : Rd 78 w b s (At s p)) :
    Calls Try.prog 48 #[.pointer (some ⟨b, 0, none⟩)] w fun e w' => e = .returned (.tuple #[.int .i64 ((4 * gv s (p + 16) 16 : Nat) : Int), .int .i64 0]) ∧ Rd 78 w' b s (At s (p + 32)) ∧ Apart (· = b) w w' := by
  obtain ⟨h1, h2, h3⟩ := room_parts hr
  have H := mkHid h
  clear h hr
  have X1 := mkHid (expect_any b s hs p 190 w H.out)
  have X2 := mkHid (fun w h => expect_any b s hs (p + 8) 222 w h)
  rw [h1] at X1
  rw [h2] at X2
  have HB := mkHid (badB_no h3)
  have HG := mkHid (gw_in (show p + 16 + 16 ≤ 8 * s.size by omega))
  have hg := gv_lt s (p + 16) 16
  generalize gv s (p + 16) 16 = g at *
  clear h1 h2 h3
  go_enter Try.func48, Try.ntmps48
  go_wp2_with fail
  refine (X1.out).mono ?_
  rintro e w1 ⟨rfl, h1, p1⟩
  have H1 := mkHid h1
  have P1 := mkHid p1
  clear h1 p1
  go_wp2_with fail
  refine (X2.out _ H1.out).mono ?_
  rintro e w2 ⟨rfl, h2, p2⟩
  have H2 := mkHid h2
  have P2 := mkHid (P1.out.trans p2 (fun _ _ h => h))
  clear h2 p2
  go_wp2_with fail
  refine (get_at b s hs _ _ 16 rfl (by omega) _ H2.out).mono ?_
  rw [show p + 8 + 8 = p + 16 from by omega, HG.out]
  rintro e w3 ⟨rfl, h3, p3⟩
  have H3 := mkHid h3
  have P3 := mkHid (P2.out.trans p3 (fun _ _ h => h))
  clear h3 p3
  go_wp2_with fail
  refine (bad_at b s _ _ H3.out).mono ?_
  rw [show p + 16 + 16 = p + 32 from by omega, HB.out]
  rintro e w4 ⟨rfl, rfl⟩
  go_wp2
  go_ret2
  exact ⟨by congr 2; simp; omega, by have := H3.out; rw [show p + 16 + 16 = p + 32 from by omega] at this; exact this, P3.out⟩
end Go.Proofs.Ytdajcgicpfpeoaa
