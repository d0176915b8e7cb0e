/-
  What the small functions of the statements hand back: Large, few, wakes, and that two lists that are alike are told so.
-/
import Derived.Test.YtdhbakknplnnkaaGreatRc2
import Derived.Deep.AppendLies
import Derived.Deep.RegionHeld3
import Derived.Lib.AppendStr
namespace Go.Proofs.YtdhbakknplnnkaaGreat.Rc
open Go.RowKit

theorem wf_size {w : World} {b o : Nat} {p : Pt} (h : Cells3 w b o p) : (p.d.size : Int) ≤ 9223372036854775807 := by have := h.2.2.2; unfold maxLen at this; omega
/-- What Large leaves behind. -/
def LargePost (l : List Pt) (w : World) (e : Ending) (w' : World) : Prop := (∃ g : Bool, e = .returned (.bool g) ∧ (g = false → l.length ≤ 300 ∧ sz l ≤ 601200)) ∧ w' = w
end Go.Proofs.YtdhbakknplnnkaaGreat.Rc
namespace Go.Proofs.YtdhbakknplnnkaaGreat.Rc
open Go.RowKit

theorem bn_cons (x : UInt8) (r : List UInt8) (i : Nat) : bn (x :: r) (i + 1) = bn r i := by simp [bn]
theorem bn_zero (x : UInt8) (r : List UInt8) : bn (x :: r) 0 = x.toNat := rfl
/-- The first part of bytes that begin with one. -/
theorem pb_first {p : Pt} (h : p.ok = true) (t : List UInt8) : gE (pb p ++ t) = 0 ∧ gP (pb p ++ t) = p ∧ nx (pb p ++ t) = t := by
  obtain ⟨o0, o1, o2, o3, o4, o5⟩ := Pt.ok_iff.1 h
  obtain ⟨pc, pt, d⟩ := p
  simp only at *
  obtain ⟨c, rfl⟩ : ∃ c : Nat, pc = c := ⟨pc.toNat, by omega⟩
  obtain ⟨k, rfl⟩ : ∃ k : Nat, pt = k := ⟨pt.toNat, by omega⟩
  have e : pb ⟨c, k, d⟩ ++ t = UInt8.ofNat (128 + c) :: UInt8.ofNat k :: UInt8.ofNat (d.size / 4 / 256) :: UInt8.ofNat (d.size / 4) :: (d.data.toList ++ t) := rfl
  have hl : (pb ⟨c, k, d⟩ ++ t).length = 4 + d.size + t.length := by simp
  rw [e] at hl ⊢
  obtain ⟨r, hr⟩ : ∃ r, r = UInt8.ofNat (128 + c) :: UInt8.ofNat k :: UInt8.ofNat (d.size / 4 / 256) :: UInt8.ofNat (d.size / 4) :: (d.data.toList ++ t) := ⟨_, rfl⟩
  have b0 : bn r 0 = 128 + c := by rw [hr, bn_zero, UInt8.toNat_ofNat']; omega
  have b1 : bn r 1 = k := by rw [hr, bn_cons, bn_zero, UInt8.toNat_ofNat']; omega
  have b2 : bn r 2 = d.size / 4 / 256 := by rw [hr, bn_cons, bn_cons, bn_zero, UInt8.toNat_ofNat']; omega
  have b3 : bn r 3 = d.size / 4 % 256 := by rw [hr, bn_cons, bn_cons, bn_cons, bn_zero, UInt8.toNat_ofNat']
  have hn : hN r = d.size := by unfold hN; rw [b2, b3]; omega
  have hp : ¬ hP r = true := by unfold hP; rw [b0]; simp; omega
  have hd : hD r = 0 := by unfold hD; rw [if_neg hp]
  have h4 : r.drop 4 = d.data.toList ++ t := by rw [hr]; rfl
  rw [← hr] at hl ⊢
  refine ⟨gE_is (by rw [hl, hn]; omega) (by omega) (by omega) (by omega) (fun h => absurd h hp), ?_, ?_⟩
  · unfold gP
    rw [b0, b1, hn, hd, Nat.sub_zero, h4, List.take_left' (toList_len d)]
    congr 1
    omega
  · unfold nx
    rw [hn, ← List.drop_drop, h4, List.drop_left' (toList_len d)]
/-- Parts that are followed by something. -/
theorem mb_more (l : List Pt) (h : allOk l = true) (t : List UInt8) (ht : t ≠ []) : sE (mb l ++ t) = sE t ∧ sL (mb l ++ t) = l ++ sL t := by
  induction l with
  | nil => exact ⟨rfl, rfl⟩
  | cons p l ih =>
    have h1 := allOk_iff.1 h
    obtain ⟨i1, i2⟩ := ih (allOk_iff.2 fun q hq => h1 q (by simp [hq]))
    obtain ⟨f1, f2, f3⟩ := pb_first (h1 p (by simp)) (mb l ++ t)
    have e : mb (p :: l) ++ t = pb p ++ (mb l ++ t) := by simp [mb]
    have hn : ¬ nx (pb p ++ (mb l ++ t)) = [] := by rw [f3]; simp [ht]
    rw [e, sE_more f1 hn, sL_more f1 hn, f2, f3, i1, i2]
    exact ⟨rfl, rfl⟩
theorem pb_one {p : Pt} (h : p.ok = true) : sE (pb p) = 0 ∧ sL (pb p) = [p] := by
  obtain ⟨f1, f2, f3⟩ := pb_first h []
  rw [List.append_nil] at f1 f2 f3
  exact ⟨sE_last f1 f3, by rw [sL_last f1 f3, f2]⟩
theorem mb_all (l : List Pt) (hl : l ≠ []) (h : allOk l = true) : sE (mb l) = 0 ∧ sL (mb l) = l := by
  have h1 := allOk_iff.1 h
  obtain ⟨k, p, rfl⟩ : ∃ k p, l = k ++ [p] := ⟨l.dropLast, l.getLast hl, (List.dropLast_concat_getLast hl).symm⟩
  obtain ⟨g1, g2⟩ := pb_one (h1 p (by simp))
  have e : mb (k ++ [p]) = mb k ++ pb p := by rw [mb_app]; simp [mb]
  obtain ⟨m1, m2⟩ := mb_more k (allOk_iff.2 fun q hq => h1 q (by simp [hq])) (pb p) (by simp [pb, ph])
  rw [e, m1, m2, g1, g2]
  exact ⟨rfl, rfl⟩
theorem jE_zero {l : List Pt} (h : jE l = 0) : l ≠ [] ∧ allOk l = true ∧ sz l ≤ 65536 := by
  unfold jE at h
  by_cases h1 : l = [] ∨ allOk l = false
  · rw [if_pos h1] at h; exact absurd h (by decide)
  rw [if_neg h1] at h
  by_cases h2 : 65536 < sz l
  · rw [if_pos h2] at h; exact absurd h (by decide)
  refine ⟨fun e => h1 (.inl e), ?_, by omega⟩
  cases e : allOk l with
  | true => rfl
  | false => exact absurd (.inr e) h1
theorem jE_is {l : List Pt} (h1 : l ≠ []) (h2 : allOk l = true) (h3 : sz l ≤ 65536) : jE l = 0 := by
  unfold jE
  rw [if_neg (by rintro (h | h); exact h1 h; rw [h2] at h; cases h), if_neg (by omega)]
theorem jS_is {l : List Pt} (h : jE l = 0) : jS l = bA l := by unfold jS; rw [if_pos h]
theorem fr_bA (l : List Pt) : fr (bA l) 0 = mb l := by simp [fr, bA]
theorem fr_self (s : ByteArray) : fr s 0 = s.data.toList := rfl
/-- Split of Join. -/
theorem back {l : List Pt} (h : jE l = 0) : rE (jS l) = 0 ∧ rL (jS l) = l := by
  obtain ⟨h1, h2, h3⟩ := jE_zero h
  obtain ⟨m1, m2⟩ := mb_all l h1 h2
  have e : rE (jS l) = 0 := by
    unfold rE
    rw [jS_is h, bA_size, if_neg (by omega), fr_bA, m1]
  refine ⟨e, ?_⟩
  unfold rL
  rw [if_pos e, jS_is h, fr_bA, m2]
/-- A part that is not padded stands as its bytes. -/
theorem pb_gP {r : List UInt8} (h : gE r = 0) (hd : hD r = 0) : r = pb (gP r) ++ nx r := by
  have hz := gE_zero h
  have hs := gP_size h
  have hnp : ¬ hP r = true := by
    intro hp
    have := hz.2.2.2.2 hp
    unfold hD at hd
    rw [if_pos hp] at hd
    omega
  have hp2 : ¬ bn r 0 / 32 % 2 = 1 := by unfold hP at hnp; simpa using hnp
  obtain ⟨a, b, c, d, tl, rfl⟩ : ∃ a b c d tl, r = a :: b :: c :: d :: tl := by
    match r, hz.1 with
    | a :: b :: c :: d :: tl, _ => exact ⟨a, b, c, d, tl, rfl⟩
    | [], h => simp at h
    | [_], h => simp at h; omega
    | [_, _], h => simp at h; omega
    | [_, _, _], h => simp at h; omega
  have la := a.toNat_lt
  have lc := c.toNat_lt
  have ld := d.toNat_lt
  have hn : hN (a :: b :: c :: d :: tl) = 4 * (256 * c.toNat + d.toNat) := rfl
  have b0 : bn (a :: b :: c :: d :: tl) 0 = a.toNat := rfl
  rw [hd, Nat.sub_zero] at hs
  have hm := hz.2.1
  rw [b0] at hm hp2
  have e1 : (gP (a :: b :: c :: d :: tl)).c.toNat = a.toNat % 32 := by show ((a.toNat % 32 : Nat) : Int).toNat = _; omega
  have e2 : (gP (a :: b :: c :: d :: tl)).t.toNat = b.toNat := by show ((b.toNat : Nat) : Int).toNat = _; omega
  have e3 : (gP (a :: b :: c :: d :: tl)).d.data.toList = tl.take (hN (a :: b :: c :: d :: tl)) := by
    unfold gP
    simp only [hd, Nat.sub_zero]
    simp
  unfold pb ph nx
  rw [e1, e2, hs, e3, hn]
  have u1 : UInt8.ofNat (128 + a.toNat % 32) = a := by
    rw [show 128 + a.toNat % 32 = a.toNat by omega]; simp
  have u2 : UInt8.ofNat (4 * (256 * c.toNat + d.toNat) / 4 / 256) = c := by
    rw [show 4 * (256 * c.toNat + d.toNat) / 4 / 256 = c.toNat by omega]; simp
  have u3 : UInt8.ofNat (4 * (256 * c.toNat + d.toNat) / 4) = d := by
    apply UInt8.toNat_inj.1
    rw [UInt8.toNat_ofNat']; omega
  rw [u1, u2, u3]
  have e4 : (a :: b :: c :: d :: tl).drop (4 + 4 * (256 * c.toNat + d.toNat)) = tl.drop (4 * (256 * c.toNat + d.toNat)) := by
    rw [← List.drop_drop]; rfl
  rw [e4]
  simp
/-- What parts that were split have. -/
theorem split_has (n : Nat) : ∀ r : List UInt8, r.length ≤ n → sE r = 0 → sL r ≠ [] ∧ sz (sL r) ≤ r.length ∧ r.length - sz (sL r) ≤ 255 ∧ (sz (sL r) = r.length → r = mb (sL r)) := by
  induction n with
  | zero =>
    intro r hr h
    have : gE r = 60 := gE_short (by omega)
    rw [sE_wrong (by rw [this]; decide), this] at h
    exact absurd h (by decide)
  | succ n ih =>
    intro r hr h
    by_cases hg : gE r = 0
    · have hz := gE_zero hg
      have hs := gP_size hg
      have hd := hD_le hg
      have hlen : (nx r).length = r.length - (4 + hN r) := by simp [nx]
      have hk : hD r ≤ 255 := by
        unfold hD hK
        have := bn_lt r (3 + hN r)
        split <;> omega
      by_cases hx : nx r = []
      · rw [sL_last hg hx]
        have h0 : r.length = 4 + hN r := by rw [hx] at hlen; simp at hlen; omega
        have hz1 : sz [gP r] = 4 + (hN r - hD r) := by simp [sz, hs]
        rw [hz1]
        refine ⟨by simp, by omega, by omega, fun e => ?_⟩
        have := pb_gP hg (by omega)
        rw [hx, List.append_nil] at this
        conv => lhs; rw [this]
        simp [mb]
      · rw [sL_more hg hx]
        rw [sE_more hg hx] at h
        have hd0 : hD r = 0 := by
          unfold hD
          by_cases hp : hP r = true
          · have := (hz.2.2.2.2 hp).1
            have : (nx r).length = 0 := by omega
            exact absurd (List.eq_nil_of_length_eq_zero this) hx
          · rw [if_neg hp]
        obtain ⟨i1, i2, i3, i4⟩ := ih (nx r) (by omega) h
        have hz1 : sz (gP r :: sL (nx r)) = 4 + hN r + sz (sL (nx r)) := by simp [sz, hs, hd0]
        rw [hz1]
        refine ⟨by simp, by omega, by omega, fun e => ?_⟩
        have := pb_gP hg hd0
        conv => lhs; rw [this]
        rw [mb, ← i4 (by omega)]
    · rw [sE_wrong hg] at h; exact absurd h hg
theorem rE_zero {s : ByteArray} (h : rE s = 0) : s.size ≤ 65536 ∧ sE (fr s 0) = 0 ∧ rL s = sL (fr s 0) := by
  have h0 := h
  unfold rE at h
  by_cases h1 : 65536 < s.size
  · rw [if_pos h1] at h; exact absurd h (by decide)
  rw [if_neg h1] at h
  exact ⟨by omega, h, by unfold rL; rw [if_pos h0]⟩
/-- What was split is joined. -/
theorem again {s : ByteArray} (h : rE s = 0) : jE (rL s) = 0 ∧ (jS (rL s)).size ≤ s.size ∧ sz (rL s) ≤ s.size := by
  obtain ⟨h1, h2, h3⟩ := rE_zero h
  obtain ⟨i1, i2, i3, i4⟩ := split_has _ (fr s 0) (Nat.le_refl _) h2
  have hm := sL_mem _ (fr s 0) (Nat.le_refl _)
  rw [fr_len, Nat.sub_zero] at i2
  rw [h3]
  have hj := jE_is i1 (allOk_iff.2 fun p hp => (hm p hp).1) (by omega)
  exact ⟨hj, by rw [jS_is hj, bA_size]; exact i2, i2⟩
end Go.Proofs.YtdhbakknplnnkaaGreat.Rc
namespace Go.Proofs.YtdhbakknplnnkaaGreat.Rc
open Go.RowKit

/-- Bytes as cells. -/
def ub (x : UInt8) : Value := .int .u8 (x.toNat : Int)
theorem strCells_ub (s : ByteArray) : Lib.strCells s = s.data.toList.map ub := rfl
theorem conv_row {w : World} {base : Nat} {v : Value} {L : List UInt8} (ho : w.ownsRow base 5 1 v L.length (L.map ub)) : (convert 82 9 v).run Tryz.prog w = .ok (.string ⟨L.toArray⟩) w := by
  have hu : Tryz.prog.underlying 82 = some (.slice 5) := Tryz.underlying82
  have h5 : Tryz.prog.underlying 5 = some (.int .u8) := Tryz.underlying5
  have h9 : Tryz.prog.underlying 9 = some .string := Tryz.underlying9
  rcases ho.2 with ⟨rfl, hn⟩ | ⟨g, cap, cur, rfl, hg, hh, r⟩
  · obtain rfl := List.eq_nil_of_length_eq_zero hn
    rw [run_convert_bytes_string w 82 9 5 none 0 0 hu h5 h9]
    rfl
  · exact run_convert_bytes_back (P := Tryz.prog) w 82 9 5 ⟨g, 0, none⟩ cap L hu h5 h9 (fun j hj => by
      rw [Addr.add_lit, Nat.zero_add, ho.cellAt j (by omega), List.getElem?_map, List.getElem?_eq_getElem hj]; rfl)
theorem cell_four_new (w : World) (x y z u : Value) (t : TypeId) : ∀ j v, [x, y, z, u][j]? = some v → (w.alloc (.cells #[x, y, z, u] t)).cell? ((⟨w.heap.size, 0, none⟩ : Addr).add j) = some v := by
  intro j v hj
  rw [Addr.add_lit, Nat.zero_add, cell_of_row _ w.heap.size j _ t _ (heap_alloc_new w _)]
  simpa using hj
theorem ub_eq {x : Int} {n : Nat} (h : x = ((n % 256 : Nat) : Int)) : Value.int .u8 x = ub (UInt8.ofNat n) := by
  rw [h]; unfold ub; rw [UInt8.toNat_ofNat']
theorem head_cells (c tt : Nat) (d : ByteArray) (z : Int) (hz : (d.size : Int) / 4 = z) :
    [Value.int .u8 (IntKind.u8.wrap (IntKind.i64.wrap (128 + (c : Int)))), .int .u8 (IntKind.u8.wrap (tt : Int)), .int .u8 (IntKind.u8.wrap (z / 256)), .int .u8 (IntKind.u8.wrap z)] = (ph ⟨c, tt, d⟩).map ub := by
  have e1 : IntKind.u8.wrap (IntKind.i64.wrap (128 + (c : Int))) = ((128 + c) % 256 : Nat) := by rw [IntKind.wrap_u8, IntKind.wrap_i64]; omega
  have e2 : IntKind.u8.wrap (tt : Int) = (tt % 256 : Nat) := by rw [IntKind.wrap_u8]; omega
  have e3 : IntKind.u8.wrap (z / 256) = (d.size / 4 / 256 % 256 : Nat) := by rw [IntKind.wrap_u8]; omega
  have e4 : IntKind.u8.wrap z = (d.size / 4 % 256 : Nat) := by rw [IntKind.wrap_u8]; omega
  rw [ub_eq e1, ub_eq e2, ub_eq e3, ub_eq e4]
  rfl
theorem grown_cell {wr w1 : World} {o : Obj} {row : Option Nat} (hg : ((wr.alloc o).drew).grownBy w1 row) {p : Addr} (hp : p.block < wr.heap.size) (hr : ¬ some p.block = row) : w1.cell? p = wr.cell? p := by
  refine World.cell?_of_block (w := wr) ?_
  rw [hg.block p.block (by show p.block < (wr.alloc o).heap.size; simp; omega) hr]
  exact Below.heap_alloc wr o _ hp
theorem mb_next {l : List Pt} {i : Nat} {p : Pt} (h : l[i]? = some p) : mb (l.take (i + 1)) = mb (l.take i) ++ pb p := by
  rw [take_next h, mb_app]; simp [mb]
theorem ok_not {p : Pt} (h : p.ok = false) : ¬ (0 ≤ p.c ∧ p.c ≤ 31 ∧ 192 ≤ p.t ∧ p.t ≤ 223 ∧ p.d.size ≤ 262140 ∧ p.d.size % 4 = 0) := by
  intro hh; have := Pt.ok_iff.2 hh; rw [h] at this; cases this
set_option maxRecDepth 100000 in
set_option maxHeartbeats 1000000 in
theorem rjoin_any (a : Option Addr) (cap : Nat) (l : List Pt) (hl : l.length ≤ 1000000) (hz : sz l ≤ 10000000) (w : World) (h : PA w.heap.size w a l) :
    Calls Tryz.prog 13 #[.slice a l.length cap] w fun e w' => e = .returned (.tuple #[.string (jS l), .int .i64 (jE l)]) ∧ Below w.heap.size w w' := by
  have H := mkHid h
  have HZ := mkHid hz
  obtain ⟨n, HN⟩ : ∃ n, Hid (l.length = n) := ⟨_, rfl⟩
  obtain ⟨b, HB⟩ : ∃ b, Hid (w.heap.size = b) := ⟨_, rfl⟩
  rw [HB.out] at H ⊢
  rw [HN.out] at hl ⊢
  have hn1 : (n : Int) ≤ 1000000 := by omega
  clear h hz hl
  by_cases hnil : l = []
  · have h0 : n = 0 := by rw [← HN.out, hnil]; rfl
    subst h0
    have HJ := mkHid (show jE l = 1 from by unfold jE; rw [if_pos (.inl hnil)])
    have HS := mkHid (show jS l = ⟨#[]⟩ from by unfold jS; rw [HJ.out]; rfl)
    rw [HJ.out, HS.out]
    clear hnil
    go_enter Tryz.func13, Tryz.ntmps13
    go_wp2
    go_ret2
    exact ⟨rfl, Below.refl _ _⟩
  · have hn0 : ¬ (n : Int) = 0 := by have := HN.out; have := List.length_pos_iff.2 hnil; omega
    have HNIL := mkHid hnil
    clear hnil
    have e13 : ((n : Int) == 0) = false := by simpa using hn0
    go_enter Tryz.func13, Tryz.ntmps13
    go_wp2
    go_loopw [4] (fun i wr => ∃ k : Nat, k ≤ n ∧ i = .int .i64 (k : Int) ∧ allOk (l.take k) = true ∧ Below b w wr) (fun i _ => n - (intOf i).toNat)
    case atStart => exact ⟨0, Nat.zero_le _, rfl, rfl, Below.refl _ _⟩
    case round =>
      obtain ⟨k, hk, rfl, hok, hb⟩ := hrel
      have HOK := mkHid hok
      have HBL := mkHid hb
      have hbz : b ≤ wr.heap.size := by have := hb.size; rw [HB.out] at this; exact this
      clear hok hb
      by_cases hlt : k < n
      · obtain ⟨ab, off, p, rfl, hbl, hp, hc⟩ := H.out.at k (by rw [HN.out]; exact hlt)
        have hc2 := hc.kept HBL.out hbl
        have HP := mkHid hp
        have hd := hc2.2.2.2
        unfold maxLen at hd
        obtain ⟨c0, c1, c2, c3⟩ := hc2
        have hdz : (p.d.size : Int) ≤ 9223372036854775807 := by omega
        clear c3 hp hc hd
        cases hpo : p.ok with
        | true =>
          have o := Pt.ok_iff.1 hpo
          have HPO := mkHid hpo
          clear hpo
          obtain ⟨pc, pt, d⟩ := p
          simp only at *
          obtain ⟨o0, o1, o2, o3, o4, o5⟩ := o
          have o4' : ¬ (262140 : Int) < d.size := by omega
          have o5' : (d.size : Int) % 4 = 0 := by omega
          have o0' : ¬ pc < 0 := by omega
          have o1' : ¬ 31 < pc := by omega
          have o2' : ¬ pt < 192 := by omega
          have o3' : ¬ 223 < pt := by omega
          clear o4 o5 o0 o1 o2 o3
          go_wp2
          go_roundw
          case rel => exact ⟨k + 1, by omega, by go_num, allOk_take HP.out HPO.out HOK.out, HBL.out.alloc hbz _⟩
          case measure => simp [intOf]; omega
        | false =>
          have o := ok_not hpo
          have HJ := mkHid (show jE l = 1 from by unfold jE; rw [if_pos (.inr (allOk_no HP.out hpo))])
          have HS := mkHid (show jS l = ⟨#[]⟩ from by unfold jS; rw [HJ.out]; rfl)
          clear hpo
          obtain ⟨pc, pt, d⟩ := p
          simp only at *
          have o' : pc < 0 ∨ 31 < pc ∨ pt < 192 ∨ 223 < pt ∨ ¬ (d.size : Int) % 4 = 0 ∨ (262140 : Int) < d.size := by omega
          clear o
          rcases (by omega : pc < 0 ∨ (¬ pc < 0 ∧ 31 < pc) ∨ (¬ pc < 0 ∧ ¬ 31 < pc ∧ pt < 192) ∨ (¬ pc < 0 ∧ ¬ 31 < pc ∧ ¬ pt < 192 ∧ 223 < pt) ∨ (¬ pc < 0 ∧ ¬ 31 < pc ∧ ¬ pt < 192 ∧ ¬ 223 < pt ∧ ¬ (d.size : Int) % 4 = 0) ∨ (¬ pc < 0 ∧ ¬ 31 < pc ∧ ¬ pt < 192 ∧ ¬ 223 < pt ∧ (d.size : Int) % 4 = 0 ∧ (262140 : Int) < d.size)) with q | ⟨q1, q⟩ | ⟨q1, q2, q⟩ | ⟨q1, q2, q3, q⟩ | ⟨q1, q2, q3, q4, q⟩ | ⟨q1, q2, q3, q4, q5, q⟩
          all_goals
            clear o'
            go_wp2
            go_ret2
            exact ⟨by rw [HJ.out, HS.out]; rfl, HBL.out.alloc hbz _⟩
      · obtain rfl : k = n := by omega
        have hok := HOK.out
        rw [← HN.out, List.take_length] at hok
        have HOK2 := mkHid hok
        clear hok HOK hlt
        obtain ⟨wx, HWX⟩ : ∃ wx, wx = wr := ⟨_, rfl⟩
        subst HWX
        go_wp2
        go_loopw [6, 7] (fun x i wr => ∃ j : Nat, j ≤ k ∧ i = .int .i64 (j : Int) ∧ x = .int .i64 (sz (l.take j) : Int) ∧ sz (l.take j) ≤ 65536 ∧ wr = wx) (fun _ i _ => k - (intOf i).toNat)
        case atStart => exact ⟨0, Nat.zero_le _, rfl, rfl, Nat.zero_le _, rfl⟩
        case round =>
          obtain ⟨j, hj, rfl, rfl, hx, rfl⟩ := hrel
          by_cases hlt : j < k
          · obtain ⟨ab, off, p, rfl, hbl, hp, hc⟩ := H.out.at j (by rw [HN.out]; exact hlt)
            have hc2 := hc.kept HBL.out hbl
            have hsz := sz_next hp
            have hz1 := sz_take l (j + 1)
            have hz2 := HZ.out
            obtain ⟨x, HX⟩ : ∃ x, Hid (sz (l.take j) = x) := ⟨_, rfl⟩
            rw [HX.out] at hsz hx ⊢
            have hx1 : (x : Int) + (4 + p.d.size) ≤ 10000000 := by omega
            have hx2 : (p.d.size : Int) ≤ 10000000 := by omega
            obtain ⟨c0, c1, c2, c3⟩ := hc2
            have HSZ := mkHid hsz
            have HZ1 := mkHid hz1
            obtain ⟨pc, pt, d⟩ := p
            simp only at *
            clear c3 hsz hz1 hz2 hp hc
            by_cases h3 : (65536 : Int) < (x : Int) + (4 + d.size)
            · have HJ := mkHid (show jE l = 2 from by unfold jE; rw [if_neg (by rintro (h | h); exact HNIL.out h; rw [HOK2.out] at h; cases h), if_pos (by have := HSZ.out; have := HZ1.out; omega)])
              have HS := mkHid (show jS l = ⟨#[]⟩ from by unfold jS; rw [HJ.out]; rfl)
              go_wp2
              go_ret2
              exact ⟨by rw [HJ.out, HS.out]; rfl, HBL.out⟩
            · go_wp2
              go_roundw
              case rel => exact ⟨j + 1, by omega, by go_num, by rw [HSZ.out]; go_num, by rw [HSZ.out]; omega, by first | rfl | trivial⟩
              case measure => simp [intOf]; omega
          · obtain rfl : j = k := by omega
            rw [← HN.out, List.take_length] at hx ⊢
            rw [HN.out]
            have HX := mkHid hx
            have HJ := mkHid (show jE l = 0 from by unfold jE; rw [if_neg (by rintro (h | h); exact HNIL.out h; rw [HOK2.out] at h; cases h), if_neg (by omega)])
            have HS := mkHid (show jS l = bA l from by unfold jS; rw [HJ.out]; rfl)
            obtain ⟨x, HXX⟩ : ∃ x : Int, Hid ((sz l : Int) = x) := ⟨_, rfl⟩
            rw [HXX.out]
            clear hx hlt
            obtain ⟨wy, HWY⟩ : ∃ wy, wy = wr := ⟨_, rfl⟩
            subst HWY
            obtain ⟨i0, hi, hz0, hz1, hz2⟩ := info_parts info5
            go_wp2
            go_loopw [8, 9] (fun v i wr => ∃ k : Nat, k ≤ j ∧ i = .int .i64 (k : Int) ∧ wr.ownsRow b 5 1 v (mb (l.take k)).length ((mb (l.take k)).map ub) ∧ Below b w wr) (fun _ i _ => j - (intOf i).toNat)
            case atStart => exact ⟨0, Nat.zero_le _, rfl, World.ownsRow_nil _ _ _ _, HBL.out⟩
            case round =>
              obtain ⟨k, hk, rfl, how, hb⟩ := hrel
              by_cases hlt : k < j
              · obtain ⟨ab, off, p, rfl, hbl, hp, hc⟩ := H.out.at k (by rw [HN.out]; exact hlt)
                have hc2 := hc.kept hb hbl
                have o := Pt.ok_iff.1 (allOk_iff.1 HOK2.out p (List.mem_of_getElem? hp))
                have hsz := sz_next hp
                have hz1' := sz_take l (k + 1)
                have HM := mkHid (mb_next hp)
                have HLE := mkHid (mb_len (l.take k))
                have HSL := mkHid (show (mb (l.take k)).length + (4 + p.d.size) ≤ 65536 by rw [HLE.out]; have := HX.out; omega)
                obtain ⟨c0, c1, c2, c3⟩ := hc2
                obtain ⟨pc, pt, d⟩ := p
                simp only at *
                obtain ⟨o0, o1, o2, o3, o4, o5⟩ := o
                obtain ⟨c, rfl⟩ : ∃ c : Nat, pc = c := ⟨pc.toNat, by omega⟩
                obtain ⟨tt, rfl⟩ : ∃ tt : Nat, pt = tt := ⟨pt.toNat, by omega⟩
                have hdz : (d.size : Int) ≤ 262140 := by omega
                obtain ⟨z, hz⟩ : ∃ z : Int, (d.size : Int) / 4 = z := ⟨_, rfl⟩
                have hzb0 : 0 ≤ z := by omega
                have hzb1 : z < 65536 := by omega
                have HZZ := mkHid hz
                have HOW := mkHid how
                have HBL2 := mkHid hb
                obtain ⟨va, vc, HV⟩ := ownsRow_slice how
                subst HV
                have hbz : b ≤ wr.heap.size := by have := hb.size; rw [HB.out] at this; exact this
                clear c3 hsz hz1' hp hc how hb o4 o5
                have hk0 : (0 : Int) ≤ k := by omega
                have hk1 : (k : Int) < j := by omega
                obtain ⟨M, HMM⟩ : ∃ M, Hid ((mb (l.take k)).length = M) := ⟨_, rfl⟩
                rw [HMM.out] at HOW HSL ⊢
                have HN1 := mkHid (show M + 4 ≤ maxLen by have := HSL.out; unfold maxLen; omega)
                have HN2 := mkHid (show (M + 4) * 1 ≤ 140737488355328 by have := HSL.out; omega)
                have hab : ¬ ab = wr.heap.size := by omega
                have hab2 : ab < wr.heap.size + 1 := by omega
                have HABL := mkHid (show ab < wr.heap.size by omega)
                have HAB := mkHid (show ¬ some ab = (Value.slice va M vc).ownBlock by intro e; have := HOW.out.lt ab e.symm; omega)
                go_wp2_with fail
                go_region_held3 (fun w' => w'.cell? ⟨ab, off + k * 3, none⟩ = some (.int .i64 (c : Int)) ∧ w'.cell? ⟨ab, off + k * 3 + 1, none⟩ = some (.int .i64 (tt : Int)))
                  (first | go_keep | exact ⟨k0, k1⟩)
                  ((refine step_append_lies _ (by rfl) _ _ _ (by rfl) b 5 i0 (.int .u8 0) 1 1 Tryz.underlying82 hi hz0 hz1 hz2 rfl (by decide) (.slice va M vc) M ((mb (l.take k)).map ub) (by rfl) (by exact HOW.out.alloc _) ⟨wr.heap.size, 0, none⟩ 4 4 [.int .u8 (IntKind.u8.wrap (IntKind.i64.wrap (128 + (c : Int)))), .int .u8 (IntKind.u8.wrap (tt : Int)), .int .u8 (IntKind.u8.wrap (z / 256)), .int .u8 (IntKind.u8.wrap z)] (by rfl) (by rfl) (by exact cell_four_new wr _ _ _ _ _) (by intro u hu; simp at hu; rcases hu with rfl | rfl | rfl | rfl <;> rfl) (by decide) HN1.out HN2.out (by simp; omega) _ rfl ?_; intro g cap w1 hown1 hgrow hat hlt; have k0 := (grown_cell hgrow (p := ⟨ab, off + k * 3, none⟩) HABL.out HAB.out).trans c0; have k1 := (grown_cell hgrow (p := ⟨ab, off + k * 3 + 1, none⟩) HABL.out HAB.out).trans c1; have k2 := (grown_cell hgrow (p := ⟨ab, off + k * 3 + 2, none⟩) HABL.out HAB.out).trans c2; have OW1 := mkHid hown1; have GR1 := mkHid hgrow; clear hown1 hgrow hat))
                have HN3 := mkHid (show M + 4 + d.size ≤ maxLen by have := HSL.out; unfold maxLen; omega)
                have HN4 := mkHid (show M + 4 + d.size ≤ 140737488355328 by have := HSL.out; omega)
                have hw1 : b ≤ w1.heap.size := by have := GR1.out.size; simp at this; omega
                have B1 := mkHid (Below.grown ((HBL2.out.alloc hbz (.cells #[.int .u8 (IntKind.u8.wrap (IntKind.i64.wrap (128 + (c : Int)))), .int .u8 (IntKind.u8.wrap (tt : Int)), .int .u8 (IntKind.u8.wrap (z / 256)), .int .u8 (IntKind.u8.wrap z)] 5)).drew) GR1.out (by show b ≤ (wr.alloc _).heap.size; simp; omega) (fun k e => (HOW.out.lt k e).1))
                clear hlt c0 c1 c2 k0 k1
                go_wp2_with (at_builtin; refine Lib.wpList_append_own_string _ rfl (.tmp 106) (.tmp 111) 82 9 rfl b 5 i0 Tryz.underlying82 Tryz.underlying9 hi hz0 hz1 hz2 (.slice (some ⟨g, 0, none⟩) (M + 4) cap) (M + 4) _ rfl OW1.out d rfl HN3.out HN4.out hw1 ?_; intro v2 w2 hown2 hgrow2 _; obtain ⟨va2, vc2, hv2⟩ := ownsRow_slice hown2; subst hv2; have OW2 := mkHid hown2; have B2 := mkHid (B1.out.grown hgrow2 hw1 (fun k e => (OW1.out.lt k e).1)); clear hown2 hgrow2)
                go_roundw
                case rel =>
                  refine ⟨k + 1, by omega, by go_num, ?_, B2.out⟩
                  have := OW2.out
                  rw [head_cells c tt d z HZZ.out, strCells_ub, ← List.map_append, ← List.map_append, List.append_assoc] at this
                  rw [HM.out, List.length_append, pb_len, HMM.out, ← Nat.add_assoc]
                  exact this
                case measure => simp [intOf]; omega
              · obtain rfl : k = j := by omega
                have hfull := how
                rw [← HN.out, List.take_length] at hfull
                have hcv := conv_row hfull
                have HBL2 := mkHid hb
                obtain ⟨va, vc, HV⟩ := ownsRow_slice how
                subst HV
                have HCE := mkHid (show (⟨(mb l).toArray⟩ : ByteArray) = bA l from rfl)
                rw [HCE.out] at hcv
                obtain ⟨S, HSS⟩ : ∃ S, Hid (bA l = S) := ⟨_, rfl⟩
                rw [HSS.out] at hcv
                clear how hb hfull
                go_wp2
                go_ret2
                exact ⟨by rw [HJ.out, HS.out, HSS.out]; rfl, HBL2.out⟩
end Go.Proofs.YtdhbakknplnnkaaGreat.Rc
