/-
  What the reference's Join hands back.
-/
import Derived.Test.YthapkeokgpnjgaaRcJ
import Derived.Test.YthapkeokgpnjgaaRcA
import Derived.Deep.AppendLies
import Derived.Deep.RegionHeld3
import Derived.Lib.AppendStr
namespace Go.Proofs.Ythapkeokgpnjgaa
open Go.RowKit

/-- Bytes as cells. -/
def ub (x : UInt8) : Value := .int .u8 (x.toNat : Int)
theorem strCells_ub (s : ByteArray) : Lib.strCells s = s.data.toList.map ub := rfl
theorem conv_row {w : World} {base : Nat} {v : Value} {L : List UInt8} (ho : w.ownsRow base 5 1 v L.length (L.map ub)) : (convert 41 9 v).run Try.prog w = .ok (.string ⟨L.toArray⟩) w := by
  have hu : Try.prog.underlying 41 = some (.slice 5) := Try.underlying41
  have h5 : Try.prog.underlying 5 = some (.int .u8) := Try.underlying5
  have h9 : Try.prog.underlying 9 = some .string := Try.underlying9
  rcases ho.2 with ⟨rfl, hn⟩ | ⟨g, cap, cur, rfl, hg, hh, r⟩
  · obtain rfl := List.eq_nil_of_length_eq_zero hn
    rw [run_convert_bytes_string w 41 9 5 none 0 0 hu h5 h9]
    rfl
  · exact run_convert_bytes_back (P := Try.prog) w 41 9 5 ⟨g, 0, none⟩ cap L hu h5 h9 (fun j hj => by
      rw [Addr.add_lit, Nat.zero_add, ho.cellAt j (by omega), List.getElem?_map, List.getElem?_eq_getElem hj]; rfl)
theorem cell_four_new (w : World) (x y z u : Value) (t : TypeId) : ∀ j v, [x, y, z, u][j]? = some v → (w.alloc (.cells #[x, y, z, u] t)).cell? ((⟨w.heap.size, 0, none⟩ : Addr).add j) = some v := by
  intro j v hj
  rw [Addr.add_lit, Nat.zero_add, cell_of_row _ w.heap.size j _ t _ (heap_alloc_new w _)]
  simpa using hj
theorem ub_eq {x : Int} {n : Nat} (h : x = ((n % 256 : Nat) : Int)) : Value.int .u8 x = ub (UInt8.ofNat n) := by
  rw [h]; unfold ub; rw [UInt8.toNat_ofNat']
theorem head_cells (c tt : Nat) (d : ByteArray) (z : Int) (hz : (d.size : Int) / 4 = z) :
    [Value.int .u8 (IntKind.u8.wrap (IntKind.i64.wrap (128 + (c : Int)))), .int .u8 (IntKind.u8.wrap (tt : Int)), .int .u8 (IntKind.u8.wrap (z / 256)), .int .u8 (IntKind.u8.wrap z)] = (ph ⟨c, tt, d⟩).map ub := by
  have e1 : IntKind.u8.wrap (IntKind.i64.wrap (128 + (c : Int))) = ((128 + c) % 256 : Nat) := by rw [IntKind.wrap_u8, IntKind.wrap_i64]; omega
  have e2 : IntKind.u8.wrap (tt : Int) = (tt % 256 : Nat) := by rw [IntKind.wrap_u8]; omega
  have e3 : IntKind.u8.wrap (z / 256) = (d.size / 4 / 256 % 256 : Nat) := by rw [IntKind.wrap_u8]; omega
  have e4 : IntKind.u8.wrap z = (d.size / 4 % 256 : Nat) := by rw [IntKind.wrap_u8]; omega
  rw [ub_eq e1, ub_eq e2, ub_eq e3, ub_eq e4]
  rfl
theorem grown_cell {wr w1 : World} {o : Obj} {row : Option Nat} (hg : ((wr.alloc o).drew).grownBy w1 row) {p : Addr} (hp : p.block < wr.heap.size) (hr : ¬ some p.block = row) : w1.cell? p = wr.cell? p := by
  refine World.cell?_of_block (w := wr) ?_
  rw [hg.block p.block (by show p.block < (wr.alloc o).heap.size; simp; omega) hr]
  exact Below.heap_alloc wr o _ hp
theorem mb_next {l : List Pt} {i : Nat} {p : Pt} (h : l[i]? = some p) : mb (l.take (i + 1)) = mb (l.take i) ++ pb p := by
  rw [take_next h, mb_app]; simp [mb]
theorem ok_not {p : Pt} (h : p.ok = false) : ¬ (0 ≤ p.c ∧ p.c ≤ 31 ∧ 192 ≤ p.t ∧ p.t ≤ 223 ∧ p.d.size ≤ 262140 ∧ p.d.size % 4 = 0) := by
  intro hh; have := Pt.ok_iff.2 hh; rw [h] at this; cases this
set_option maxRecDepth 100000 in
set_option maxHeartbeats 1000000 in
theorem rjoin_any (a : Option Addr) (cap : Nat) (l : List Pt) (hl : l.length ≤ 1000000) (hz : sz l ≤ 10000000) (w : World) (h : PA w.heap.size w a l) :
    Calls Try.prog 12 #[.slice a l.length cap] w fun e w' => e = .returned (.tuple #[.string (jS l), .int .i64 (jE l)]) ∧ Below w.heap.size w w' := by
  have H := mkHid h
  have HZ := mkHid hz
  obtain ⟨n, HN⟩ : ∃ n, Hid (l.length = n) := ⟨_, rfl⟩
  obtain ⟨b, HB⟩ : ∃ b, Hid (w.heap.size = b) := ⟨_, rfl⟩
  rw [HB.out] at H ⊢
  rw [HN.out] at hl ⊢
  have hn1 : (n : Int) ≤ 1000000 := by omega
  clear h hz hl
  by_cases hnil : l = []
  · have h0 : n = 0 := by rw [← HN.out, hnil]; rfl
    subst h0
    have HJ := mkHid (show jE l = 1 from by unfold jE; rw [if_pos (.inl hnil)])
    have HS := mkHid (show jS l = ⟨#[]⟩ from by unfold jS; rw [HJ.out]; rfl)
    rw [HJ.out, HS.out]
    clear hnil
    go_enter Try.func12, Try.ntmps12
    go_wp2
    go_ret2
    exact ⟨rfl, Below.refl _ _⟩
  · have hn0 : ¬ (n : Int) = 0 := by have := HN.out; have := List.length_pos_iff.2 hnil; omega
    have HNIL := mkHid hnil
    clear hnil
    have e13 : ((n : Int) == 0) = false := by simpa using hn0
    go_enter Try.func12, Try.ntmps12
    go_wp2
    go_loopw [4] (fun i wr => ∃ k : Nat, k ≤ n ∧ i = .int .i64 (k : Int) ∧ allOk (l.take k) = true ∧ Below b w wr) (fun i _ => n - (intOf i).toNat)
    case atStart => exact ⟨0, Nat.zero_le _, rfl, rfl, Below.refl _ _⟩
    case round =>
      obtain ⟨k, hk, rfl, hok, hb⟩ := hrel
      have HOK := mkHid hok
      have HBL := mkHid hb
      have hbz : b ≤ wr.heap.size := by have := hb.size; rw [HB.out] at this; exact this
      clear hok hb
      by_cases hlt : k < n
      · obtain ⟨ab, off, p, rfl, hbl, hp, hc⟩ := H.out.at k (by rw [HN.out]; exact hlt)
        have hc2 := hc.kept HBL.out hbl
        have HP := mkHid hp
        have hd := hc2.2.2.2
        unfold maxLen at hd
        obtain ⟨c0, c1, c2, c3⟩ := hc2
        have hdz : (p.d.size : Int) ≤ 9223372036854775807 := by omega
        clear c3 hp hc hd
        cases hpo : p.ok with
        | true =>
          have o := Pt.ok_iff.1 hpo
          have HPO := mkHid hpo
          clear hpo
          obtain ⟨pc, pt, d⟩ := p
          simp only at *
          obtain ⟨o0, o1, o2, o3, o4, o5⟩ := o
          have o4' : ¬ (262140 : Int) < d.size := by omega
          have o5' : (d.size : Int) % 4 = 0 := by omega
          have o0' : ¬ pc < 0 := by omega
          have o1' : ¬ 31 < pc := by omega
          have o2' : ¬ pt < 192 := by omega
          have o3' : ¬ 223 < pt := by omega
          clear o4 o5 o0 o1 o2 o3
          go_wp2
          go_roundw
          case rel => exact ⟨k + 1, by omega, by go_num, allOk_take HP.out HPO.out HOK.out, HBL.out.alloc hbz _⟩
          case measure => simp [intOf]; omega
        | false =>
          have o := ok_not hpo
          have HJ := mkHid (show jE l = 1 from by unfold jE; rw [if_pos (.inr (allOk_no HP.out hpo))])
          have HS := mkHid (show jS l = ⟨#[]⟩ from by unfold jS; rw [HJ.out]; rfl)
          clear hpo
          obtain ⟨pc, pt, d⟩ := p
          simp only at *
          have o' : pc < 0 ∨ 31 < pc ∨ pt < 192 ∨ 223 < pt ∨ ¬ (d.size : Int) % 4 = 0 ∨ (262140 : Int) < d.size := by omega
          clear o
          rcases (by omega : pc < 0 ∨ (¬ pc < 0 ∧ 31 < pc) ∨ (¬ pc < 0 ∧ ¬ 31 < pc ∧ pt < 192) ∨ (¬ pc < 0 ∧ ¬ 31 < pc ∧ ¬ pt < 192 ∧ 223 < pt) ∨ (¬ pc < 0 ∧ ¬ 31 < pc ∧ ¬ pt < 192 ∧ ¬ 223 < pt ∧ ¬ (d.size : Int) % 4 = 0) ∨ (¬ pc < 0 ∧ ¬ 31 < pc ∧ ¬ pt < 192 ∧ ¬ 223 < pt ∧ (d.size : Int) % 4 = 0 ∧ (262140 : Int) < d.size)) with q | ⟨q1, q⟩ | ⟨q1, q2, q⟩ | ⟨q1, q2, q3, q⟩ | ⟨q1, q2, q3, q4, q⟩ | ⟨q1, q2, q3, q4, q5, q⟩
          all_goals
            clear o'
            go_wp2
            go_ret2
            exact ⟨by rw [HJ.out, HS.out]; rfl, HBL.out.alloc hbz _⟩
      · obtain rfl : k = n := by omega
        have hok := HOK.out
        rw [← HN.out, List.take_length] at hok
        have HOK2 := mkHid hok
        clear hok HOK hlt
        obtain ⟨wx, HWX⟩ : ∃ wx, wx = wr := ⟨_, rfl⟩
        subst HWX
        go_wp2
        go_loopw [6, 7] (fun x i wr => ∃ j : Nat, j ≤ k ∧ i = .int .i64 (j : Int) ∧ x = .int .i64 (sz (l.take j) : Int) ∧ sz (l.take j) ≤ 65536 ∧ wr = wx) (fun _ i _ => k - (intOf i).toNat)
        case atStart => exact ⟨0, Nat.zero_le _, rfl, rfl, Nat.zero_le _, rfl⟩
        case round =>
          obtain ⟨j, hj, rfl, rfl, hx, rfl⟩ := hrel
          by_cases hlt : j < k
          · obtain ⟨ab, off, p, rfl, hbl, hp, hc⟩ := H.out.at j (by rw [HN.out]; exact hlt)
            have hc2 := hc.kept HBL.out hbl
            have hsz := sz_next hp
            have hz1 := sz_take l (j + 1)
            have hz2 := HZ.out
            obtain ⟨x, HX⟩ : ∃ x, Hid (sz (l.take j) = x) := ⟨_, rfl⟩
            rw [HX.out] at hsz hx ⊢
            have hx1 : (x : Int) + (4 + p.d.size) ≤ 10000000 := by omega
            have hx2 : (p.d.size : Int) ≤ 10000000 := by omega
            obtain ⟨c0, c1, c2, c3⟩ := hc2
            have HSZ := mkHid hsz
            have HZ1 := mkHid hz1
            obtain ⟨pc, pt, d⟩ := p
            simp only at *
            clear c3 hsz hz1 hz2 hp hc
            by_cases h3 : (65536 : Int) < (x : Int) + (4 + d.size)
            · have HJ := mkHid (show jE l = 2 from by unfold jE; rw [if_neg (by rintro (h | h); exact HNIL.out h; rw [HOK2.out] at h; cases h), if_pos (by have := HSZ.out; have := HZ1.out; omega)])
              have HS := mkHid (show jS l = ⟨#[]⟩ from by unfold jS; rw [HJ.out]; rfl)
              go_wp2
              go_ret2
              exact ⟨by rw [HJ.out, HS.out]; rfl, HBL.out⟩
            · go_wp2
              go_roundw
              case rel => exact ⟨j + 1, by omega, by go_num, by rw [HSZ.out]; go_num, by rw [HSZ.out]; omega, by first | rfl | trivial⟩
              case measure => simp [intOf]; omega
          · obtain rfl : j = k := by omega
            rw [← HN.out, List.take_length] at hx ⊢
            rw [HN.out]
            have HX := mkHid hx
            have HJ := mkHid (show jE l = 0 from by unfold jE; rw [if_neg (by rintro (h | h); exact HNIL.out h; rw [HOK2.out] at h; cases h), if_neg (by omega)])
            have HS := mkHid (show jS l = bA l from by unfold jS; rw [HJ.out]; rfl)
            obtain ⟨x, HXX⟩ : ∃ x : Int, Hid ((sz l : Int) = x) := ⟨_, rfl⟩
            rw [HXX.out]
            clear hx hlt
            obtain ⟨wy, HWY⟩ : ∃ wy, wy = wr := ⟨_, rfl⟩
            subst HWY
            obtain ⟨i0, hi, hz0, hz1, hz2⟩ := info_parts info5
            go_wp2
            go_loopw [8, 9] (fun v i wr => ∃ k : Nat, k ≤ j ∧ i = .int .i64 (k : Int) ∧ wr.ownsRow b 5 1 v (mb (l.take k)).length ((mb (l.take k)).map ub) ∧ Below b w wr) (fun _ i _ => j - (intOf i).toNat)
            case atStart => exact ⟨0, Nat.zero_le _, rfl, World.ownsRow_nil _ _ _ _, HBL.out⟩
            case round =>
              obtain ⟨k, hk, rfl, how, hb⟩ := hrel
              by_cases hlt : k < j
              · obtain ⟨ab, off, p, rfl, hbl, hp, hc⟩ := H.out.at k (by rw [HN.out]; exact hlt)
                have hc2 := hc.kept hb hbl
                have o := Pt.ok_iff.1 (allOk_iff.1 HOK2.out p (List.mem_of_getElem? hp))
                have hsz := sz_next hp
                have hz1' := sz_take l (k + 1)
                have HM := mkHid (mb_next hp)
                have HLE := mkHid (mb_len (l.take k))
                have HSL := mkHid (show (mb (l.take k)).length + (4 + p.d.size) ≤ 65536 by rw [HLE.out]; have := HX.out; omega)
                obtain ⟨c0, c1, c2, c3⟩ := hc2
                obtain ⟨pc, pt, d⟩ := p
                simp only at *
                obtain ⟨o0, o1, o2, o3, o4, o5⟩ := o
                obtain ⟨c, rfl⟩ : ∃ c : Nat, pc = c := ⟨pc.toNat, by omega⟩
                obtain ⟨tt, rfl⟩ : ∃ tt : Nat, pt = tt := ⟨pt.toNat, by omega⟩
                have hdz : (d.size : Int) ≤ 262140 := by omega
                obtain ⟨z, hz⟩ : ∃ z : Int, (d.size : Int) / 4 = z := ⟨_, rfl⟩
                have hzb0 : 0 ≤ z := by omega
                have hzb1 : z < 65536 := by omega
                have HZZ := mkHid hz
                have HOW := mkHid how
                have HBL2 := mkHid hb
                obtain ⟨va, vc, HV⟩ := ownsRow_slice how
                subst HV
                have hbz : b ≤ wr.heap.size := by have := hb.size; rw [HB.out] at this; exact this
                clear c3 hsz hz1' hp hc how hb o4 o5
                have hk0 : (0 : Int) ≤ k := by omega
                have hk1 : (k : Int) < j := by omega
                obtain ⟨M, HMM⟩ : ∃ M, Hid ((mb (l.take k)).length = M) := ⟨_, rfl⟩
                rw [HMM.out] at HOW HSL ⊢
                have HN1 := mkHid (show M + 4 ≤ maxLen by have := HSL.out; unfold maxLen; omega)
                have HN2 := mkHid (show (M + 4) * 1 ≤ 140737488355328 by have := HSL.out; omega)
                have hab : ¬ ab = wr.heap.size := by omega
                have hab2 : ab < wr.heap.size + 1 := by omega
                have HABL := mkHid (show ab < wr.heap.size by omega)
                have HAB := mkHid (show ¬ some ab = (Value.slice va M vc).ownBlock by intro e; have := HOW.out.lt ab e.symm; omega)
                go_wp2_with fail
                go_region_held3 (fun w' => w'.cell? ⟨ab, off + k * 3, none⟩ = some (.int .i64 (c : Int)) ∧ w'.cell? ⟨ab, off + k * 3 + 1, none⟩ = some (.int .i64 (tt : Int)))
                  (first | go_keep | exact ⟨k0, k1⟩)
                  ((refine step_append_lies _ (by rfl) _ _ _ (by rfl) b 5 i0 (.int .u8 0) 1 1 Try.underlying41 hi hz0 hz1 hz2 rfl (by decide) (.slice va M vc) M ((mb (l.take k)).map ub) (by rfl) (by exact HOW.out.alloc _) ⟨wr.heap.size, 0, none⟩ 4 4 [.int .u8 (IntKind.u8.wrap (IntKind.i64.wrap (128 + (c : Int)))), .int .u8 (IntKind.u8.wrap (tt : Int)), .int .u8 (IntKind.u8.wrap (z / 256)), .int .u8 (IntKind.u8.wrap z)] (by rfl) (by rfl) (by exact cell_four_new wr _ _ _ _ _) (by intro u hu; simp at hu; rcases hu with rfl | rfl | rfl | rfl <;> rfl) (by decide) HN1.out HN2.out (by simp; omega) _ rfl ?_; intro g cap w1 hown1 hgrow hat hlt; have k0 := (grown_cell hgrow (p := ⟨ab, off + k * 3, none⟩) HABL.out HAB.out).trans c0; have k1 := (grown_cell hgrow (p := ⟨ab, off + k * 3 + 1, none⟩) HABL.out HAB.out).trans c1; have k2 := (grown_cell hgrow (p := ⟨ab, off + k * 3 + 2, none⟩) HABL.out HAB.out).trans c2; have OW1 := mkHid hown1; have GR1 := mkHid hgrow; clear hown1 hgrow hat))
                have HN3 := mkHid (show M + 4 + d.size ≤ maxLen by have := HSL.out; unfold maxLen; omega)
                have HN4 := mkHid (show M + 4 + d.size ≤ 140737488355328 by have := HSL.out; omega)
                have hw1 : b ≤ w1.heap.size := by have := GR1.out.size; simp at this; omega
                have B1 := mkHid (Below.grown ((HBL2.out.alloc hbz (.cells #[.int .u8 (IntKind.u8.wrap (IntKind.i64.wrap (128 + (c : Int)))), .int .u8 (IntKind.u8.wrap (tt : Int)), .int .u8 (IntKind.u8.wrap (z / 256)), .int .u8 (IntKind.u8.wrap z)] 5)).drew) GR1.out (by show b ≤ (wr.alloc _).heap.size; simp; omega) (fun k e => (HOW.out.lt k e).1))
                clear hlt c0 c1 c2 k0 k1
                go_wp2_with (at_builtin; refine Lib.wpList_append_own_string _ rfl (.tmp 106) (.tmp 111) 41 9 rfl b 5 i0 Try.underlying41 Try.underlying9 hi hz0 hz1 hz2 (.slice (some ⟨g, 0, none⟩) (M + 4) cap) (M + 4) _ rfl OW1.out d rfl HN3.out HN4.out hw1 ?_; intro v2 w2 hown2 hgrow2 _; obtain ⟨va2, vc2, hv2⟩ := ownsRow_slice hown2; subst hv2; have OW2 := mkHid hown2; have B2 := mkHid (B1.out.grown hgrow2 hw1 (fun k e => (OW1.out.lt k e).1)); clear hown2 hgrow2)
                go_roundw
                case rel =>
                  refine ⟨k + 1, by omega, by go_num, ?_, B2.out⟩
                  have := OW2.out
                  rw [head_cells c tt d z HZZ.out, strCells_ub, ← List.map_append, ← List.map_append, List.append_assoc] at this
                  rw [HM.out, List.length_append, pb_len, HMM.out, ← Nat.add_assoc]
                  exact this
                case measure => simp [intOf]; omega
              · obtain rfl : k = j := by omega
                have hfull := how
                rw [← HN.out, List.take_length] at hfull
                have hcv := conv_row hfull
                have HBL2 := mkHid hb
                obtain ⟨va, vc, HV⟩ := ownsRow_slice how
                subst HV
                have HCE := mkHid (show (⟨(mb l).toArray⟩ : ByteArray) = bA l from rfl)
                rw [HCE.out] at hcv
                obtain ⟨S, HSS⟩ : ∃ S, Hid (bA l = S) := ⟨_, rfl⟩
                rw [HSS.out] at hcv
                clear how hb hfull
                go_wp2
                go_ret2
                exact ⟨by rw [HJ.out, HS.out, HSS.out]; rfl, HBL2.out⟩
end Go.Proofs.Ythapkeokgpnjgaa
