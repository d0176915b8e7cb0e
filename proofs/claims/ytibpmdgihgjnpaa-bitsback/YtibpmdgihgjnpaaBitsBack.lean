/-
  BitsBack: what was written is read, bit by bit.
-/
import Derived.Test.YtibpmdgihgjnpaaRows
import Derived.WalkKit
import Derived.ProofKit
import Derived.OpenShut
import Derived.ShutString
import Derived.ChangeOld
import Derived.Below
import Derived.Deep.Slices
import Derived.Test.YtibpmdgihgjnpaaBiS
namespace Go.Proofs.Ytibpmdgihgjnpaa.bitsBack
open Go.ChangeShapes Go.WideShapes Go.ChangeAt Go.RowKit
open Go.ChangeMaps (open_string shut_string)
set_option linter.unusedVariables false

theorem own : ownKnob Try.prog.godebug = none := by kernel_rfl
theorem laidOut : laidOutB Try.prog = true := by kernel_rfl

theorem open0 {H : Type} {enc : TypeId × Value → H} {W : World} {a : Option Addr} {len cap : Nat} {d : DataW H} {p : List MemPlace}
    (h : DataW.Trod enc Try.prog W 0 (fun _ => true) true 32 (.slice a len cap) d p) : StepsAt W a len := open_steps h
theorem q_bd (a : Int) : 0 ≤ (IntKind.u64.wrap a).tmod 33 ∧ (IntKind.u64.wrap a).tmod 33 < 33 := by
  have h : 0 ≤ IntKind.u64.wrap a := by rw [IntKind.wrap_u64]; omega
  exact ⟨Int.tmod_nonneg _ h, Int.tmod_lt_of_pos _ (by decide)⟩
/-- How many bits step i asks for. -/
def kz (N : Nat → Int) (i : Nat) : Nat := ((IntKind.u64.wrap (N i)).tmod 33).toNat
theorem kz_eq (N : Nat → Int) (i : Nat) : (IntKind.u64.wrap (N i)).tmod 33 = (kz N i : Int) := by have := q_bd (N i); unfold kz; omega
theorem kz_le (N : Nat → Int) (i : Nat) : kz N i ≤ 32 := by have := q_bd (N i); unfold kz; omega
/-- The bits of the first k steps. -/
def lbs (V N : Nat → Int) : Nat → List Bool
  | 0 => []
  | k + 1 => lbs V N k ++ bitsOf (V k).toNat (kz N k)
theorem lbs_len (V N : Nat → Int) (k : Nat) : (lbs V N k).length ≤ 32 * k := by
  induction k with
  | zero => simp [lbs]
  | succ k ih => have := kz_le N k; simp [lbs]; omega
theorem lbs_pre (V N : Nat → Int) (k d : Nat) : ∃ r, lbs V N (k + d) = lbs V N k ++ r := by
  induction d with
  | zero => exact ⟨[], by simp⟩
  | succ d ih =>
    obtain ⟨r, hr⟩ := ih
    exact ⟨r ++ bitsOf (V (k + d)).toNat (kz N (k + d)), by rw [← Nat.add_assoc, lbs, hr, List.append_assoc]⟩
theorem lbs_get (V N : Nat → Int) (k m : Nat) (h : k < m) : gv (packS (lbs V N m)) (lbs V N k).length (kz N k) = (V k).toNat % 2 ^ kz N k ∧ (lbs V N k).length + kz N k ≤ (lbs V N m).length ∧ (lbs V N (k + 1)).length = (lbs V N k).length + kz N k := by
  obtain ⟨r, hr⟩ := lbs_pre V N (k + 1) (m - (k + 1))
  rw [show k + 1 + (m - (k + 1)) = m by omega] at hr
  have e : lbs V N m = lbs V N k ++ (bitsOf (V k).toNat (kz N k) ++ r) := by rw [hr, lbs, List.append_assoc]
  refine ⟨?_, ?_, by simp [lbs]⟩
  · rw [gv_pack, e]; exact val_mid _ _ _ _
  · rw [e]; simp
theorem put_lbs (V N : Nat → Int) (k : Nat) (hk : k < 300) : putS (lbs V N k) (V k).toNat (kz N k) = lbs V N (k + 1) := by
  have h1 := lbs_len V N k
  have h2 := kz_le N k
  unfold putS
  rw [if_pos (by omega)]
  rfl
theorem tail_zero (l : List Bool) (n : Nat) : gv (packS l) l.length n = 0 := by
  rw [gv_pack]; exact val_zero _ _ _ fun i _ => lb_out _ _ (by omega)
theorem g_in (s : ByteArray) (p n : Nat) (h1 : n ≤ 32) (h2 : p + n ≤ 8 * s.size) : gval s (some p) n = (gv s p n : Int) ∧ gnext s (some p) n = some (p + n) := by
  have hc : 0 ≤ (n : Int) ∧ (n : Int) ≤ 32 ∧ (p : Int) + n ≤ 8 * s.size := by omega
  exact ⟨by simp only [gval]; rw [if_pos hc]; rfl, by simp only [gnext]; rw [if_pos hc]; rfl⟩
theorem want (x : Int) (x0 : 0 ≤ x) (x1 : x < 4294967296) (k : Nat) (hk : k < 32) : bits .and .u32 x ((2 ^ k - 1) % 4294967296) = ((x.toNat % 2 ^ k : Nat) : Int) := by
  obtain ⟨X, rfl⟩ : ∃ X : Nat, x = X := ⟨x.toNat, by omega⟩
  have p1 : 0 < 2 ^ k := Nat.two_pow_pos _
  have p2 : 2 ^ k ≤ 2 ^ 31 := Nat.pow_le_pow_right (by decide) (by omega)
  have e1 : (((2 : Int) ^ k - 1) % 4294967296) = ((2 ^ k - 1 : Nat) : Int) := by
    have : ((2 : Int) ^ k) = ((2 ^ k : Nat) : Int) := by simp
    rw [this]; omega
  rw [e1, u32_and_nat _ _ (by omega) (by omega), Nat.and_two_pow_sub_one_eq_mod, Int.toNat_natCast]
theorem want32 (x : Int) (x0 : 0 ≤ x) (x1 : x < 4294967296) (k : Nat) (hk : k = 32) : x = ((x.toNat % 2 ^ k : Nat) : Int) := by
  subst hk; omega
set_option maxRecDepth 100000 in
set_option maxHeartbeats 2000000 in
theorem walk (a0 : Option Addr) (len0 cap0 : Nat) (w : World) (w0 : StepsAt w a0 len0) :
    Calls Try.prog 5 #[.slice a0 len0 cap0] w fun e w' => e = .returned (.bool true) ∧ Below w.heap.size w w' := by
  obtain ⟨hm, K, V, N, hrow⟩ := w0
  unfold maxLen at hm
  have hlen : (len0 : Int) ≤ 9223372036854775807 := by omega
  have HROW := mkHid hrow
  clear hrow hm
  go_enter Try.func5, Try.ntmps5
  go_wp2_with fail
  refine (write_any _).mono ?_
  rintro e w1 ⟨rfl, h1, p1, s1⟩
  have H1 := mkHid h1
  have B1 := mkHid (p1.belowF w.heap.size (Nat.le_refl _))
  obtain ⟨wb, hrb⟩ : ∃ rb, w.heap.size = rb := ⟨_, rfl⟩
  rw [hrb]
  rw [hrb] at H1 B1
  have HRB := mkHid hrb
  clear h1 p1 s1 hrb
  go_upto_block 0 with fail
  go_cut [4] (fun s4 wc => ∃ M : Nat, M ≤ len0 ∧ M ≤ 300 ∧ (M = len0 ∨ M = 300) ∧ s4 = .int .i64 ((lbs V N M).length : Int) ∧ Below wb w wc ∧ ∃ v, Wr 55 wc wb v (lbs V N M))
  case first =>
    go_wp2_with fail
    go_loopw [4, 5] (fun s4 i wr => ∃ k : Nat, k ≤ len0 ∧ k ≤ 300 ∧ i = .int .i64 (k : Int) ∧ s4 = .int .i64 ((lbs V N k).length : Int) ∧ Below wb w wr ∧ ∃ v, Wr 55 wr wb v (lbs V N k)) (fun _ i _ => 300 - (intOf i).toNat)
    case atStart => exact ⟨0, Nat.zero_le _, by omega, rfl, rfl, B1.out, _, H1.out⟩
    case round =>
      clear H1 B1
      obtain ⟨k, hk, hk3, rfl, rfl, hb, v, hx⟩ := hrel
      have HX := mkHid hx
      have HB := mkHid hb
      have hll := lbs_len V N k
      by_cases hlt : k < len0 ∧ k < 300
      · obtain ⟨hl1, hl2⟩ := hlt
        rcases HROW.out with h0 | ⟨b, off, rfl, hbl, hrows⟩
        · omega
        obtain ⟨c0, c1, c2, x0, x1⟩ := hrows k hl1
        rw [HRB.out] at hbl
        have d1 := (hb.cell (p := ⟨b, off + k * 3 + 1, none⟩) hbl).trans c1
        have d2 := (hb.cell (p := ⟨b, off + k * 3 + 2, none⟩) hbl).trans c2
        have hkz := kz_eq N k
        have hkl := kz_le N k
        have HP := mkHid (put_lbs V N k hl2)
        have HG := mkHid (lbs_get V N k (k + 1) (by omega)).2.2
        clear hx hb c0 c1 c2 hrows
        generalize hLK : (lbs V N k).length = LK at *
        generalize hxx : V k = xx at *
        generalize hkk : kz N k = kk at *
        generalize hnn : N k = nn at *
        have HLK := mkHid hLK
        clear hLK hxx hkk hnn
        go_wp2_with fail
        refine (put_any wb v _ xx kk x0 x1 _ HX.out).mono ?_
        rw [HP.out]
        rintro e w3 ⟨rfl, v3, h3, t3⟩
        have B3 := mkHid (HB.out.trans (t3.below HX.out wb (Nat.le_refl _)))
        have H3 := mkHid h3
        clear h3 t3
        go_wp2
        go_roundw
        case rel => exact ⟨k + 1, by omega, by omega, by go_num, by rw [HG.out]; go_num, B3.out, v3, H3.out⟩
        case measure => simp [intOf]; omega
      · have hlt' : ¬ ((k : Int) < len0 ∧ (k : Int) < 300) := by omega
        have HM := mkHid (show k = len0 ∨ k = 300 by omega)
        clear hx hb hlt
        go_wp2_with fail
        all_goals
          go_meet
          case rel => exact ⟨k, hk, hk3, HM.out, rfl, HB.out, v, HX.out⟩
  case rest =>
    clear H1 B1
    obtain ⟨M, hM, hM3, hMM, rfl, hb, v, hx⟩ := hcut
    have HX := mkHid hx
    have HB := mkHid hb
    have HMM := mkHid hMM
    have hll := lbs_len V N M
    have zr : wb ≤ wc.heap.size := by have := hb.size; rw [HRB.out] at this; exact this
    clear hx hb hMM
    go_wp2_with fail
    refine (text_any wb v _ _ HX.out).mono ?_
    rintro e w2 ⟨rfl, rfl⟩
    have hS1 := packS_size (lbs V N M)
    have HT := mkHid (tail_zero (lbs V N M))
    have HG := mkHid (fun k (hk : k < M) => lbs_get V N k M hk)
    obtain ⟨S, hS⟩ : ∃ S, packS (lbs V N M) = S := ⟨_, rfl⟩
    rw [hS]
    rw [hS] at hS1 HT HG
    have HSS := mkHid hS
    clear hS
    go_wp2_with fail
    refine (read_any S _).mono ?_
    rintro e w3 ⟨rfl, h3, p3, s3⟩
    obtain ⟨rb, hrb⟩ : ∃ rb, w2.heap.size = rb := ⟨_, rfl⟩
    have hwl := HX.out.lt
    have HX3 := mkHid (HX.out.kept p3 (fun h => h) (fun _ _ h => h))
    have B3 := mkHid (HB.out.trans (p3.belowF wb zr))
    have HOWN := mkHid (fun x => fun hx => (HX.out.ownlt x hx).2)
    rw [hrb]
    rw [hrb] at h3 zr hwl HOWN
    have H3 := mkHid h3
    clear h3 p3 s3 hrb HX HB
    obtain ⟨LM, hLM⟩ : ∃ LM, (lbs V N M).length = LM := ⟨_, rfl⟩
    rw [hLM]
    rw [hLM] at hS1 HT HG hll
    have HLM := mkHid hLM
    clear hLM
    have hs1 : S.size ≤ 1000000 := by omega
    go_upto_block 2 with fail
    go_cut [] (fun wc => Below wb w wc ∧ Rd 48 wc rb S (some LM) ∧ Wr 55 wc wb v (lbs V N M))
    case first =>
      go_wp2_with fail
      go_loopw [8] (fun i wr => ∃ k : Nat, k ≤ M ∧ i = .int .i64 (k : Int) ∧ Below wb w wr ∧ Rd 48 wr rb S (some (lbs V N k).length) ∧ Wr 55 wr wb v (lbs V N M)) (fun i _ => 300 - (intOf i).toNat)
      case atStart => exact ⟨0, Nat.zero_le _, rfl, B3.out, H3.out, HX3.out⟩
      case round =>
        clear H3 B3 HX3
        obtain ⟨k, hk, rfl, hb, hr, hx⟩ := hrel
        have HX := mkHid hx
        have HB := mkHid hb
        have HR := mkHid hr
        by_cases hlt : k < M
        · have hl1 : k < len0 := by omega
          have hl2 : k < 300 := by omega
          rcases HROW.out with h0 | ⟨b, off, rfl, hbl, hrows⟩
          · omega
          obtain ⟨c0, c1, c2, x0, x1⟩ := hrows k hl1
          rw [HRB.out] at hbl
          have d1 := (hb.cell (p := ⟨b, off + k * 3 + 1, none⟩) hbl).trans c1
          have d2 := (hb.cell (p := ⟨b, off + k * 3 + 2, none⟩) hbl).trans c2
          have hkz := kz_eq N k
          have hkl := kz_le N k
          obtain ⟨g1, g2, g3⟩ := HG.out k hlt
          have G1 := mkHid g1
          have G2 := mkHid g2
          have G3 := mkHid g3
          clear hx hb hr c0 c1 c2 hrows g1 g2 g3
          generalize hLK : (lbs V N k).length = LK at *
          generalize hxx : V k = xx at *
          generalize hkk : kz N k = kk at *
          generalize hnn : N k = nn at *
          clear hLK hxx hkk hnn
          have GI := mkHid (g_in S LK kk hkl (by have := G2.out; omega))
          by_cases h32 : kk < 32
          · go_wp2_with fail
            refine (get_any rb S hs1 _ _ _ HR.out).mono ?_
            rw [GI.out.1, GI.out.2, G1.out, want xx x0 x1 kk h32]
            rintro e w4 ⟨rfl, h4, p4⟩
            have H4 := mkHid h4
            have X4 := mkHid (HX.out.kept p4 (by omega) (fun x hx => by have := HOWN.out x hx; omega))
            have B4 := mkHid (HB.out.trans (p4.belowE wb (by have := HX.out.lt; omega) (by omega)))
            clear h4 p4
            generalize xx.toNat % 2 ^ kk = VV
            go_wp2
            go_roundw
            case rel => exact ⟨k + 1, by omega, by go_num, B4.out, by rw [G3.out]; exact H4.out, X4.out⟩
            case measure => simp [intOf]; omega
          · have hw := want32 xx x0 x1 kk (by omega)
            obtain ⟨yy, hyy⟩ : ∃ yy, ((xx.toNat % 2 ^ kk : Nat) : Int) = yy := ⟨_, rfl⟩
            rw [hyy] at hw
            have HW := mkHid hyy
            clear hyy
            subst hw
            go_wp2_with fail
            refine (get_any rb S hs1 _ _ _ HR.out).mono ?_
            rw [GI.out.1, GI.out.2, G1.out, HW.out]
            rintro e w4 ⟨rfl, h4, p4⟩
            have H4 := mkHid h4
            have X4 := mkHid (HX.out.kept p4 (by omega) (fun x hx => by have := HOWN.out x hx; omega))
            have B4 := mkHid (HB.out.trans (p4.belowE wb (by have := HX.out.lt; omega) (by omega)))
            clear h4 p4
            go_wp2
            go_roundw
            case rel => exact ⟨k + 1, by omega, by go_num, B4.out, by rw [G3.out]; exact H4.out, X4.out⟩
            case measure => simp [intOf]; omega
        · have HM := mkHid (show k = M by omega)
          have HMM' := HMM.out
          have hlt' : ¬ ((k : Int) < len0 ∧ (k : Int) < 300) := by omega
          clear hx hb hr hlt HMM'
          go_wp2_with fail
          all_goals
            go_meet
            case rel => exact ⟨HB.out, by have := HR.out; rw [HM.out, HLM.out] at this; exact this, HX.out⟩
    case rest =>
      clear H3 B3 HX3
      obtain ⟨hb, hr, hx⟩ := hcut
      have HX := mkHid hx
      have HB := mkHid hb
      have HR := mkHid hr
      have zc : wb ≤ wc.heap.size := by have := hb.size; rw [HRB.out] at this; exact this
      clear hx hb hr
      obtain ⟨lf, hlf, hlf8⟩ : ∃ lf : Nat, gleft S (some LM) = (lf : Int) ∧ LM + lf = 8 * S.size := ⟨8 * S.size - LM, by simp only [gleft]; omega, by omega⟩
      have hlf7 : lf < 8 := by omega
      have GI := mkHid (g_in S LM lf (by omega) (by omega))
      have HLF := mkHid hlf
      clear hlf
      go_wp2_with fail
      refine (bad_any rb S _ _ HR.out).mono ?_
      rintro e w4 ⟨rfl, rfl⟩
      unfold gbad
      go_wp2_with fail
      refine (left_any rb S hs1 _ _ HR.out).mono ?_
      rw [HLF.out]
      rintro e w5 ⟨rfl, n5, rfl⟩
      go_wp2_with fail
      refine (left_any rb S hs1 _ _ (drew_rd n5 HR.out)).mono ?_
      rw [HLF.out]
      rintro e w6 ⟨rfl, n6, rfl⟩
      go_wp2_with fail
      refine (get_any rb S hs1 _ _ _ (drew_rd (n5 + n6) HR.out)).mono ?_
      rw [GI.out.1, GI.out.2, HT.out lf]
      rintro e w7 ⟨rfl, h7, p7⟩
      have hxl := HX.out.lt
      have p8 := ((Apart.refl (· = rb) w4).drewN (n5 + n6)).trans p7 (fun _ _ h => h)
      have X7 := mkHid (HX.out.kept p8 (by omega) (fun x hx => by have := HOWN.out x hx; omega))
      have B7 := mkHid (HB.out.trans (p8.belowE wb zc (by omega)))
      have z7 : wb ≤ w7.heap.size := by have := p8.size; omega
      clear h7 p7 p8
      go_wp2_with fail
      refine (text_any wb v _ _ X7.out).mono ?_
      rw [HSS.out]
      rintro e w8 ⟨rfl, rfl⟩
      have hS2 : (S.size : Int) = ((LM : Int) + 7) / 8 := by omega
      go_wp2_with fail
      refine (wakes_any _).mono ?_
      rintro e w9 ⟨rfl, hb9⟩
      go_wp2
      go_ret
      exact ⟨rfl, by rw [HRB.out]; exact B7.out.trans (hb9.mono z7)⟩

set_option maxRecDepth 100000 in
theorem lifted (os : Os) (started : os.Started) (H : Type) (enc : TypeId × Value → H) :
    ReturnsInHanded {} Try.checked os 5 .any (Rows.bitsBackSpec.pre6 enc Try.prog Try.f5 Rows.bitsBackRow.domain false) (Rows.bitsBackSpec.post enc Try.prog Try.f5 false true false false) := by
  refine returnsInHanded_of_change (C := Try.checked) own started (by kernel_rfl) Try.func5
    (ChangeSpec.witness6 (enc := enc) (C := Try.checked) false ⟨#[], #[.slice none 0 0], []⟩ 8 (by kernel_rfl) (by kernel_rfl) (by kernel_rfl) (by kernel_rfl)) ?_
  intro W base args ds gs before hval0 hW hcnd _
  have hval : ∀ (j : Nat) t v, Try.f5.params[j]? = some t → args[j]? = some v → Value.okWide Try.prog W .any base t v := hval0
  have hW' := hW
  obtain ⟨p, q, hA0, hV, rfl, hfz, hnd⟩ := hW
  have hA : DataW.TrodAll enc Try.prog W 0 (fun _ => true) true Try.f5.params.toList args.toList ds p := hA0
  rw [Try.params5] at hA hval
  obtain ⟨v0, vs0, d0, ds0, p0, q0, hargs, rfl, rfl, h0, r0⟩ := trodAll_cons hA
  obtain ⟨rfl, rfl, rfl⟩ := trodAll_nil r0
  obtain rfl : args = #[v0] := by cases args; simp_all
  obtain ⟨rfl, rfl⟩ := trodVars_none hV
  obtain ⟨a0, len0, cap0, rfl⟩ := okWide_slice Try.underlying32 (hval 0 32 v0 rfl rfl)
  have k0 := h0
  have lt0 : ∀ x ∈ p0, x.block < W.heap.size := by obtain ⟨m, hm⟩ := k0; exact DataW.trod_lt m _ _ _ hm
  have w0 := open0 h0
  clear hA0 hval0
  refine (walk a0 len0 cap0 W w0).mono fun e W' ⟨he, bel⟩ => ?_
  subst he
  exact ⟨_, rfl, _, _, _, [], _, [], hW', trodAll_mk1 (shut_bool Try.underlying4 _), (trodAll_cons_mk (Below.trod laidOut (by kernel_rfl) (of_decide_eq_true (by kernel_rfl)) k0 bel lt0) trodAll_mk0), rfl, bel.frame _, fun h => by cases h⟩

theorem over : Rows.bitsBackRow.holds Try.pinned (OpenSpec.ofChange Rows.bitsBackSpec) :=
  OpenClaim.holds_of_wide 5 Try.f5 rfl rfl rfl rfl rfl rfl rfl ⟨rfl, rfl, rfl, rfl, rfl⟩ rfl rfl rfl rfl rfl (by kernel_rfl) Try.func5 (by kernel_rfl)
    (of_decide_eq_true (by kernel_rfl)) (by unfold Func.isWrapper; first | (rw [if_pos (by decide +kernel)]; kernel_rfl) | (rw [if_neg (by decide +kernel)]; exact ⟨rfl, rfl⟩))
    (fun os started H enc _ => lifted os started H enc)
end Go.Proofs.Ytibpmdgihgjnpaa.bitsBack
namespace Go.Proofs.Ytibpmdgihgjnpaa
/-- The statement. -/
theorem bitsBack_holds : Rows.BitsBackSaid := bitsBack.over
#print axioms bitsBack_holds
end Go.Proofs.Ytibpmdgihgjnpaa
