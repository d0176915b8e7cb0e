/-
  What the reference's Encode hands back.
-/
import Derived.Test.YtdhbakknplnnkaaGreatTw3
import Derived.Test.YtdhbakknplnnkaaGreatTw1
import Derived.Deep.RegionHeld3
namespace Go.Proofs.YtdhbakknplnnkaaGreat.Tw
open Go.RowKit

theorem rput_fit (b : Nat) (v : Value) (l : List Bool) (x n : Int) (X m : Nat) (eX : x = X) (e : n = m) (x1 : X < 4294967296) (hm : m ≤ 32) (hl : l.length + m ≤ 524288) (w : World) (h : Wr 120 w b v l) :
    Calls Tryz.prog 31 #[.pointer (some ⟨b, 0, none⟩), .int .u32 x, .int .i64 n] w fun e w' => e = .returned (.tuple #[]) ∧ ∃ v', Wr 120 w' b v' (l ++ bitsOf X m) ∧ Tch b v v' w w' := by
  subst e eX
  exact rput_in b v l X m (by omega) (by omega) hm hl w h
/-- Where the reference's Encode stands: the box, the writer, what was there. -/
structure Rw (w w' : World) (bx wb : Nat) (o : Obj) (v : Value) (l : List Bool) : Prop where
  x : Bx o w' bx wb v
  r : Wr 120 w' wb v l
  a : Apart (fun _ => False) w w'
  z : w.heap.size ≤ bx
  lt : bx < wb
theorem Rw.next {w w' w'' : World} {bx wb : Nat} {o : Obj} {v v' : Value} {l l' : List Bool} (h : Rw w w' bx wb o v l) (r : Wr 120 w'' wb v' l') (t : Tch wb v v' w' w'') : Rw w w'' bx wb o v' l' :=
  ⟨h.x.next t, r, h.a.trans t.ap (fun i hi e => by
    have := h.z
    have := h.lt
    rcases e with e | e
    · omega
    · have := (h.r.ownlt _ e).1; omega), h.z, h.lt⟩
theorem Rw.ap {w w' w'' : World} {bx wb : Nat} {o : Obj} {v : Value} {l : List Bool} (h : Rw w w' bx wb o v l) (a : Apart (fun _ => False) w' w'') : Rw w w'' bx wb o v l :=
  h.next (h.r.kept a (fun h => h) (fun _ _ h => h)) ⟨a.mono (fun _ _ h => h.elim), fun _ h => .inl h⟩
set_option maxRecDepth 100000 in
set_option maxHeartbeats 400000 in
theorem ralike_any (B at_ c : Nat) (a : Option Addr) (l : List Int) (hat : at_ < l.length) (hl4 : l.length ≤ 4096) (w : World) (hB : B ≤ w.heap.size) (h : IA B w a c l) :
    Calls Tryz.prog 35 #[.slice a l.length c, .int .i64 (at_ : Int)] w fun e w' => e = .returned (.int .i64 (alk (l.drop at_) : Int)) ∧ Apart (fun _ => False) w w' := by
  have H := mkHid h
  obtain ⟨b, off, s0, rfl, _, hs, c0⟩ := h.at at_ hat
  have e0 : (l.drop at_).getD 0 0 = s0 := by rw [drop_at hs]; rfl
  unfold alk
  rw [e0]
  obtain ⟨n, HN⟩ : ∃ n, Hid (l.length = n) := ⟨_, rfl⟩
  obtain ⟨r, HR⟩ : ∃ r, Hid (cnt s0 (l.drop at_) = r) := ⟨_, rfl⟩
  rw [HN.out] at hat hl4 ⊢
  rw [HR.out]
  have n4 : (n : Int) ≤ 4096 := by omega
  have at0 : (0 : Int) ≤ at_ := by omega
  have at1 : (at_ : Int) < n := by omega
  have C0 := mkHid c0
  have HSO := mkHid hs
  clear h hs e0 c0
  go_enter Tryz.func35, Tryz.ntmps35
  go_wp2
  go_loopw [5] (fun i wr => ∃ k : Nat, at_ + k ≤ n ∧ i = .int .i64 (k : Int) ∧ r = k + cnt s0 (l.drop (at_ + k)) ∧ Apart (fun _ => False) w wr) (fun i _ => n - (intOf i).toNat)
  case atStart => exact ⟨0, by omega, rfl, by rw [Nat.add_zero, HR.out]; omega, Apart.refl _ _⟩
  case round =>
    obtain ⟨k, hk, rfl, hr, hap⟩ := hrel
    have HRR := mkHid hr
    have HAP := mkHid hap
    have d0 := (HAP.out.cell (p := ⟨b, off + at_, none⟩) (by have := World.block_lt_of_cell? w _ C0.out; exact this) (fun h => h)).trans C0.out
    clear hr hap
    have k0 : (0 : Int) ≤ k := by omega
    by_cases hlt : at_ + k < n
    · obtain ⟨b', off', x, e1, _, hx, c1⟩ := (H.out.kept (HAP.out.belowF B hB)).at (at_ + k) (by rw [HN.out]; exact hlt)
      simp only [Option.some.injEq, Addr.mk.injEq, and_true] at e1
      obtain ⟨rfl, rfl⟩ := e1
      have HX := mkHid (cnt_at (s := s0) hx)
      have hg : decide ((at_ : Int) + k < n) = true := decide_eq_true (by omega)
      have hg2 : (at_ : Int) + k < n := by omega
      clear hx
      by_cases h0 : x = s0
      · subst h0
        rw [if_pos rfl] at HX
        go_wp2_with fail
        go_quiet (fail)
        go_wp2
        go_roundw
        case rel => exact ⟨k + 1, by omega, by go_num, by have := HRR.out; rw [HX.out] at this; rw [show at_ + (k + 1) = at_ + k + 1 from rfl]; omega, HAP.out.drewN _⟩
        case measure => simp [intOf]; omega
      · rw [if_neg h0] at HX
        have h0' : (x == s0) = false := by simpa using h0
        go_wp2_with fail
        go_quiet (fail)
        go_wp2
        go_ret
        exact ⟨ret_i (by rw [HRR.out, HX.out]; rfl), HAP.out.drewN _⟩
    · have hg : decide ((at_ : Int) + k < n) = false := decide_eq_false (by omega)
      have HE := mkHid (show r = k by rw [HRR.out, List.drop_of_length_le (by rw [HN.out]; omega)]; rfl)
      go_wp2_with fail
      go_quiet (fail)
      go_wp2
      go_ret
      exact ⟨ret_i (by rw [HE.out]), HAP.out.drewN _⟩
set_option maxRecDepth 100000 in
set_option maxHeartbeats 1000000 in
theorem rrow_any (S k : Nat) (hS : S = 14 ∧ k = 1 ∨ S = 7 ∧ k = 2) (b : Nat) (v : Value) (L : List Bool) (a : Option Addr) (c : Nat) (l : List Int) (h2 : ∀ s ∈ l, 0 ≤ s ∧ s ≤ 2) (hl : L.length + 14 ≤ 524288) (w : World) (h : Wr 120 w b v L) (hi : IA b w a c l) :
    Calls Tryz.prog 36 #[.pointer (some ⟨b, 0, none⟩), .slice a l.length c, .int .i64 (S : Int), .int .i64 (k : Int)] w fun e w' => e = .returned (.tuple #[]) ∧ ∃ v', Wr 120 w' b v' (L ++ rowB k (l.take S) ++ bitsOf 0 (14 - k * min S l.length)) ∧ Tch b v v' w w' := by
  have H := mkHid h
  have HI := mkHid hi
  have HL := mkHid hl
  have H2 := mkHid h2
  have HS := mkHid hS
  have m1 := hi.len
  have HKS := mkHid (show k * S = 14 by rcases hS with ⟨rfl, rfl⟩ | ⟨rfl, rfl⟩ <;> rfl)
  have hk2 : k ≤ 2 := by omega
  obtain ⟨n, HN⟩ : ∃ n, Hid (l.length = n) := ⟨_, rfl⟩
  rw [HN.out] at m1 ⊢
  have hs14 : (S : Int) ≤ 14 := by omega
  clear h hi hl h2 hS
  go_enter Tryz.func36, Tryz.ntmps36
  go_wp2
  go_loopw [8] (fun i wr => ∃ (j : Nat) (vj : Value), j ≤ S ∧ i = .int .i64 (j : Int) ∧ Wr 120 wr b vj (L ++ rowB k (l.take j) ++ bitsOf 0 (k * (j - n))) ∧ Tch b v vj w wr ∧ IA b wr a c l) (fun i _ => S - (intOf i).toNat)
  case atStart => exact ⟨0, v, Nat.zero_le _, rfl, by simpa [rowB, bitsOf] using H.out, Tch.refl _ _ _, HI.out⟩
  case round =>
    obtain ⟨j, vj, hj, rfl, hw, ht, hij⟩ := hrel
    have HW := mkHid hw
    have HT := mkHid ht
    have HJ := mkHid hij
    clear hw ht hij H HI
    have j0 : (0 : Int) ≤ j := by omega
    by_cases hlt : j < S
    · have j1 : (j : Int) < S := by omega
      have HKJ := mkHid (show k * j + k ≤ 14 by rcases HS.out with ⟨rfl, rfl⟩ | ⟨rfl, rfl⟩ <;> omega)
      by_cases hjn : j < n
      · obtain ⟨bq, off, x, rfl, _, hx, c0⟩ := HJ.out.at j (by rw [HN.out]; omega)
        have HX := mkHid (rowB_take (k := k) hx)
        obtain ⟨x0, x1⟩ := H2.out x (List.mem_of_getElem? hx)
        have hjn' : (j : Int) < n := by omega
        have e1 : j - n = 0 := by omega
        have e2 : j + 1 - n = 0 := by omega
        have HE := mkHid (show (L ++ rowB k (l.take j) ++ bitsOf 0 (k * (j - n))).length = L.length + k * j by
          rw [e1, Nat.mul_zero]; simp [bitsOf]; congr 1; have := HN.out; omega)
        clear hx
        go_wp2_with fail
        refine (rput_fit b vj _ _ _ x.toNat k (by omega) rfl (by omega) (by omega) (by rw [HE.out]; have := HL.out; have := HKJ.out; omega) _ HW.out).mono ?_
        rintro e w1 ⟨rfl, v1, h1, t1⟩
        have R1 := mkHid h1
        have T1 := mkHid (HT.out.trans t1)
        have I1 := mkHid (HJ.out.kept (t1.below HW.out b (Nat.le_refl _)))
        clear h1 t1 c0 HJ HT HW
        go_wp2
        go_roundw
        case rel =>
          refine ⟨j + 1, v1, by omega, by go_num, ?_, T1.out, I1.out⟩
          have := R1.out
          rw [e1, Nat.mul_zero] at this
          rw [e2, Nat.mul_zero, HX.out]
          simpa [bitsOf] using this
        case measure => simp [intOf]; omega
      · have hjn' : (n : Int) ≤ j := by omega
        have HE := mkHid (show (L ++ rowB k (l.take j) ++ bitsOf 0 (k * (j - n))).length = L.length + k * j by
          have e : k * j = k * n + k * (j - n) := by rw [← Nat.mul_add]; congr 1; omega
          rw [List.length_append, List.length_append, rowB_len, bitsOf_len, List.length_take, HN.out, Nat.min_eq_right (by omega)]; omega)
        go_wp2_with fail
        refine (rput_fit b vj _ _ _ 0 k rfl rfl (by omega) (by omega) (by rw [HE.out]; have := HL.out; have := HKJ.out; omega) _ HW.out).mono ?_
        rintro e w1 ⟨rfl, v1, h1, t1⟩
        have R1 := mkHid h1
        have T1 := mkHid (HT.out.trans t1)
        have I1 := mkHid (HJ.out.kept (t1.below HW.out b (Nat.le_refl _)))
        clear h1 t1 HJ HT HW
        go_wp2
        go_roundw
        case rel =>
          refine ⟨j + 1, v1, by omega, by go_num, ?_, T1.out, I1.out⟩
          have := R1.out
          have e : k * (j + 1 - n) = k * (j - n) + k := by rw [show j + 1 - n = (j - n) + 1 by omega, Nat.mul_add, Nat.mul_one]
          have e3 : bitsOf 0 (k * (j - n) + k) = bitsOf 0 (k * (j - n)) ++ bitsOf 0 k := by rw [bitsOf_zero, bitsOf_zero, bitsOf_zero, List.replicate_append_replicate]
          rw [e, e3, List.take_of_length_le (by rw [HN.out]; omega)]
          rw [List.take_of_length_le (by rw [HN.out]; omega)] at this
          simp only [List.append_assoc] at this ⊢
          exact this
        case measure => simp [intOf]; omega
    · obtain rfl : j = S := by omega
      have HE := mkHid (show k * (j - n) = 14 - k * min j n by
        have e : k * j = k * min j n + k * (j - n) := by rw [← Nat.mul_add]; congr 1; omega
        rw [← HKS.out, e]; omega)
      go_wp2
      go_returns
      refine ⟨rfl, vj, ?_, HT.out⟩
      have := HW.out
      rw [HE.out] at this
      exact this
end Go.Proofs.YtdhbakknplnnkaaGreat.Tw
namespace Go.Proofs.YtdhbakknplnnkaaGreat.Tw
open Go.RowKit

theorem b22 : bitsOf 2 2 = bitsOf 1 1 ++ bitsOf 0 1 := by decide
theorem b32 : bitsOf 3 2 = bitsOf 1 1 ++ bitsOf 1 1 := by decide
theorem bits_low (c m : Nat) (k : Nat) (h : m ≤ k) (d : Nat) (e : d = c % 2 ^ k) : bitsOf d m = bitsOf c m := by rw [e, bitsOf_mod c k m h]
theorem u32_24 (b : Int) : bits .and .u32 (IntKind.u32.wrap b) 16777215 = ((u32 b % 2 ^ 24 : Nat) : Int) := by
  have e : IntKind.u32.wrap b = (u32 b : Int) := by rw [IntKind.wrap_u32]; unfold u32; omega
  rw [e, u32_and (u32 b) 24 (by omega) 16777215 (by decide) (u32_lt b)]
/-- Whether a two stands among the first ones. -/
theorem take_two {l : List Int} {i : Nat} {x : Int} (h : l[i]? = some x) : (l.take (i + 1)).contains 2 = ((l.take i).contains 2 || decide (x = 2)) := by
  rw [List.take_add_one, h, Bool.eq_iff_iff]
  simp
  constructor
  · rintro (h | h)
    · exact .inl h
    · exact .inr h.symm
  · rintro (h | h)
    · exact .inl h
    · exact .inr h.symm
theorem kind_two {l : List Int} (h : ¬ min 7 l.length ≤ alk l) : ((l.take 14).contains 2 = true → kind l = 2) ∧ ((l.take 14).contains 2 = false → kind l = 1) := by
  unfold kind
  rw [if_neg h]
  constructor
  · intro h2; rw [if_pos h2]
  · intro h2; rw [if_neg (by rw [h2]; decide)]
set_option maxRecDepth 100000 in
set_option maxHeartbeats 4000000 in
theorem renc_any (r : Rp) (a : Option Addr) (c : Nat) (a' : Option Addr) (c' : Nat) (w : World) (h : IA w.heap.size w a c r.st) (h' : IA w.heap.size w a' c' r.dl) (s0 : 0 ≤ r.sd) (s1 : r.sd < 4294967296) (t0 : 0 ≤ r.md) (t1 : r.md < 4294967296) :
    Calls Tryz.prog 16 #[rv r a r.st.length c a' r.dl.length c'] w fun e w' => e = .returned (.tuple #[.string (encS r), .int .i64 (encE r)]) ∧ Below w.heap.size w w' := by
  have A0 := mkHid ((Apart.refl (fun _ => False) w).alloc (.cells #[.int .u32 r.sd, .int .u32 r.md, .int .i64 r.fi, .int .i64 r.ba, .int .i64 r.co, .slice a r.st.length c, .slice a' r.dl.length c'] 63))
  have N0 := mkHid (heap_alloc_new w (.cells #[.int .u32 r.sd, .int .u32 r.md, .int .i64 r.fi, .int .i64 r.ba, .int .i64 r.co, .slice a r.st.length c, .slice a' r.dl.length c'] 63))
  have I0 := mkHid (h.on A0.out.belowZ)
  have J0 := mkHid (h'.on A0.out.belowZ)
  have GD := mkHid (rgood_any r a c a' c' _ I0.out J0.out)
  have IA0 := mkHid h
  have JA0 := mkHid h'
  have m1 := h.len
  have m2 := h'.len
  unfold rv at GD ⊢
  have HG0 := mkHid (@goodR_iff r)
  have HBL := mkHid (@bodyB_len r)
  obtain ⟨sd, md, fi, ba, co, st, dl⟩ := r
  simp only at *
  obtain ⟨n, HN⟩ : ∃ n, Hid (st.length = n) := ⟨_, rfl⟩
  obtain ⟨m, HM⟩ : ∃ m, Hid (dl.length = m) := ⟨_, rfl⟩
  rw [HN.out, HM.out] at A0 N0 GD ⊢
  rw [HN.out] at m1
  rw [HM.out] at m2
  rw [HN.out, HM.out] at I0 J0
  obtain ⟨bx, HBX⟩ : ∃ bx, Hid (w.heap.size = bx) := ⟨_, rfl⟩
  obtain ⟨W, HW⟩ : ∃ W, Hid (w.alloc (.cells #[.int .u32 sd, .int .u32 md, .int .i64 fi, .int .i64 ba, .int .i64 co, .slice a n c, .slice a' m c'] 63) = W) := ⟨_, rfl⟩
  rw [HBX.out, HW.out] at N0
  rw [HW.out] at A0 I0 J0 GD
  obtain ⟨c0, c1, c2, c3, c4, c5, c6⟩ := cells7 N0.out
  clear h h'
  cases hg : goodR ⟨sd, md, fi, ba, co, st, dl⟩ with
  | false =>
    rw [hg] at GD
    obtain ⟨q1, q2⟩ := encE_no hg
    rw [q1, q2]
    clear q1 q2 hg
    go_enter Tryz.func16, Tryz.ntmps16
    go_wp2_with fail
    rw [HW.out, HBX.out]
    go_wp2_with fail
    refine (GD.out).mono ?_
    rintro e w1 ⟨rfl, a1⟩
    have A1 := mkHid (A0.out.zz a1)
    clear a1
    go_wp2
    go_ret2
    exact ⟨rfl, A1.out.belowZ⟩
  | true =>
    rw [hg] at GD
    have HG := mkHid hg
    obtain ⟨q1, q2⟩ := encE_yes hg
    have Q1 := mkHid q1
    have Q2 := mkHid q2
    obtain ⟨⟨f0, f1⟩, ⟨g0, g1⟩, ⟨k0, k1⟩, ⟨n0, n1⟩, hmt⟩ := HG0.out.1 hg
    try simp only at f0 f1 g0 g1 k0 k1 n0 n1 hmt
    have HMT := mkHid hmt
    have HS2 := mkHid (mat_012 hmt)
    have HL := mkHid (HBL.out hg)
    have HLT := mkHid (show 128 + (chB st).length + (dls st dl).length ≤ 524288 - 32 by have := HL.out.2.1; simp [bodyB] at this; omega)
    have HN4 := mkHid n1
    rw [HN.out] at n0 n1
    have n1' : (n : Int) ≤ 4096 := by omega
    have hu24 := u32_24 ba
    obtain ⟨B24, HB24⟩ : ∃ x : Nat, Hid (u32 ba % 2 ^ 24 = x) := ⟨_, mkHid rfl⟩
    rw [HB24.out] at hu24
    have HB4 := mkHid (show bitsOf B24 24 = bitsOf (u32 ba) 24 from bits_low (u32 ba) 24 24 (Nat.le_refl _) _ HB24.out.symm)
    have HB5 := mkHid (show B24 < 4294967296 by rw [← HB24.out]; have := Nat.mod_lt (u32 ba) (show 0 < 2 ^ 24 by decide); simp only [Nat.reducePow] at *; omega)
    rw [Q1.out, Q2.out]
    clear q1 q2 hg hmt HG0 HBL HL
    go_enter Tryz.func16, Tryz.ntmps16
    go_wp2_with fail
    rw [HW.out, HBX.out]
    go_wp2_with fail
    refine (GD.out).mono ?_
    rintro e w1 ⟨rfl, a1⟩
    have A1 := mkHid (A0.out.zz a1)
    have N1 := mkHid (a1.heap N0.out (fun h => h))
    clear a1 c0 c1 c2 c3 c4 c5 c6 N0 I0 J0 GD A0
    obtain ⟨wb, HWB⟩ : ∃ wb, Hid (w1.heap.size = wb) := ⟨_, rfl⟩
    have hbw : bx < wb := by rw [← HWB.out]; exact lt_of_heap N1.out
    have HCC := mkHid (fun (w' : World) (wb : Nat) (v : Value) (l : List Bool) (R : Rw w w' bx wb (.cells #[.int .u32 sd, .int .u32 md, .int .i64 fi, .int .i64 ba, .int .i64 co, .slice a n c, .slice a' m c'] 63 (0, 0)) v l) => cells7 R.x.heap)
    go_wp2_with fail
    refine (rwrite_any _).mono ?_
    rw [HWB.out]
    rintro e w3 ⟨rfl, r3, a3, z3⟩
    have R3 := mkHid (show Rw w w3 bx wb (.cells #[.int .u32 sd, .int .u32 md, .int .i64 fi, .int .i64 ba, .int .i64 co, .slice a n c, .slice a' m c'] 63 (0, 0)) (.slice none 0 0) [] from ⟨⟨a3.heap N1.out (fun h => h), by omega, fun e => by cases e⟩, r3, A1.out.zz a3, by rw [HBX.out]; exact Nat.le_refl _, hbw⟩)
    clear r3 a3 z3 N1 A1
    obtain ⟨c0, c1, c2, c3, c4, c5, c6⟩ := HCC.out _ _ _ _ R3.out
    go_wp2_with fail
    refine (rput_fit wb _ _ _ _ sd.toNat 32 (by omega) rfl (by omega) (by omega) (by simp) _ R3.out.r).mono ?_
    rintro e w4 ⟨rfl, v4, r4, t4⟩
    have R4 := mkHid (R3.out.next r4 t4)
    clear r4 t4 c0 c1 c2 c3 c4 c5 c6 R3
    obtain ⟨c0, c1, c2, c3, c4, c5, c6⟩ := HCC.out _ _ _ _ R4.out
    go_wp2_with fail
    refine (rput_fit wb v4 _ _ _ md.toNat 32 (by omega) rfl (by omega) (by omega) (by simp) _ R4.out.r).mono ?_
    rintro e w5 ⟨rfl, v5, r5, t5⟩
    have R5 := mkHid (R4.out.next r5 t5)
    clear r5 t5 c0 c1 c2 c3 c4 c5 c6 R4
    obtain ⟨c0, c1, c2, c3, c4, c5, c6⟩ := HCC.out _ _ _ _ R5.out
    go_wp2_with fail
    refine (rput_fit wb v5 _ _ _ fi.toNat 16 (by omega) rfl (by omega) (by omega) (by simp) _ R5.out.r).mono ?_
    rintro e w6 ⟨rfl, v6, r6, t6⟩
    have R6 := mkHid (R5.out.next r6 t6)
    clear r6 t6 c0 c1 c2 c3 c4 c5 c6 R5
    obtain ⟨c0, c1, c2, c3, c4, c5, c6⟩ := HCC.out _ _ _ _ R6.out
    go_wp2_with fail
    refine (rput_fit wb v6 _ _ _ n 16 (by omega) rfl (by omega) (by omega) (by simp) _ R6.out.r).mono ?_
    rintro e w7 ⟨rfl, v7, r7, t7⟩
    have R7 := mkHid (R6.out.next r7 t7)
    clear r7 t7 c0 c1 c2 c3 c4 c5 c6 R6
    obtain ⟨c0, c1, c2, c3, c4, c5, c6⟩ := HCC.out _ _ _ _ R7.out
    go_wp2_with fail
    refine (rput_fit wb v7 _ _ _ B24 24 (by first | exact hu24 | rfl | omega) rfl HB5.out (by omega) (by simp) _ R7.out.r).mono ?_
    rintro e w8 ⟨rfl, v8, r8, t8⟩
    have R8 := mkHid (R7.out.next r8 t8)
    clear r8 t8 c0 c1 c2 c3 c4 c5 c6 R7
    obtain ⟨c0, c1, c2, c3, c4, c5, c6⟩ := HCC.out _ _ _ _ R8.out
    go_wp2_with fail
    refine (rput_fit wb v8 _ _ _ co.toNat 8 (by omega) rfl (by omega) (by omega) (by simp) _ R8.out.r).mono ?_
    rintro e w9 ⟨rfl, v9, r9, t9⟩
    have R9 := mkHid (R8.out.next r9 t9)
    clear r9 t9 c0 c1 c2 c3 c4 c5 c6 R8
    obtain ⟨c0, c1, c2, c3, c4, c5, c6⟩ := HCC.out _ _ _ _ R9.out
    obtain ⟨P0, HP0⟩ : ∃ P : List Bool, Hid (((((([] ++ bitsOf sd.toNat 32) ++ bitsOf md.toNat 32) ++ bitsOf fi.toNat 16) ++ bitsOf n 16) ++ bitsOf B24 24) ++ bitsOf co.toNat 8 = P) := ⟨_, mkHid rfl⟩
    rw [HP0.out] at R9
    have HPD := mkHid (show P0 = hdB ⟨sd, md, fi, ba, co, st, dl⟩ by
      rw [← HP0.out]; unfold hdB; simp only [List.nil_append]; rw [HB4.out, HN.out])
    have HPL := mkHid (show P0.length = 128 by rw [HPD.out]; simp)
    go_wp2
    clear c0 c1 c2 c3 c4 c5 c6 f0 f1 g0 g1 k0 k1 hu24
    go_loopw [6] (fun i wr => ∃ (k : Nat) (vk : Value) (P : List Bool), k ≤ n ∧ i = .int .i64 (k : Int) ∧ P ++ chB (st.drop k) = P0 ++ chB st ∧ P.length % 16 = 0 ∧ Rw w wr bx wb (.cells #[.int .u32 sd, .int .u32 md, .int .i64 fi, .int .i64 ba, .int .i64 co, .slice a n c, .slice a' m c'] 63 (0, 0)) vk P) (fun i _ => n - (intOf i).toNat)
    case atStart => exact ⟨0, v9, P0, Nat.zero_le _, rfl, rfl, by rw [HPL.out], R9.out⟩
    case round =>
      obtain ⟨k, vk, P, hk, rfl, hpe, hp6, hrw⟩ := hrel
      have HPE := mkHid hpe
      have HP6 := mkHid hp6
      have RK := mkHid hrw
      clear hpe hp6 hrw R9
      have hk0 : (0 : Int) ≤ k := by omega
      by_cases hlt : k < n
      · have hk1 : (k : Int) < n := by omega
        obtain ⟨l, HLD⟩ : ∃ l, Hid (st.drop k = l) := ⟨_, rfl⟩
        have HLL := mkHid (show l.length = n - k by rw [← HLD.out, List.length_drop, HN.out])
        have HL2 := mkHid (show ∀ s ∈ l, 0 ≤ s ∧ s ≤ 2 by intro s hs; rw [← HLD.out] at hs; exact HS2.out s (List.mem_of_mem_drop hs))
        have IK := mkHid (IA0.out.kept RK.out.a.belowZ)
        have AK := mkHid (ralike_any w.heap.size k c a st (by rw [HN.out]; exact hlt) HN4.out wr RK.out.a.size IK.out)
        rw [HLD.out, HN.out] at AK
        rw [HLD.out] at HPE
        obtain ⟨A, HA⟩ : ∃ A, Hid (alk l = A) := ⟨_, rfl⟩
        rw [HA.out] at AK
        have HAB := mkHid (show 0 < A ∧ A ≤ n - k by have h1 := alk_pos (l := l) (by rw [HLL.out]; omega); have h2 := alk_le l; rw [HA.out] at h1 h2; rw [HLL.out] at h2; omega)
        have HCB := mkHid (chB_cons (l := l) (by rw [HLL.out]; omega))
        have ha1 : (A : Int) ≤ 4096 := by have := HAB.out; omega
        have HPB := mkHid (show P.length + 16 ≤ 524288 - 32 - (dls st dl).length by
          have := congrArg List.length HPE.out
          have h1 := HPL.out
          have h2 := HLT.out
          rw [HCB.out] at this
          simp at this
          omega)
        obtain ⟨x, HXE⟩ : ∃ x, Hid (l.getD 0 0 = x) := ⟨_, mkHid rfl⟩
        obtain ⟨bq, off, x', haq, _, hx, _⟩ := IK.out.at k (by rw [HN.out]; exact hlt)
        obtain rfl : x' = x := by rw [← HXE.out, ← HLD.out, drop_at hx]; rfl
        have HHX := mkHid hx
        have HX02 := mkHid (HS2.out x' (List.mem_of_getElem? hx))
        subst haq
        have hnc : (n : Int) ≤ c := by have h1 := IA0.out.1; rw [HN.out] at h1; omega
        have hkc : k ≤ c := by omega
        clear hx
        obtain ⟨c0, c1, c2, c3, c4, c5, c6⟩ := HCC.out _ _ _ _ RK.out
        go_wp2_with fail
        refine (AK.out).mono ?_
        rintro e w10 ⟨rfl, a10⟩
        have RA := mkHid (RK.out.ap a10)
        have IKA := mkHid (IK.out.kept (a10.belowF w.heap.size RK.out.a.size))
        clear a10 AK IK RK c0 c1 c2 c3 c4 c5 c6
        by_cases hrun : min 7 (n - k) ≤ A
        · have HCN := mkHid (show ckN l = A ∧ ckB l = runB l by
            have hk0 : kind l = 0 := by unfold kind; rw [HLL.out, HA.out, if_pos hrun]
            unfold ckN ckB; rw [if_pos hk0, if_pos hk0, HA.out]; exact ⟨rfl, rfl⟩)
          obtain ⟨_, _, y, e1, _, hy, e0⟩ := IKA.out.at k (by rw [HN.out]; exact hlt)
          obtain rfl : y = x' := by rw [HHX.out] at hy; exact (Option.some.inj hy).symm
          simp only [Option.some.injEq, Addr.mk.injEq, and_true] at e1
          obtain ⟨rfl, rfl⟩ := e1
          have hmin : min (A : Int) 8191 = A := by omega
          have hA0 : (0 : Int) ≤ A := by omega
          have hkA : (k : Int) + A ≤ n := by have := HAB.out; omega
          have E0 := mkHid e0
          clear hy
          by_cases h7 : (7 : Int) ≤ A
          · go_wp2_with fail
            refine (rput_fit wb vk P _ _ 0 1 rfl rfl (by omega) (by omega) (by have := HPB.out; omega) _ RA.out.r).mono ?_
            rintro e w11 ⟨rfl, v11, r11, t11⟩
            have RB := mkHid (RA.out.next r11 t11)
            have E1 := mkHid (((IKA.out.kept (t11.below RA.out.r w.heap.size (by have := RA.out.z; have := RA.out.lt; omega)))))
            clear r11 t11 RA IKA e0 E0
            obtain ⟨_, _, y2, e2, _, hy2, e0⟩ := E1.out.at k (by rw [HN.out]; exact hlt)
            obtain rfl : y2 = y := by rw [HHX.out] at hy2; exact (Option.some.inj hy2).symm
            simp only [Option.some.injEq, Addr.mk.injEq, and_true] at e2
            obtain ⟨rfl, rfl⟩ := e2
            clear hy2 E1
            go_wp2_with fail
            refine (rput_fit wb v11 _ _ _ y2.toNat 2 (by have := HX02.out; omega) rfl (by have := HX02.out; omega) (by omega) (by have := HPB.out; simp; omega) _ RB.out.r).mono ?_
            rintro e w12 ⟨rfl, v12, r12, t12⟩
            have RC := mkHid (RB.out.next r12 t12)
            clear r12 t12 RB e0
            go_wp2_with fail
            refine (rput_fit wb v12 _ _ _ A 13 (by omega) rfl (by omega) (by omega) (by have := HPB.out; simp; omega) _ RC.out.r).mono ?_
            rintro e w13 ⟨rfl, v13, r13, t13⟩
            have RD := mkHid (RC.out.next r13 t13)
            clear r13 t13 RC
            go_wp2
            go_roundw
            case rel =>
              have ek : st.drop (k + A) = l.drop A := by rw [← HLD.out, List.drop_drop]
              have hP : P ++ bitsOf 0 1 ++ bitsOf y2.toNat 2 ++ bitsOf A 13 = P ++ runB l := by unfold runB; rw [HXE.out, HA.out]; simp only [List.append_assoc]
              have rd := RD.out
              rw [hP] at rd
              have h16 : (runB l).length = 16 := by rw [← HCN.out.2]; exact ckB_len l
              refine ⟨k + A, v13, P ++ runB l, by have := HAB.out; omega, by go_num, ?_, by rw [List.length_append, h16]; have := HP6.out; omega, rd⟩
              rw [ek, ← HPE.out, HCB.out, HCN.out.1, HCN.out.2, List.append_assoc]
            case measure => have := HAB.out; simp [intOf]; omega
          · have hAl : (A : Int) = n - k := by have := HAB.out; omega
            have hAl2 : ((A : Int) == n - k) = true := by simpa using hAl
            go_wp2_with fail
            refine (rput_fit wb vk P _ _ 0 1 rfl rfl (by omega) (by omega) (by have := HPB.out; omega) _ RA.out.r).mono ?_
            rintro e w11 ⟨rfl, v11, r11, t11⟩
            have RB := mkHid (RA.out.next r11 t11)
            have E1 := mkHid (((IKA.out.kept (t11.below RA.out.r w.heap.size (by have := RA.out.z; have := RA.out.lt; omega)))))
            clear r11 t11 RA IKA e0 E0
            obtain ⟨_, _, y2, e2, _, hy2, e0⟩ := E1.out.at k (by rw [HN.out]; exact hlt)
            obtain rfl : y2 = y := by rw [HHX.out] at hy2; exact (Option.some.inj hy2).symm
            simp only [Option.some.injEq, Addr.mk.injEq, and_true] at e2
            obtain ⟨rfl, rfl⟩ := e2
            clear hy2 E1
            go_wp2_with fail
            refine (rput_fit wb v11 _ _ _ y2.toNat 2 (by have := HX02.out; omega) rfl (by have := HX02.out; omega) (by omega) (by have := HPB.out; simp; omega) _ RB.out.r).mono ?_
            rintro e w12 ⟨rfl, v12, r12, t12⟩
            have RC := mkHid (RB.out.next r12 t12)
            clear r12 t12 RB e0
            go_wp2_with fail
            refine (rput_fit wb v12 _ _ _ A 13 (by omega) rfl (by omega) (by omega) (by have := HPB.out; simp; omega) _ RC.out.r).mono ?_
            rintro e w13 ⟨rfl, v13, r13, t13⟩
            have RD := mkHid (RC.out.next r13 t13)
            clear r13 t13 RC
            go_wp2
            go_roundw
            case rel =>
              have ek : st.drop (n) = l.drop A := by rw [← HLD.out, List.drop_drop]; congr 1; omega
              have hP : P ++ bitsOf 0 1 ++ bitsOf y2.toNat 2 ++ bitsOf A 13 = P ++ runB l := by unfold runB; rw [HXE.out, HA.out]; simp only [List.append_assoc]
              have rd := RD.out
              rw [hP] at rd
              have h16 : (runB l).length = 16 := by rw [← HCN.out.2]; exact ckB_len l
              refine ⟨n, v13, P ++ runB l, by have := HAB.out; omega, by go_num, ?_, by rw [List.length_append, h16]; have := HP6.out; omega, rd⟩
              rw [ek, ← HPE.out, HCB.out, HCN.out.1, HCN.out.2, List.append_assoc]
            case measure => have := HAB.out; simp [intOf]; omega
        · have hrun2 : (A : Int) < 7 := by omega
          have hrun3 : (A : Int) < (n : Int) - k := by omega
          have hrun4 : ((A : Int) == (n : Int) - k) = false := by simp; omega
          have HKT := mkHid (kind_two (l := l) (by rw [HLL.out, HA.out]; exact hrun))
          have HE14 := mkHid (show l.take (min 14 (n - k)) = l.take 14 by
            by_cases h : 14 ≤ n - k
            · rw [Nat.min_eq_left h]
            · rw [Nat.min_eq_right (by omega), List.take_of_length_le (by rw [HLL.out]; omega), List.take_of_length_le (by rw [HLL.out]; omega)])
          go_wp2
          go_loopw [9, 10] (fun tw i wr => ∃ j : Nat, j ≤ min 14 (n - k) ∧ i = .int .i64 (j : Int) ∧ tw = .bool ((l.take j).contains 2) ∧ wr = w10) (fun _ i _ => 14 - (intOf i).toNat)
          case atStart => exact ⟨0, Nat.zero_le _, rfl, rfl, rfl⟩
          case round =>
            obtain ⟨j, hj, rfl, rfl, hwr⟩ := hrel
            subst hwr
            have hj0 : (0 : Int) ≤ j := by omega
            by_cases hj2 : j < min 14 (n - k)
            · have hj14 : (j : Int) < 14 := by omega
              have hjn : (j : Int) < (n : Int) - k := by omega
              obtain ⟨_, _, y, e1, _, hy, e0⟩ := IKA.out.at (k + j) (by rw [HN.out]; omega)
              simp only [Option.some.injEq, Addr.mk.injEq, and_true] at e1
              obtain ⟨rfl, rfl⟩ := e1
              have HTT := mkHid (take_two (l := l) (i := j) (x := y) (by rw [← HLD.out, List.getElem?_drop]; exact hy))
              have hkj : (k : Int) + j < n := by omega
              clear hy
              obtain ⟨tb, HTB⟩ : ∃ tb, Hid ((l.take j).contains 2 = tb) := ⟨_, mkHid rfl⟩
              rw [HTB.out] at HTT ⊢
              cases tb with
              | true =>
                go_wp2
                go_roundw
                case rel => exact ⟨j + 1, by omega, by go_num, by rw [HTT.out]; rfl, by trivial⟩
                case measure => simp [intOf]; omega
              | false =>
                by_cases hy2 : y = 2
                · subst hy2
                  go_wp2
                  go_roundw
                  case rel => exact ⟨j + 1, by omega, by go_num, by rw [HTT.out]; rfl, by trivial⟩
                  case measure => simp [intOf]; omega
                · have hy3 : (y == 2) = false := by simpa using hy2
                  go_wp2
                  go_roundw
                  case rel => exact ⟨j + 1, by omega, by go_num, by rw [HTT.out, decide_eq_false hy2]; rfl, by trivial⟩
                  case measure => simp [intOf]; omega
            · obtain rfl : j = min 14 (n - k) := by omega
              rw [HE14.out]
              have hstop : ((min 14 (n - k) : Nat) : Int) = min 14 ((n : Int) - k) := by omega
              obtain ⟨q, HQ⟩ : ∃ q : Nat, Hid (min 14 (n - k) = q) := ⟨_, mkHid rfl⟩
              rw [HQ.out]
              have HQB := mkHid (show q = 14 ∨ q = n - k ∧ q < 14 by have := HQ.out; omega)
              clear hstop hj hj0 hj2
              obtain ⟨tb, HTW⟩ : ∃ tb, Hid ((l.take 14).contains 2 = tb) := ⟨_, mkHid rfl⟩
              rw [HTW.out]
              cases tb with
              | false =>
                rcases HQB.out with rfl | ⟨hqe, hq1⟩
                · have hnk14 : (14 : Int) ≤ (n : Int) - k := by have := HQ.out; omega
                  have HKI := mkHid (show kind l = 1 from HKT.out.2 HTW.out)
                  have HCN := mkHid (show ckN l = min 14 (n - k) ∧ ckB l = longB l by
                    unfold ckN ckB; rw [HKI.out, HLL.out]; exact ⟨rfl, rfl⟩)
                  have hla : l.length = n - k := HLL.out
                  go_wp2_with fail
                  refine (rput_fit wb vk P _ _ 2 2 rfl rfl (by omega) (by omega) (by have := HPB.out; omega) _ RA.out.r).mono ?_
                  rintro e w11 ⟨rfl, v11, r11, t11⟩
                  have RB := mkHid (RA.out.next r11 t11)
                  have E1 := mkHid ((IKA.out.kept (t11.below RA.out.r w.heap.size (by have := RA.out.z; have := RA.out.lt; omega))).up (B' := wb) (by have := RA.out.z; have := RA.out.lt; omega))
                  clear r11 t11 RA IKA
                  have RR := mkHid (rrow_any 14 1 (.inl ⟨rfl, rfl⟩) wb v11 _ (some ⟨bq, off + k, none⟩) (c - k) l HL2.out (by have := HPB.out; simp; omega) w11 RB.out.r (by have e := E1.out.drop k hkc; rw [HLD.out] at e; exact e))
                  rw [hla] at RR
                  clear hla
                  have hkn : ¬ c = k := by omega
                  go_wp2_with fail
                  refine (RR.out).mono ?_
                  rintro e w12 ⟨rfl, v12, r12, t12⟩
                  have RC := mkHid (RB.out.next r12 t12)
                  clear r12 t12 RB RR E1
                  have hP : P ++ bitsOf 2 2 ++ rowB 1 (l.take 14) ++ bitsOf 0 (14 - 1 * min 14 (n - k)) = P ++ longB l := by unfold longB; rw [b22, HLL.out]; simp only [List.append_assoc, Nat.one_mul]
                  have rd := RC.out
                  rw [hP] at rd
                  have RDD := mkHid rd
                  have H16 := mkHid (show (longB l).length = 16 by rw [← HCN.out.2]; exact ckB_len l)
                  clear hP rd RC
                  by_cases hS : 14 ≤ n - k
                  · have e14 : min 14 (n - k) = 14 := by omega
                    have e14i : min (14 : Int) ((n : Int) - k) = 14 := by omega
                    have hks : (k : Int) + 14 ≤ n := by omega
                    rw [e14] at HCN
                    clear e14
                    go_wp2
                    go_roundw
                    case rel =>
                      have ek : st.drop (k + 14) = l.drop 14 := by rw [← HLD.out, List.drop_drop]
                      refine ⟨k + 14, v12, P ++ longB l, by omega, by go_num, ?_, by rw [List.length_append, H16.out]; have := HP6.out; omega, RDD.out⟩
                      rw [ek, ← HPE.out, HCB.out, HCN.out.1, HCN.out.2, List.append_assoc]
                    case measure => simp [intOf]; omega
                  · have e14 : min 14 (n - k) = n - k := by omega
                    have e14i : min (14 : Int) ((n : Int) - k) = (n : Int) - k := by omega
                    have hks : (n : Int) - k < 14 := by omega
                    rw [e14] at HCN
                    clear e14
                    go_wp2
                    go_roundw
                    case rel =>
                      have ek : st.drop n = l.drop (n - k) := by rw [← HLD.out, List.drop_drop]; congr 1; omega
                      refine ⟨n, v12, P ++ longB l, Nat.le_refl _, by go_num, ?_, by rw [List.length_append, H16.out]; have := HP6.out; omega, RDD.out⟩
                      rw [ek, ← HPE.out, HCB.out, HCN.out.1, HCN.out.2, List.append_assoc]
                    case measure => simp [intOf]; omega
                · have hq2 : ¬ (q : Int) < (n : Int) - k := by omega
                  have hq3 : (q : Int) < 14 := by omega
                  have HKI := mkHid (show kind l = 1 from HKT.out.2 HTW.out)
                  have HCN := mkHid (show ckN l = min 14 (n - k) ∧ ckB l = longB l by
                    unfold ckN ckB; rw [HKI.out, HLL.out]; exact ⟨rfl, rfl⟩)
                  have hla : l.length = n - k := HLL.out
                  go_wp2_with fail
                  refine (rput_fit wb vk P _ _ 2 2 rfl rfl (by omega) (by omega) (by have := HPB.out; omega) _ RA.out.r).mono ?_
                  rintro e w11 ⟨rfl, v11, r11, t11⟩
                  have RB := mkHid (RA.out.next r11 t11)
                  have E1 := mkHid ((IKA.out.kept (t11.below RA.out.r w.heap.size (by have := RA.out.z; have := RA.out.lt; omega))).up (B' := wb) (by have := RA.out.z; have := RA.out.lt; omega))
                  clear r11 t11 RA IKA
                  have RR := mkHid (rrow_any 14 1 (.inl ⟨rfl, rfl⟩) wb v11 _ (some ⟨bq, off + k, none⟩) (c - k) l HL2.out (by have := HPB.out; simp; omega) w11 RB.out.r (by have e := E1.out.drop k hkc; rw [HLD.out] at e; exact e))
                  rw [hla] at RR
                  clear hla
                  have hkn : ¬ c = k := by omega
                  go_wp2_with fail
                  refine (RR.out).mono ?_
                  rintro e w12 ⟨rfl, v12, r12, t12⟩
                  have RC := mkHid (RB.out.next r12 t12)
                  clear r12 t12 RB RR E1
                  have hP : P ++ bitsOf 2 2 ++ rowB 1 (l.take 14) ++ bitsOf 0 (14 - 1 * min 14 (n - k)) = P ++ longB l := by unfold longB; rw [b22, HLL.out]; simp only [List.append_assoc, Nat.one_mul]
                  have rd := RC.out
                  rw [hP] at rd
                  have RDD := mkHid rd
                  have H16 := mkHid (show (longB l).length = 16 by rw [← HCN.out.2]; exact ckB_len l)
                  clear hP rd RC
                  by_cases hS : 14 ≤ n - k
                  · have e14 : min 14 (n - k) = 14 := by omega
                    have e14i : min (14 : Int) ((n : Int) - k) = 14 := by omega
                    have hks : (k : Int) + 14 ≤ n := by omega
                    rw [e14] at HCN
                    clear e14
                    go_wp2
                    go_roundw
                    case rel =>
                      have ek : st.drop (k + 14) = l.drop 14 := by rw [← HLD.out, List.drop_drop]
                      refine ⟨k + 14, v12, P ++ longB l, by omega, by go_num, ?_, by rw [List.length_append, H16.out]; have := HP6.out; omega, RDD.out⟩
                      rw [ek, ← HPE.out, HCB.out, HCN.out.1, HCN.out.2, List.append_assoc]
                    case measure => simp [intOf]; omega
                  · have e14 : min 14 (n - k) = n - k := by omega
                    have e14i : min (14 : Int) ((n : Int) - k) = (n : Int) - k := by omega
                    have hks : (n : Int) - k < 14 := by omega
                    rw [e14] at HCN
                    clear e14
                    go_wp2
                    go_roundw
                    case rel =>
                      have ek : st.drop n = l.drop (n - k) := by rw [← HLD.out, List.drop_drop]; congr 1; omega
                      refine ⟨n, v12, P ++ longB l, Nat.le_refl _, by go_num, ?_, by rw [List.length_append, H16.out]; have := HP6.out; omega, RDD.out⟩
                      rw [ek, ← HPE.out, HCB.out, HCN.out.1, HCN.out.2, List.append_assoc]
                    case measure => simp [intOf]; omega
              | true =>
                rcases HQB.out with rfl | ⟨hqe, hq1⟩
                · have hnk14 : (14 : Int) ≤ (n : Int) - k := by have := HQ.out; omega
                  have HKI := mkHid (show kind l = 2 from HKT.out.1 HTW.out)
                  have HCN := mkHid (show ckN l = min 7 (n - k) ∧ ckB l = shortB l by
                    unfold ckN ckB; rw [HKI.out, HLL.out]; exact ⟨rfl, rfl⟩)
                  have hla : l.length = n - k := HLL.out
                  go_wp2_with fail
                  refine (rput_fit wb vk P _ _ 3 2 rfl rfl (by omega) (by omega) (by have := HPB.out; omega) _ RA.out.r).mono ?_
                  rintro e w11 ⟨rfl, v11, r11, t11⟩
                  have RB := mkHid (RA.out.next r11 t11)
                  have E1 := mkHid ((IKA.out.kept (t11.below RA.out.r w.heap.size (by have := RA.out.z; have := RA.out.lt; omega))).up (B' := wb) (by have := RA.out.z; have := RA.out.lt; omega))
                  clear r11 t11 RA IKA
                  have RR := mkHid (rrow_any 7 2 (.inr ⟨rfl, rfl⟩) wb v11 _ (some ⟨bq, off + k, none⟩) (c - k) l HL2.out (by have := HPB.out; simp; omega) w11 RB.out.r (by have e := E1.out.drop k hkc; rw [HLD.out] at e; exact e))
                  rw [hla] at RR
                  clear hla
                  have hkn : ¬ c = k := by omega
                  go_wp2_with fail
                  refine (RR.out).mono ?_
                  rintro e w12 ⟨rfl, v12, r12, t12⟩
                  have RC := mkHid (RB.out.next r12 t12)
                  clear r12 t12 RB RR E1
                  have hP : P ++ bitsOf 3 2 ++ rowB 2 (l.take 7) ++ bitsOf 0 (14 - 2 * min 7 (n - k)) = P ++ shortB l := by unfold shortB; rw [b32, HLL.out]; simp only [List.append_assoc]
                  have rd := RC.out
                  rw [hP] at rd
                  have RDD := mkHid rd
                  have H16 := mkHid (show (shortB l).length = 16 by rw [← HCN.out.2]; exact ckB_len l)
                  clear hP rd RC
                  by_cases hS : 7 ≤ n - k
                  · have e14 : min 7 (n - k) = 7 := by omega
                    have e14i : min (7 : Int) ((n : Int) - k) = 7 := by omega
                    have hks : (k : Int) + 7 ≤ n := by omega
                    rw [e14] at HCN
                    clear e14
                    go_wp2
                    go_roundw
                    case rel =>
                      have ek : st.drop (k + 7) = l.drop 7 := by rw [← HLD.out, List.drop_drop]
                      refine ⟨k + 7, v12, P ++ shortB l, by omega, by go_num, ?_, by rw [List.length_append, H16.out]; have := HP6.out; omega, RDD.out⟩
                      rw [ek, ← HPE.out, HCB.out, HCN.out.1, HCN.out.2, List.append_assoc]
                    case measure => simp [intOf]; omega
                  · have e14 : min 7 (n - k) = n - k := by omega
                    have e14i : min (7 : Int) ((n : Int) - k) = (n : Int) - k := by omega
                    have hks : (n : Int) - k < 7 := by omega
                    rw [e14] at HCN
                    clear e14
                    go_wp2
                    go_roundw
                    case rel =>
                      have ek : st.drop n = l.drop (n - k) := by rw [← HLD.out, List.drop_drop]; congr 1; omega
                      refine ⟨n, v12, P ++ shortB l, Nat.le_refl _, by go_num, ?_, by rw [List.length_append, H16.out]; have := HP6.out; omega, RDD.out⟩
                      rw [ek, ← HPE.out, HCB.out, HCN.out.1, HCN.out.2, List.append_assoc]
                    case measure => simp [intOf]; omega
                · have hq2 : ¬ (q : Int) < (n : Int) - k := by omega
                  have hq3 : (q : Int) < 14 := by omega
                  have HKI := mkHid (show kind l = 2 from HKT.out.1 HTW.out)
                  have HCN := mkHid (show ckN l = min 7 (n - k) ∧ ckB l = shortB l by
                    unfold ckN ckB; rw [HKI.out, HLL.out]; exact ⟨rfl, rfl⟩)
                  have hla : l.length = n - k := HLL.out
                  go_wp2_with fail
                  refine (rput_fit wb vk P _ _ 3 2 rfl rfl (by omega) (by omega) (by have := HPB.out; omega) _ RA.out.r).mono ?_
                  rintro e w11 ⟨rfl, v11, r11, t11⟩
                  have RB := mkHid (RA.out.next r11 t11)
                  have E1 := mkHid ((IKA.out.kept (t11.below RA.out.r w.heap.size (by have := RA.out.z; have := RA.out.lt; omega))).up (B' := wb) (by have := RA.out.z; have := RA.out.lt; omega))
                  clear r11 t11 RA IKA
                  have RR := mkHid (rrow_any 7 2 (.inr ⟨rfl, rfl⟩) wb v11 _ (some ⟨bq, off + k, none⟩) (c - k) l HL2.out (by have := HPB.out; simp; omega) w11 RB.out.r (by have e := E1.out.drop k hkc; rw [HLD.out] at e; exact e))
                  rw [hla] at RR
                  clear hla
                  have hkn : ¬ c = k := by omega
                  go_wp2_with fail
                  refine (RR.out).mono ?_
                  rintro e w12 ⟨rfl, v12, r12, t12⟩
                  have RC := mkHid (RB.out.next r12 t12)
                  clear r12 t12 RB RR E1
                  have hP : P ++ bitsOf 3 2 ++ rowB 2 (l.take 7) ++ bitsOf 0 (14 - 2 * min 7 (n - k)) = P ++ shortB l := by unfold shortB; rw [b32, HLL.out]; simp only [List.append_assoc]
                  have rd := RC.out
                  rw [hP] at rd
                  have RDD := mkHid rd
                  have H16 := mkHid (show (shortB l).length = 16 by rw [← HCN.out.2]; exact ckB_len l)
                  clear hP rd RC
                  by_cases hS : 7 ≤ n - k
                  · have e14 : min 7 (n - k) = 7 := by omega
                    have e14i : min (7 : Int) ((n : Int) - k) = 7 := by omega
                    have hks : (k : Int) + 7 ≤ n := by omega
                    rw [e14] at HCN
                    clear e14
                    go_wp2
                    go_roundw
                    case rel =>
                      have ek : st.drop (k + 7) = l.drop 7 := by rw [← HLD.out, List.drop_drop]
                      refine ⟨k + 7, v12, P ++ shortB l, by omega, by go_num, ?_, by rw [List.length_append, H16.out]; have := HP6.out; omega, RDD.out⟩
                      rw [ek, ← HPE.out, HCB.out, HCN.out.1, HCN.out.2, List.append_assoc]
                    case measure => simp [intOf]; omega
                  · have e14 : min 7 (n - k) = n - k := by omega
                    have e14i : min (7 : Int) ((n : Int) - k) = (n : Int) - k := by omega
                    have hks : (n : Int) - k < 7 := by omega
                    rw [e14] at HCN
                    clear e14
                    go_wp2
                    go_roundw
                    case rel =>
                      have ek : st.drop n = l.drop (n - k) := by rw [← HLD.out, List.drop_drop]; congr 1; omega
                      refine ⟨n, v12, P ++ shortB l, Nat.le_refl _, by go_num, ?_, by rw [List.length_append, H16.out]; have := HP6.out; omega, RDD.out⟩
                      rw [ek, ← HPE.out, HCB.out, HCN.out.1, HCN.out.2, List.append_assoc]
                    case measure => simp [intOf]; omega
      · obtain rfl : n = k := by omega
        have HPF := mkHid (show P = P0 ++ chB st by have e := HPE.out; rw [List.drop_of_length_le (by rw [HN.out]; exact Nat.le_refl _), chB_nil, List.append_nil] at e; exact e)
        have HPLEN := mkHid (show P.length + (dls st dl).length + 32 ≤ 524288 by rw [HPF.out, List.length_append, HPL.out]; have := HLT.out; omega)
        obtain ⟨wx, HWX⟩ : ∃ wx, wx = wr := ⟨_, rfl⟩
        subst HWX
        go_wp2
        clear hlt hk hk0
        go_loopw [11, 12] (fun x i wr => ∃ (k j : Nat) (vj : Value) (Q : List Bool), k ≤ n ∧ j ≤ k ∧ i = .int .i64 (k : Int) ∧ x = .int .i64 (j : Int) ∧ Q ++ dls (st.drop k) (dl.drop j) = P ++ dls st dl ∧ mat (st.drop k) (dl.drop j) = true ∧ Rw w wr bx wb (.cells #[.int .u32 sd, .int .u32 md, .int .i64 fi, .int .i64 ba, .int .i64 co, .slice a n c, .slice a' m c'] 63 (0, 0)) vj Q) (fun _ i _ => n - (intOf i).toNat)
        case atStart => exact ⟨0, 0, vk, P, Nat.zero_le _, Nat.le_refl _, rfl, rfl, rfl, HMT.out, RK.out⟩
        case round =>
          obtain ⟨i, j, vj, Q, hi, hji, rfl, rfl, hqe, hmj, hrw⟩ := hrel
          have HQE := mkHid hqe
          have HMJ := mkHid hmj
          have RJ := mkHid hrw
          have hji' : (j : Int) ≤ i := by omega
          have hi0 : (0 : Int) ≤ i := by omega
          have hj0 : (0 : Int) ≤ j := by omega
          clear hqe hmj hrw RK hji
          by_cases hlt : i < n
          · have IJ := mkHid (IA0.out.kept RJ.out.a.belowZ)
            have JJ := mkHid (JA0.out.kept RJ.out.a.belowZ)
            obtain ⟨bq, off, x, rfl, hbq, hx, d0⟩ := IJ.out.at i (by rw [HN.out]; exact hlt)
            have HX := mkHid (drop_at hx)
            obtain ⟨x0, x2⟩ := HS2.out x (List.mem_of_getElem? hx)
            have hi1 : (i : Int) < n := by omega
            obtain ⟨c0, c1, c2, c3, c4, c5, c6⟩ := HCC.out _ _ _ _ RJ.out
            clear hx IJ
            by_cases xz : x = 0
            · subst xz
              have e1 : dls (st.drop i) (dl.drop j) = dls (st.drop (i + 1)) (dl.drop j) := by rw [HX.out]; cases dl.drop j <;> rw [dls, if_pos rfl]
              have e2 : mat (st.drop i) (dl.drop j) = mat (st.drop (i + 1)) (dl.drop j) := by rw [HX.out]; cases dl.drop j <;> rw [mat, if_pos rfl]
              have HQ2 := mkHid (show Q ++ dls (st.drop (i + 1)) (dl.drop j) = P ++ dls st dl by rw [← e1]; exact HQE.out)
              have HM2 := mkHid (show mat (st.drop (i + 1)) (dl.drop j) = true by rw [← e2]; exact HMJ.out)
              clear e1 e2
              go_wp2
              go_roundw
              case rel => exact ⟨i + 1, j, vj, Q, by omega, by omega, by go_num, rfl, HQ2.out, HM2.out, RJ.out⟩
              case measure => simp [intOf]; omega
            · obtain ⟨y, dl', hdl⟩ : ∃ y dl', dl.drop j = y :: dl' := by
                cases h : dl.drop j with
                | nil => have e := HMJ.out; rw [HX.out, h, mat, if_neg xz] at e; cases e
                | cons y dl' => exact ⟨y, dl', rfl⟩
              have hjm : j < m := by
                have : 0 < (dl.drop j).length := by rw [hdl]; simp
                rw [List.length_drop, HM.out] at this; omega
              obtain ⟨b', off', y', rfl, hbl, hy, d1⟩ := JJ.out.at j (by rw [HM.out]; exact hjm)
              have hdy := drop_at hy
              rw [hdl] at hdy
              simp only [List.cons.injEq] at hdy
              obtain ⟨rfl, rfl⟩ := hdy
              have HD1 := mkHid hdl
              have HQ2 := mkHid (show Q ++ bitsOf (u32 y) (dW x) ++ dls (st.drop (i + 1)) (dl.drop (j + 1)) = P ++ dls st dl by
                have e := HQE.out; rw [HX.out, HD1.out, dls, if_neg xz] at e; rw [List.append_assoc]; exact e)
              have HM2 := mkHid (show mat (st.drop (i + 1)) (dl.drop (j + 1)) = true by
                have e := HMJ.out; rw [HX.out, HD1.out, mat, if_neg xz, Bool.and_eq_true] at e; exact e.2)
              have HQL := mkHid (show Q.length + dW x ≤ 524288 by
                have := congrArg List.length HQ2.out
                simp at this
                have := HPLEN.out
                omega)
              have hjm' : (j : Int) < m := by omega
              have hxp : (0 : Int) < x := by omega
              have RD := mkHid (RJ.out.ap (w'' := wr.drew) ((Apart.refl _ _).drew))
              obtain ⟨k0, k1, k2, k3, k4, k5, k6⟩ := HCC.out _ _ _ _ RD.out
              have d0' : wr.drew.cell? ⟨bq, off + i, none⟩ = some (.int .i64 x) := d0
              have d1' : wr.drew.cell? ⟨b', off' + j, none⟩ = some (.int .i64 y) := d1
              clear hdl hy hbl hbq JJ
              obtain ⟨D8, HD8⟩ : ∃ D : Nat, Hid (dW x = D) := ⟨_, rfl⟩
              rw [HD8.out] at HQ2 HQL
              have PF := mkHid (fun q (hq : q = ((u32 y : Nat) : Int)) (e : Int) (he : e = D8) => rput_fit wb vj Q q e (u32 y) D8 hq he (u32_lt y) (by rw [← HD8.out]; unfold dW; split <;> omega) HQL.out _ RD.out.r)
              rcases (by omega : x = 1 ∨ x = 2) with rfl | rfl
              · obtain rfl : D8 = 8 := HD8.out.symm
                go_wp2_with fail
                go_region_law (go_simp; refine (PF.out _ (by unfold u32; first | omega | (rw [IntKind.wrap_u32]; omega)) _ (by first | rfl | omega)).mono ?_; rintro e w2 ⟨rfl, v2, r2, t2⟩; have R2 := mkHid (RD.out.next r2 t2); clear r2 t2)
                all_goals
                  go_wp2
                  go_roundw
                  case rel => exact ⟨i + 1, j + 1, v2, Q ++ bitsOf (u32 y) 8, by omega, by omega, by go_num, by go_num, HQ2.out, HM2.out, R2.out⟩
                  case measure => simp [intOf]; omega
              · obtain rfl : D8 = 16 := HD8.out.symm
                go_wp2_with fail
                go_region_law (go_simp; refine (PF.out _ (by unfold u32; first | omega | (rw [IntKind.wrap_u32]; omega)) _ (by first | rfl | omega)).mono ?_; rintro e w2 ⟨rfl, v2, r2, t2⟩; have R2 := mkHid (RD.out.next r2 t2); clear r2 t2)
                all_goals
                  go_wp2
                  go_roundw
                  case rel => exact ⟨i + 1, j + 1, v2, Q ++ bitsOf (u32 y) 16, by omega, by omega, by go_num, by go_num, HQ2.out, HM2.out, R2.out⟩
                  case measure => simp [intOf]; omega
          · obtain rfl : i = n := by omega
            have HQF := mkHid (show Q = P ++ dls st dl by have e := HQE.out; rw [List.drop_of_length_le (by rw [HN.out]; exact Nat.le_refl _), dls, List.append_nil] at e; exact e)
            have AL := mkHid (ralign_any wb vj Q 32 _ RJ.out.r)
            rw [align32 Q (by rw [HQF.out, List.length_append]; have := HPLEN.out; omega)] at AL
            go_wp2_with fail
            refine (AL.out).mono ?_
            rintro e w20 ⟨rfl, v20, r20, t20⟩
            have R20 := mkHid (RJ.out.next r20 t20)
            clear r20 t20 RJ AL
            go_wp2_with fail
            refine (rtext_any wb v20 _ _ R20.out.r).mono ?_
            rintro e w21 ⟨rfl, rfl⟩
            go_wp2
            go_ret2
            refine ⟨?_, R20.out.a.belowZ⟩
            have hb : Q = bodyB ⟨sd, md, fi, ba, co, st, dl⟩ := by rw [HQF.out, HPF.out, HPD.out]; rfl
            show Ending.returned (.tuple #[.string (packS (Q ++ bitsOf 0 ((32 - Q.length % 32) % 32))), .int .i64 0]) = _
            rw [hb]
            rfl
end Go.Proofs.YtdhbakknplnnkaaGreat.Tw
