/-
  What the reference's Good hands back.
-/
import Derived.Test.YtdhbakknplnnkaaGreatNk2
import Derived.Test.YtdhbakknplnnkaaGreatNk1
namespace Go.Proofs.YtdhbakknplnnkaaGreat.Nk
open Go.RowKit

theorem rafter16 (a b : Int) (w : World) : Calls Tryz.prog 71 #[.int .i64 a, .int .i64 b, .int .i64 16] w fun e w' => e = .returned (.bool (af a b)) ∧ w' = w := by
  by_cases h1 : a < 0 ∨ 65536 ≤ a ∨ b < 0 ∨ 65536 ≤ b
  · have e : af a b = false := by rw [Bool.eq_false_iff]; intro h; have := (af_iff _ _).1 h; omega
    rw [e]
    exact rafter_no a b 16 (by omega) (by omega) (by rw [hf16]; omega) w
  · have e : af a b = aV (hf 16) a b := by
      unfold af aV; rw [hf16, show (2 : Int) * 32768 = 65536 by rfl, decide_eq_decide]; omega
    rw [e]
    exact rafter_any a b 16 (by omega) (by omega) (by omega) (by rw [hf16]; omega) (by omega) (by rw [hf16]; omega) w
theorem rcrop16 (n : Int) (w : World) : Calls Tryz.prog 47 #[.int .i64 n, .int .i64 16] w fun e w' => e = .returned (.int .i64 (n % 65536)) ∧ w' = w := by
  have := rcrop_any n 16 (by omega) (by omega) w
  rw [hf16] at this
  exact this
set_option maxRecDepth 100000 in
set_option maxHeartbeats 2000000 in
theorem rgood_any (B : Nat) (w : World) (a : Option Addr) (c : Nat) (l : List Int) (hB : B ≤ w.heap.size) (h : IA B w a c l) :
    Calls Tryz.prog 52 #[.slice a l.length c] w fun e w' => e = .returned (.bool (isL l)) ∧ Apart (fun _ => False) w w' := by
  have m1 := h.len
  have A0 := mkHid (Apart.refl (fun _ => False) w)
  by_cases h1 : (4096 : Int) < l.length
  · rw [isL_long (by omega)]
    obtain ⟨n, HN⟩ : ∃ n, Hid (l.length = n) := ⟨_, rfl⟩
    rw [HN.out] at m1 h1 ⊢
    have h1' : ¬ (n : Int) < 1 := by omega
    clear h
    go_enter Tryz.func52, Tryz.ntmps52
    go_wp2
    go_ret
    exact ⟨rfl, A0.out⟩
  · cases l with
    | nil =>
      clear h h1
      simp only [List.length_nil] at *
      go_enter Tryz.func52, Tryz.ntmps52
      go_wp2
      go_ret
      exact ⟨rfl, A0.out⟩
    | cons f t =>
      obtain ⟨b, off, f', rfl, _, hf, c0⟩ := h.at 0 (by simp)
      obtain rfl : f = f' := by simpa using hf
      have H := mkHid h
      rw [Nat.add_zero] at c0
      obtain ⟨n, HN⟩ : ∃ n, Hid (t.length = n) := ⟨_, rfl⟩
      have hc := h.1
      simp only [List.length_cons] at m1 h1 hc ⊢
      rw [isL_cons]
      rw [HN.out] at m1 h1 hc ⊢
      rw [decide_eq_true (show n < 4096 by omega), Bool.true_and]
      obtain ⟨m, HM⟩ : ∃ m, Hid (n + 1 = m) := ⟨_, rfl⟩
      rw [HM.out] at m1 h1 hc ⊢
      have hm1 : ¬ (m : Int) < 1 := by have := HM.out; omega
      have hm2 : (m : Int) ≤ 4096 := by omega
      have hm3 : (m : Int) ≤ c := by omega
      have hm4 : (1 : Int) ≤ m := by omega
      clear h hf h1 hc
      by_cases h2 : f < 0
      · rw [decide_eq_false (show ¬ 0 ≤ f by omega), Bool.false_and]
        go_enter Tryz.func52, Tryz.ntmps52
        go_wp2
        go_ret
        exact ⟨rfl, A0.out⟩
      · by_cases h3 : (65535 : Int) < f
        · rw [decide_eq_true (show 0 ≤ f by omega), decide_eq_false (show ¬ f < 65536 by omega), Bool.true_and, Bool.false_and]
          go_enter Tryz.func52, Tryz.ntmps52
          go_wp2
          go_ret
          exact ⟨rfl, A0.out⟩
        · rw [decide_eq_true (show 0 ≤ f by omega), decide_eq_true (show f < 65536 by omega), Bool.true_and, Bool.true_and]
          obtain ⟨r, HR⟩ : ∃ r, Hid (okL f f t = r) := ⟨_, rfl⟩
          have HRR := mkHid (show okR f f t = r by rw [okR_eq f (by omega) (by omega) t f (by omega)]; exact HR.out)
          rw [HR.out]
          go_enter Tryz.func52, Tryz.ntmps52
          go_wp2
          clear c0
          go_loopw [3] (fun i wr => ∃ (k : Nat) (x : Int), k ≤ n ∧ i = .int .i64 ((k : Int) + 1) ∧ (f :: t)[k]? = some x ∧ okR f x (t.drop k) = r ∧ Apart (fun _ => False) w wr) (fun i _ => n + 1 - (intOf i).toNat)
          case atStart => exact ⟨0, f, Nat.zero_le _, rfl, rfl, HRR.out, A0.out⟩
          case round =>
            obtain ⟨k, x, hk, rfl, hx, hr, hap⟩ := hrel
            have HRK := mkHid hr
            have HAP := mkHid hap
            have HX := mkHid hx
            have HI := mkHid (H.out.kept (hap.belowF B hB))
            clear hr hap hx
            by_cases hlt : k < n
            · obtain ⟨b1, off1, x1, hb1, _, hx1, cx⟩ := HI.out.at k (by rw [List.length_cons, HN.out]; omega)
              obtain ⟨b2, off2, v, hb2, _, hv, cv⟩ := HI.out.at (k + 1) (by rw [List.length_cons, HN.out]; omega)
              obtain ⟨b3, off3, f3, hb3, _, hf3, cf⟩ := HI.out.at 0 (by simp)
              simp only [Option.some.injEq, Addr.mk.injEq, and_true] at hb1 hb2 hb3
              obtain ⟨rfl, rfl⟩ := hb1
              obtain ⟨rfl, rfl⟩ := hb2
              obtain ⟨rfl, rfl⟩ := hb3
              obtain rfl : x = x1 := by have := HX.out; rw [hx1] at this; exact (Option.some.inj this).symm
              obtain rfl : f = f3 := by simpa using hf3
              rw [List.getElem?_cons_succ] at hv
              rw [Nat.add_zero] at cf
              have HV := mkHid (drop_at hv)
              have HVG := mkHid hv
              clear hx1 hv hf3
              have k0 : (0 : Int) ≤ k := by omega
              have k1 : (k : Int) + 1 < m := by have := HM.out; omega
              have A1 := mkHid (rafter16 v x)
              have A2 := mkHid (rcrop16 (v - f))
              have HRR := mkHid (show (af v x && (decide ((v - f) % 65536 < 32768) && okR f v (t.drop (k + 1)))) = r by have := HRK.out; rw [HV.out, okR] at this; exact this)
              obtain ⟨p, HP⟩ : ∃ p, Hid (af v x = p) := ⟨_, rfl⟩
              obtain ⟨d, HD⟩ : ∃ d, Hid ((v - f) % 65536 = d) := ⟨_, rfl⟩
              rw [HP.out] at A1 HRR
              rw [HD.out] at A2 HRR
              cases p with
              | false =>
                obtain rfl : false = r := HRR.out
                go_wp2_with fail
                go_quiet (first | (go_at_call 71; exact Calls.quiet_of_same (A1.out _)) | (go_at_call 47; exact Calls.quiet_of_same (A2.out _)))
                go_wp2
                go_ret
                exact ⟨rfl, HAP.out.drewN _⟩
              | true =>
                obtain ⟨v0, v1, -⟩ := (af_iff _ _).1 HP.out
                have hd0 : 0 ≤ d := by have := HD.out; omega
                have hd1 : d < 65536 := by have := HD.out; omega
                by_cases hd : (32768 : Int) ≤ d
                · obtain rfl : false = r := by have := HRR.out; rw [decide_eq_false (by omega), Bool.false_and, Bool.and_false] at this; exact this
                  go_wp2_with fail
                  go_quiet (first | (go_at_call 71; exact Calls.quiet_of_same (A1.out _)) | (go_at_call 47; exact Calls.quiet_of_same (A2.out _)))
                  go_wp2
                  go_ret
                  exact ⟨rfl, HAP.out.drewN _⟩
                · have HRN := mkHid (show okR f v (t.drop (k + 1)) = r by have := HRR.out; rw [decide_eq_true (by omega), Bool.true_and, Bool.true_and] at this; exact this)
                  go_wp2_with fail
                  go_quiet (first | (go_at_call 71; exact Calls.quiet_of_same (A1.out _)) | (go_at_call 47; exact Calls.quiet_of_same (A2.out _)))
                  go_wp2
                  go_roundw
                  case rel => exact ⟨k + 1, v, by omega, by go_num, (by rw [List.getElem?_cons_succ]; exact HVG.out), HRN.out, HAP.out.drewN _⟩
                  case measure => simp [intOf]; omega
            · obtain rfl : k = n := by omega
              obtain rfl : true = r := by have := HRK.out; rw [← HN.out, List.drop_length] at this; exact this
              have k1 : ¬ (k : Int) + 1 < m := by have := HM.out; omega
              go_wp2
              go_ret
              exact ⟨rfl, HAP.out⟩
end Go.Proofs.YtdhbakknplnnkaaGreat.Nk
namespace Go.Proofs.YtdhbakknplnnkaaGreat.Nk
open Go.RowKit

theorem res14 {W : World} {bx : Nat} {sd md : Int} {a : Option Addr} {n c : Nat} (tmps : Array Value) (h2 : tmps.getD 2 undef = .pointer (some ⟨bx, 0, none⟩)) (hd : Td W bx (.int .u32 sd) (.int .u32 md) (.slice a n c)) :
    (results Tryz.f27 tmps).run Tryz.prog W = .ok (.tuple #[tv sd md (.slice a n c), tmps.getD 3 undef]) W := by
  obtain ⟨c0, c1, c2⟩ := hd.c
  clear hd
  have h2' : tmps[2]?.getD undef = .pointer (some ⟨bx, 0, none⟩) := by rw [← h2]; simp
  unfold tv
  simp [results, Tryz.results27, h2', c0, c1, c2, go_sem]
/-- The end where something is wrong. -/
theorem Bw.rno {w wr : World} {q : Nat} {s : ByteArray} (h : Bw w wr q) {E : Int} (hE : decE s = E) (h0 : ¬ E = 0) (tmps : Array Value) (h2 : tmps.getD 2 undef = .pointer (some ⟨q, 0, none⟩)) (h3 : tmps.getD 3 undef = .int .i64 E) (d : List Deferred) (hd : d = []) :
    bodyPost Tryz.prog Tryz.f27 (DecPost s w) Exit.ret { tmps := tmps, defers := d } (put3 wr q (.int .u32 0) (.int .u32 0) (.slice none 0 0)) := by
  subst hd
  refine bodyPost_ret (res14 _ h2 (put3_is h.r _ _ _)) rfl (dec_none (by rw [hE]; exact h0) (by rw [hE, h3]) ?_)
  exact (h.a.trans (put3_ap wr q _ _ _) (fun i hi e => by have := h.z; omega)).belowZ
theorem Bw.rno0 {w wr : World} {q : Nat} {s : ByteArray} (h : Bw w wr q) {E : Int} (hE : decE s = E) (h0 : ¬ E = 0) (tmps : Array Value) (h2 : tmps.getD 2 undef = .pointer (some ⟨q, 0, none⟩)) (h3 : tmps.getD 3 undef = .int .i64 E) (d : List Deferred) (hd : d = []) :
    bodyPost Tryz.prog Tryz.f27 (DecPost s w) Exit.ret { tmps := tmps, defers := d } wr := by
  subst hd
  exact bodyPost_ret (res14 _ h2 h.r) rfl (dec_none (by rw [hE]; exact h0) (by rw [hE, h3]) h.a.belowZ)
/-- Where the reference's Decode stands: its result in q, its reader in b, what it makes in nb, the numbers told so far. -/
structure Fw (w wr : World) (q b nb : Nat) (s : ByteArray) (p : Nat) (sd md : Int) (v : Value) (acc : List Int) : Prop where
  rd : Rd 136 wr b s (some p)
  r : Td wr q (.int .u32 0) (.int .u32 0) (.slice none 0 0)
  t : Td wr nb (.int .u32 sd) (.int .u32 md) v
  o : OI (nb + 1) wr v acc
  a : Apart (fun _ => False) w wr
  z : w.heap.size ≤ q ∧ q < b ∧ b < nb ∧ nb + 1 ≤ wr.heap.size
section
variable {w wr w2 : World} {q b nb p p2 : Nat} {s : ByteArray} {sd md : Int} {v v2 : Value} {acc : List Int}
theorem Fw.get (h : Fw w wr q b nb s p sd md v acc) (a : Apart (· = b) wr w2) (r : Rd 136 w2 b s (some p2)) : Fw w w2 q b nb s p2 sd md v acc :=
  ⟨r, h.r.kept a (by have := h.z; omega), h.t.kept a (by have := h.z; omega), ownsRow_apart h.o a (fun k hk e => by have := h.z; omega), h.a.trans a (fun i hi e => by have := h.z; omega), by have := h.z; have := a.size; omega⟩
theorem Fw.drewN (h : Fw w wr q b nb s p sd md v acc) (n : Nat) : Fw w (wr.drewN n) q b nb s p sd md v acc :=
  ⟨drew_rd n h.rd, h.r, h.t, h.o.drewN n, h.a.drewN n, h.z⟩
theorem Fw.grew (h : Fw w wr q b nb s p sd md v acc) {o : Obj} {w1 : World} (hg : (wr.alloc o).grownBy w1 v.ownBlock) : Apart (nb + 1 ≤ ·) wr w1 :=
  Apart.grown ((Apart.refl _ wr).alloc o) hg (fun k _ e => (h.o.lt k e).1)
theorem Fw.tn (h : Fw w wr q b nb s p sd md v acc) {o : Obj} {w1 : World} (hg : (wr.alloc o).grownBy w1 v.ownBlock) : Td w1 nb (.int .u32 sd) (.int .u32 md) v :=
  h.t.kept (h.grew hg) (by omega)
theorem Fw.app (h : Fw w wr q b nb s p sd md v acc) {o : Obj} {w1 : World} {y : Int} {n : Nat} (hn : n = acc.length) (hown : w1.ownsRow (nb + 1) 3 1 v2 (n + 1) (IC acc ++ [.int .i64 y])) (hg : (wr.alloc o).grownBy w1 v.ownBlock) : Fw w (w1.setCell ⟨nb, 2, none⟩ v2) q b nb s p sd md v2 (acc ++ [y]) := by
  have ha := h.grew hg
  have hz := h.z
  have hs := ap_set w1 nb 2 v2
  exact ⟨(h.rd.kept ha (by omega)).kept hs (by omega), (h.r.kept ha (by omega)).kept hs (by omega), ((h.tn hg).set2 v2), ownsRow_apart (OI.grown hown hn) hs (fun k hk e => by omega), (h.a.trans ha (fun i hi e => by omega)).trans hs (fun i hi e => by omega), by have := ha.size; simp; omega⟩
end
/-- Where a reader stands. -/
def posV (w : World) (b : Nat) : Nat :=
  match w.cell? ⟨b, 1, none⟩ with
  | some (.int _ p) => p.toNat
  | _ => 0
theorem rd_pos {T : TypeId} {w : World} {b : Nat} {s : ByteArray} {p : Nat} (h : Rd T w b s (some p)) : posV w b = p := by
  unfold posV
  rw [(cells3 h.1).2.1]
  simp
set_option maxRecDepth 100000 in
set_option maxHeartbeats 4000000 in
theorem rdec_any (s : ByteArray) (hs : (s.size : Int) ≤ 9223372036854775807) (w : World) : Calls Tryz.prog 27 #[.string s] w (DecPost s w) := by
  have N0 := mkHid (Td.box w (.int .u32 0) (.int .u32 0) (.slice none 0 0))
  have A0 := mkHid ((Apart.refl (fun _ => False) w).alloc (.cells #[.int .u32 0, .int .u32 0, .slice none 0 0] 78))
  have Z0 := mkHid (show (w.alloc (.cells #[.int .u32 0, .int .u32 0, .slice none 0 0] 78)).heap.size = w.heap.size + 1 by simp)
  obtain ⟨q, HQ⟩ : ∃ q, Hid (w.heap.size = q) := ⟨_, rfl⟩
  obtain ⟨W, HW⟩ : ∃ W, Hid (w.alloc (.cells #[.int .u32 0, .int .u32 0, .slice none 0 0] 78) = W) := ⟨_, rfl⟩
  rw [HQ.out, HW.out] at N0 Z0
  rw [HW.out] at A0
  have BW0 := mkHid (show Bw w W q from ⟨N0.out, A0.out, by rw [HQ.out]; exact Nat.le_refl _⟩)
  obtain ⟨f0, f1, f2⟩ := BW0.out.r.f
  obtain ⟨b0, b1, b2⟩ := BW0.out.r.c
  by_cases h1 : (65536 : Int) < s.size
  · have HDE := mkHid (show decE s = 2 by unfold decE; rw [if_pos (by omega)])
    go_enter Tryz.func27, Tryz.ntmps27
    go_wp2_with fail
    rw [HW.out, HQ.out]
    exact BW0.out.rno0 HDE.out (by decide) _ rfl rfl _ rfl
  · by_cases h2 : s.size % 4 = 0
    · have h2' : ((s.size : Int) % 4 != 0) = false := by simp; omega
      by_cases h3 : (s.size : Int) < 12
      · have HDE := mkHid (show decE s = 60 by unfold decE; rw [if_neg (by omega), if_neg (by omega), if_pos (by omega)])
        clear h2
        go_enter Tryz.func27, Tryz.ntmps27
        go_wp2_with fail
        rw [HW.out, HQ.out]
        exact BW0.out.rno0 HDE.out (by decide) _ rfl rfl _ rfl
      · have HSZ := mkHid (show 12 ≤ s.size ∧ s.size ≤ 65536 ∧ 8 * s.size = 64 + 32 * (s.size / 4 - 2) by omega)
        have HDE := mkHid (decE_fit (s := s) (by unfold lenE; rw [if_neg (by omega), if_neg (by omega), if_neg (by omega)]))
        have hs1 : (s.size : Int) ≤ 65536 := by omega
        clear h2
        go_enter Tryz.func27, Tryz.ntmps27
        go_wp2_with fail
        rw [HW.out, HQ.out]
        refine (rread_any s _).mono ?_
        rw [Z0.out]
        rintro e w2 ⟨rfl, r2, a2, z2⟩
        obtain ⟨b, HBB⟩ : ∃ b, Hid (q + 1 = b) := ⟨_, rfl⟩
        rw [HBB.out] at r2 z2 ⊢
        have R2 := mkHid r2
        have N2 := mkHid (N0.out.kept a2 (fun h => h))
        have A2 := mkHid (A0.out.zz a2)
        have hqb : q < b := by have := HBB.out; omega
        clear r2 a2 N0 A0 BW0 f0 f1 f2 b0 b1 b2
        obtain ⟨sd, HSD⟩ : ∃ x : Int, Hid ((gv s 0 32 : Int) = x) := ⟨_, rfl⟩
        obtain ⟨md, HMD⟩ : ∃ x : Int, Hid ((gv s 32 32 : Int) = x) := ⟨_, rfl⟩
        have G1 := mkHid (rget_fit b s (by have := HSZ.out; omega) 0 32 32 rfl (by omega) (by have := HSZ.out; omega) w2 R2.out)
        rw [HSD.out] at G1
        go_wp2_with fail
        refine (G1.out).mono ?_
        rintro e w3 ⟨rfl, r3, a3⟩
        have R3 := mkHid r3
        have N3 := mkHid (N2.out.kept a3 (by omega))
        have A3 := mkHid (A2.out.trans a3 (fun i hi e => by rw [HQ.out] at hi; omega))
        have G2 := mkHid (rget_fit b s (by have := HSZ.out; omega) 32 32 32 rfl (by omega) (by have := HSZ.out; omega) _ R3.out)
        rw [HMD.out] at G2
        clear r3 a3 G1 R2 N2 A2 z2
        go_wp2_with fail
        refine (G2.out).mono ?_
        rintro e w4 ⟨rfl, r4, a4⟩
        have hb4 := r4.heap
        have R4 := mkHid r4
        have N4 := mkHid (N3.out.kept a4 (by omega))
        have A4 := mkHid (A3.out.trans a4 (fun i hi e => by rw [HQ.out] at hi; omega))
        clear r4 a4 G2 R3 N3 A3
        have F0 := mkHid (show Fw w (w4.alloc (.cells #[.int .u32 sd, .int .u32 md, .slice none 0 0] 78)) q b w4.heap.size s 64 sd md (.slice none 0 0) [] from
          ⟨R4.out.kept ((Apart.refl (fun _ => False) w4).alloc _) (fun h => h), N4.out.kept ((Apart.refl (fun _ => False) w4).alloc _) (fun h => h), Td.box w4 _ _ _, OI.nil _ _, A4.out.zz ((Apart.refl (fun _ => False) w4).alloc _), by rw [HQ.out]; exact Nat.le_refl _, hqb, hb4, by simp⟩)
        obtain ⟨nb, HNB⟩ : ∃ nb, Hid (w4.heap.size = nb) := ⟨_, rfl⟩
        obtain ⟨W4, HW4⟩ : ∃ W4, Hid (w4.alloc (.cells #[.int .u32 sd, .int .u32 md, .slice none 0 0] 78) = W4) := ⟨_, rfl⟩
        rw [HNB.out, HW4.out] at F0
        obtain ⟨N, HNN⟩ : ∃ N, Hid (s.size / 4 - 2 = N) := ⟨_, rfl⟩
        rw [HNN.out] at HSZ
        obtain ⟨R, HR⟩ : ∃ R, Hid (lost s = R) := ⟨_, rfl⟩
        have HR0 := mkHid (show [] ++ deL s (64 + 32 * 0) (N - 0) = R by rw [← HR.out, ← HNN.out]; rfl)
        obtain ⟨i0, hi, hz0, hz1, hz2⟩ := info3'
        clear R4 N4 A4 hb4
        go_wp2
        rw [HW4.out, HNB.out]
        go_loopw [6, 7, 8] (fun _ _ _ wr => ∃ (j : Nat) (v : Value) (acc : List Int), j ≤ N ∧ acc ++ deL s (64 + 32 * j) (N - j) = R ∧ Fw w wr q b nb s (64 + 32 * j) sd md v acc ∧ acc.length ≤ 17 * j) (fun _ _ _ wr => 8 * s.size - posV wr b)
        case atStart => exact ⟨0, _, [], Nat.zero_le _, HR0.out, F0.out, Nat.zero_le _⟩
        case round =>
          obtain ⟨j, v, acc, hj, hr, hf, hl⟩ := hrel
          have HJR := mkHid hr
          have F1 := mkHid hf
          have HAL := mkHid hl
          clear hr hf hl F0 HR0
          obtain ⟨L, HL⟩ : ∃ L : Int, Hid (8 * (s.size : Int) - (64 + 32 * j : Nat) = L) := ⟨_, rfl⟩
          have LF := mkHid (rleft_at b s (by have := HSZ.out; omega) (64 + 32 * j) wr F1.out.rd L HL.out)
          by_cases hjN : j = N
          · have hL0 : L = 0 := by have := HL.out; have := HSZ.out; omega
            rw [hL0] at LF
            clear hL0
            have HAR := mkHid (show acc = R by have := HJR.out; rw [hjN, Nat.sub_self, deL, List.append_nil] at this; exact this)
            go_wp2_with fail
            refine (LF.out).mono ?_
            rintro e w5 ⟨rfl, nd, rfl⟩
            have F2 := mkHid (F1.out.drewN nd)
            obtain ⟨ad, cp, hv⟩ := ownsRow_slice F2.out.o
            subst hv
            obtain ⟨n, HN⟩ : ∃ n, Hid (acc.length = n) := ⟨_, rfl⟩
            have n1 : (n : Int) ≤ 9223372036854775807 := by have := HAL.out; have := HSZ.out; have := HN.out; omega
            have BW := mkHid (show Bw w (wr.drewN nd) q from ⟨F2.out.r, F2.out.a, F2.out.z.1⟩)
            obtain ⟨_, _, hv, ia⟩ := own_ia F2.out.o
            simp only [Value.slice.injEq] at hv
            obtain ⟨rfl, -, rfl⟩ := hv
            have GD := mkHid (rgood_any _ _ ad cp acc (Nat.le_refl _) ia)
            rw [HN.out] at GD
            obtain ⟨g, HG⟩ : ∃ g, Hid (isL acc = g) := ⟨_, rfl⟩
            rw [HG.out] at GD
            obtain ⟨c0, c1, c2⟩ := F2.out.t.c
            rw [HN.out] at c2
            obtain ⟨f0, f1, f2⟩ := BW.out.r.f
            obtain ⟨b0, b1, b2⟩ := BW.out.r.c
            clear LF F1 ia
            by_cases hn : (4096 : Int) < n
            · have HDE3 := mkHid (show decE s = 3 by rw [HDE.out, HR.out, ← HAR.out, if_pos (by rw [HN.out]; omega)])
              go_wp2
              exact BW.out.rno HDE3.out (by decide) _ rfl rfl _ rfl
            · have hn2 : ¬ 4096 < acc.length := by rw [HN.out]; omega
              cases g with
              | false =>
                have HDE1 := mkHid (show decE s = 110 by rw [HDE.out, HR.out, ← HAR.out, if_neg hn2, if_neg (by rw [HG.out]; decide)])
                clear hn2
                go_wp2_with fail
                refine (GD.out).mono ?_
                rintro e w6 ⟨rfl, a6⟩
                have B6 := mkHid (show Bw w w6 q from ⟨BW.out.r.kept a6 (fun h => h), BW.out.a.zz a6, BW.out.z⟩)
                clear a6 c0 c1 c2 f0 f1 f2 b0 b1 b2 BW GD F2
                obtain ⟨f0, f1, f2⟩ := B6.out.r.f
                obtain ⟨b0, b1, b2⟩ := B6.out.r.c
                go_wp2
                exact B6.out.rno HDE1.out (by decide) _ rfl rfl _ rfl
              | true =>
                have HDE0 := mkHid (show decE s = 0 by rw [HDE.out, HR.out, ← HAR.out, if_neg hn2, if_pos HG.out])
                have DR := mkHid (show decR s = ⟨sd, md, acc⟩ by unfold decR; rw [if_pos HDE0.out, HSD.out, HMD.out, HR.out, HAR.out])
                clear hn2
                go_wp2_with fail
                refine (GD.out).mono ?_
                rintro e w6 ⟨rfl, a6⟩
                have R6 := mkHid (F2.out.r.kept a6 (fun h => h))
                have T6 := mkHid (F2.out.t.kept a6 (fun h => h))
                have O6 := mkHid (F2.out.o.below a6.belowZ)
                have A6 := mkHid (F2.out.a.zz a6)
                have HZ := mkHid (show w.heap.size ≤ q ∧ q < nb by have := F2.out.z; omega)
                rw [HN.out] at T6 O6
                clear a6 c0 c1 c2 f0 f1 f2 b0 b1 b2 BW GD F2
                obtain ⟨c0, c1, c2⟩ := T6.out.c
                obtain ⟨f0, f1, f2⟩ := R6.out.f
                obtain ⟨b0, b1, b2⟩ := R6.out.c
                go_wp2
                have dd := put3_is R6.out (.int .u32 sd) (.int .u32 md) (.slice ad n cp)
                have ap := put3_ap w6 q (.int .u32 sd) (.int .u32 md) (.slice ad n cp)
                have o10 := ownsRow_apart O6.out ap (by intro k hk e; have := HZ.out; omega)
                obtain ⟨_, _, hv1, ia1⟩ := own_ia o10
                simp only [Value.slice.injEq] at hv1
                obtain ⟨rfl, _, rfl⟩ := hv1
                refine bodyPost_ret (res14 _ rfl dd) rfl ⟨⟨ad, cp, ?_, by rw [DR.out]; exact ia1⟩, ?_⟩
                · rw [DR.out, HDE0.out]
                  simp only
                  rw [HN.out]
                  rfl
                · exact (A6.out.trans ap (fun i hi e => by have := HZ.out; omega)).belowZ
          · have hL0 : (0 : Int) < L := by have := HL.out; have := HSZ.out; omega
            have HNJ := mkHid (show N - j = (N - (j + 1)) + 1 by omega)
            have HP := mkHid (show 64 + 32 * j + 32 ≤ 8 * s.size by have := HSZ.out; omega)
            obtain ⟨p, HPP⟩ : ∃ p, Hid (64 + 32 * j = p) := ⟨_, rfl⟩
            rw [HPP.out] at F1 HP
            have HPOS := mkHid (rd_pos F1.out.rd)
            obtain ⟨x, HX⟩ : ∃ x, Hid (gv s p 16 = x) := ⟨_, rfl⟩
            obtain ⟨M, HM⟩ : ∃ M, Hid (gv s (p + 16) 16 = M) := ⟨_, rfl⟩
            have hx := gv_lt s p 16
            have hM := gv_lt s (p + 16) 16
            rw [HX.out] at hx
            rw [HM.out] at hM
            have HXL := mkHid (show x < 65536 from hx)
            have HML := mkHid (show M < 65536 from hM)
            have hxi : ((x : Nat) : Int) ≤ 65535 := by omega
            have hx0 : (0 : Int) ≤ x := by omega
            obtain ⟨D, HD⟩ : ∃ D, Hid (deL s (64 + 32 * (j + 1)) (N - (j + 1)) = D) := ⟨_, rfl⟩
            have HQN := mkHid (show (acc ++ [(x : Int)]) ++ (tl (x : Int) M 0 (16 - 0) ++ D) = R by
              have := HJR.out
              rw [HNJ.out, deL, HPP.out, HX.out, HM.out] at this
              rw [← HD.out, show 64 + 32 * (j + 1) = p + 32 by have := HPP.out; omega]
              simpa [List.append_assoc] using this)
            clear hx hM HJR
            go_wp2_with fail
            refine (LF.out).mono ?_
            rintro e w5 ⟨rfl, nd, rfl⟩
            have F2 := mkHid (F1.out.drewN nd)
            have G1 := mkHid (rget_fit b s (by have := HSZ.out; omega) p 16 16 rfl (by omega) (by have := HP.out; omega) _ F2.out.rd)
            rw [HX.out] at G1
            clear LF F1
            go_wp2_with fail
            refine (G1.out).mono ?_
            rintro e w6 ⟨rfl, r6, a6⟩
            have F3 := mkHid (F2.out.get a6 r6)
            have G2 := mkHid (rget_fit b s (by have := HSZ.out; omega) (p + 16) 16 16 rfl (by omega) (by have := HP.out; omega) _ F3.out.rd)
            rw [HM.out] at G2
            clear r6 a6 F2 G1
            go_wp2_with fail
            refine (G2.out).mono ?_
            rintro e w7 ⟨rfl, r7, a7⟩
            have F4 := mkHid (F3.out.get a7 r7)
            clear r7 a7 F3 G2
            obtain ⟨ad, cp, hv⟩ := ownsRow_slice F4.out.o
            subst hv
            obtain ⟨n, HN⟩ : ∃ n, Hid (acc.length = n) := ⟨_, rfl⟩
            rw [HN.out] at F4
            have HNB2 := mkHid (show n ≤ 17 * 16384 by have := HAL.out; have := HSZ.out; have := HN.out; omega)
            obtain ⟨c0, c1, c2⟩ := F4.out.t.c
            go_upto_region 12 with (at_builtin; refine wpList_append_own2 _ rfl (.tmp 38) (.tmp 40) 24 rfl (nb + 1) 3 i0 (.int .i64 0) 1 8 Tryz.underlying24 hi hz0 hz1 hz2 rfl (by decide) (.slice ad n cp) n (IC acc) rfl ((show w7.ownsRow (nb + 1) 3 1 (.slice ad n cp) n (IC acc) by have := F4.out.o; unfold OI at this; rw [HN.out] at this; exact this).alloc _) ⟨w7.heap.size, 0, none⟩ 1 1 [.int .i64 (x : Int)] rfl rfl (cell_one_new _ _ _) (by intro u hu; simp at hu; subst hu; rfl) (by unfold maxLen; have := HNB2.out; omega) (by have := HNB2.out; omega) (by have := F4.out.z; simp; omega) ?_; intro v4 w8 hown4 hgrow4 _; obtain ⟨ad4, cp4, hv4⟩ := ownsRow_slice hown4; subst hv4; have F5 := mkHid (F4.out.app HN.out.symm hown4 hgrow4); have T5 := mkHid (F4.out.tn hgrow4); clear hown4 hgrow4 c0 c1 c2; obtain ⟨c0, c1, c2⟩ := T5.out.c; obtain ⟨f0, f1, f2⟩ := T5.out.f)
            obtain ⟨W8, HW8⟩ : ∃ W8, Hid (w8.setCell ⟨nb, 2, none⟩ (.slice ad4 (n + 1) cp4) = W8) := ⟨_, rfl⟩
            rw [HW8.out] at F5 ⊢
            clear c0 c1 c2 f0 f1 f2 F4 T5
            go_wp2
            go_loopw [8] (fun i wi => ∃ (k : Nat) (v' : Value) (ac : List Int), k ≤ 16 ∧ i = .int .i64 (k : Int) ∧ ac ++ (tl (x : Int) M k (16 - k) ++ D) = R ∧ Fw w wi q b nb s (p + 16 + 16) sd md v' ac ∧ ac.length ≤ 17 * j + 1 + k) (fun i _ => 16 - (intOf i).toNat)
            case atStart => exact ⟨0, _, acc ++ [(x : Int)], Nat.zero_le _, rfl, HQN.out, F5.out, by rw [List.length_append, HN.out]; have := HAL.out; have := HN.out; simp; omega⟩
            case round =>
              obtain ⟨k, v', ac, hk, rfl, hr, hf, hl⟩ := hrel
              have HKR := mkHid hr
              have F6 := mkHid hf
              have HAC := mkHid hl
              clear hr hf hl F5 HQN
              by_cases hlt : k < 16
              · have k0 : (0 : Int) ≤ k := by omega
                have k1 : (k : Int) < 16 := by omega
                have hu : IntKind.u64.wrap (k : Int) = k := by rw [IntKind.wrap_u64]; omega
                have ib := mkHid (and_bit32 M k HML.out)
                obtain ⟨bt, HBT⟩ : ∃ bt, Hid (M / 2 ^ k % 2 = bt) := ⟨_, rfl⟩
                rw [HBT.out] at ib
                have hbt : bt < 2 := by rw [← HBT.out]; exact Nat.mod_lt _ (by decide)
                have HTL := mkHid (show tl (x : Int) M k (16 - k) = (if bt = 1 then [((x : Int) + k + 1) % 65536] else []) ++ tl (x : Int) M (k + 1) (16 - (k + 1)) by
                  rw [show 16 - k = (16 - (k + 1)) + 1 by omega, tl, HBT.out])
                rcases (by omega : bt = 0 ∨ bt = 1) with rfl | rfl
                · have ib' : bits .and .u32 ((M : Int) / 2 ^ k) 1 = 0 := ib.out
                  go_wp2
                  go_roundw
                  case rel =>
                    refine ⟨k + 1, v', ac, by omega, by go_num, ?_, F6.out, by have := HAC.out; omega⟩
                    have := HKR.out
                    rw [HTL.out, if_neg (by decide), List.nil_append] at this
                    exact this
                  case measure => simp [intOf]; omega
                · have ib' : bits .and .u32 ((M : Int) / 2 ^ k) 1 = 1 := ib.out
                  obtain ⟨y, HY⟩ : ∃ y, Hid (((x : Int) + k + 1) % 65536 = y) := ⟨_, rfl⟩
                  have hy : ((x : Int) + k + 1) % 65536 = y := HY.out
                  obtain ⟨ad6, cp6, hv⟩ := ownsRow_slice F6.out.o
                  subst hv
                  obtain ⟨m, HMM⟩ : ∃ m, Hid (ac.length = m) := ⟨_, rfl⟩
                  rw [HMM.out] at F6
                  have HNB3 := mkHid (show m ≤ 17 * 16384 + 17 by have := HAC.out; have := HSZ.out; have := HMM.out; omega)
                  obtain ⟨c0, c1, c2⟩ := F6.out.t.c
                  go_upto_region 14 with (at_builtin; refine wpList_append_own2 _ rfl (.tmp 54) (.tmp 60) 24 rfl (nb + 1) 3 i0 (.int .i64 0) 1 8 Tryz.underlying24 hi hz0 hz1 hz2 rfl (by decide) (.slice ad6 m cp6) m (IC ac) rfl ((show wr.ownsRow (nb + 1) 3 1 (.slice ad6 m cp6) m (IC ac) by have := F6.out.o; unfold OI at this; rw [HMM.out] at this; exact this).alloc _) ⟨wr.heap.size, 0, none⟩ 1 1 [.int .i64 y] rfl rfl (cell_one_new _ _ _) (by intro u hu; simp at hu; subst hu; rfl) (by unfold maxLen; have := HNB3.out; omega) (by have := HNB3.out; omega) (by have := F6.out.z; simp; omega) ?_; intro v5 w9 hown4 hgrow4 _; obtain ⟨ad5, cp5, hv4⟩ := ownsRow_slice hown4; subst hv4; have F7 := mkHid (F6.out.app HMM.out.symm hown4 hgrow4); have T7 := mkHid (F6.out.tn hgrow4); clear hown4 hgrow4 c0 c1 c2; obtain ⟨c0, c1, c2⟩ := T7.out.c; obtain ⟨f0, f1, f2⟩ := T7.out.f)
                  obtain ⟨W9, HW9⟩ : ∃ W9, Hid (w9.setCell ⟨nb, 2, none⟩ (.slice ad5 (m + 1) cp5) = W9) := ⟨_, rfl⟩
                  rw [HW9.out] at F7 ⊢
                  clear c0 c1 c2 f0 f1 f2 F6 T7
                  go_wp2
                  go_roundw
                  case rel =>
                    refine ⟨k + 1, _, ac ++ [y], by omega, by go_num, ?_, F7.out, by rw [List.length_append]; have := HAC.out; simp; omega⟩
                    have := HKR.out
                    rw [HTL.out, if_pos rfl, HY.out] at this
                    simpa [List.append_assoc] using this
                  case measure => simp [intOf]; omega
              · obtain rfl : k = 16 := by omega
                have HFIN := mkHid (show ac ++ deL s (64 + 32 * (j + 1)) (N - (j + 1)) = R by
                  have := HKR.out
                  rw [Nat.sub_self, tl, List.nil_append, ← HD.out] at this
                  exact this)
                go_wp2
                go_roundw
                case rel => exact ⟨j + 1, v', ac, by omega, HFIN.out, (by rw [show 64 + 32 * (j + 1) = p + 16 + 16 by have := HPP.out; omega]; exact F6.out), by have := HAC.out; omega⟩
                case measure =>
                  have h1 := HPOS.out
                  have h2 := rd_pos F6.out.rd
                  rw [h1, h2]
                  have := HP.out
                  omega
    · have h2' : ((s.size : Int) % 4 != 0) = true := by simp; omega
      have HDE := mkHid (show decE s = 90 by unfold decE; rw [if_neg (by omega), if_pos (by omega)])
      clear h2
      go_enter Tryz.func27, Tryz.ntmps27
      go_wp2_with fail
      rw [HW.out, HQ.out]
      exact BW0.out.rno0 HDE.out (by decide) _ rfl rfl _ rfl
end Go.Proofs.YtdhbakknplnnkaaGreat.Nk
