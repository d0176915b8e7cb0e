/-
  What is told with one part's more.
-/
import Derived.Test.YtdhbakknplnnkaaGreatFdK
import Derived.Stop.Asserts
namespace Go.Proofs.YtdhbakknplnnkaaGreat.Fd
open Go.RowKit Go.Proofs.YtdhbakknplnnkaaGreat.Nk

theorem asr97 (v : Value) (w : World) : (Instr.typeAssert (.iface 97 v) 20 104 true).run Tryz.prog w = .ok (.tuple #[.iface 97 v, .bool true]) w := run_typeAssert_hasB Tryz.underlying104 (by kernel_rfl) v 20 w
theorem asr100 (v : Value) (w : World) : (Instr.typeAssert (.iface 100 v) 20 104 true).run Tryz.prog w = .ok (.tuple #[.iface 100 v, .bool true]) w := run_typeAssert_hasB Tryz.underlying104 (by kernel_rfl) v 20 w
theorem asr78 (v : Value) (w : World) : (Instr.typeAssert (.iface 78 v) 20 104 true).run Tryz.prog w = .ok (.tuple #[.nilIface, .bool false]) w := run_typeAssert_lacksB Tryz.underlying104 (by kernel_rfl) (by kernel_rfl) v 20 w
theorem asrnil (w : World) : (Instr.typeAssert .nilIface 20 104 true).run Tryz.prog w = .ok (.tuple #[.nilIface, .bool false]) w := by kernel_rfl
theorem meth97 {nm : String} (h : ∀ (v : Value) (w : World), (method 318 97 v nm).run Tryz.prog w = .ok (125, v) w) (v : Value) (w : World) : (method 318 97 v nm).run Tryz.prog w = .ok (125, v) w := h v w
theorem meth100 {nm : String} (h : ∀ (v : Value) (w : World), (method 318 100 v nm).run Tryz.prog w = .ok (152, v) w) (v : Value) (w : World) : (method 318 100 v nm).run Tryz.prog w = .ok (152, v) w := h v w
theorem con78 (v : Value) (w : World) : (Instr.typeAssert (.iface 78 v) 20 78 true).run Tryz.prog w = .ok (.tuple #[v, .bool true]) w := by kernel_rfl
theorem connil (w : World) : (Instr.typeAssert .nilIface 20 78 true).run Tryz.prog w = .ok (.tuple #[.agg #[.int .u32 0, .int .u32 0, .slice none 0 0], .bool false]) w := by kernel_rfl

/-- What is told with one part's more: a list that has too many does not grow. -/
def grR (near : Int) (aR : List Rt) (p : Rc.Pt) : List Rt := if 4096 < aR.length then aR else aR ++ pR near p
def grA (aA : List Int) (p : Rc.Pt) : List Int := if 4096 < aA.length then aA else aA ++ pA p
theorem grR_nil {near : Int} {aR : List Rt} {p : Rc.Pt} (h : pR near p = []) : grR near aR p = aR := by unfold grR; rw [h, List.append_nil]; split <;> rfl
theorem grA_nil {aA : List Int} {p : Rc.Pt} (h : pA p = []) : grA aA p = aA := by unfold grA; rw [h, List.append_nil]; split <;> rfl
/-- Where it stands: what is told in b3, its result in rb. -/
structure Mw (w wr : World) (b3 rb B : Nat) (vr va : Value) (aR : List Rt) (aA : List Int) : Prop where
  f : Bd 26 wr b3 vr va
  r : Bd 26 wr rb (.slice none 0 0) (.slice none 0 0)
  oR : OR B wr vr aR
  oA : OI B wr va aA
  ne : ∀ k, vr.ownBlock = some k → ¬ va.ownBlock = some k
  nR : ∀ k, vr.ownBlock = some k → k ≠ b3 ∧ k ≠ rb
  nA : ∀ k, va.ownBlock = some k → k ≠ b3 ∧ k ≠ rb
  k : Below B w wr
  z : B ≤ w.heap.size ∧ B ≤ b3 ∧ b3 < rb ∧ rb < wr.heap.size
section
variable {w wr w2 : World} {b3 rb B : Nat} {vr va vr2 va2 : Value} {aR : List Rt} {aA : List Int}
theorem Mw.hB (h : Mw w wr b3 rb B vr va aR aA) : B ≤ wr.heap.size := by have := h.z; omega
theorem Mw.next (h : Mw w wr b3 rb B vr va aR aA) (hb : Below wr.heap.size wr w2) : Mw w w2 b3 rb B vr va aR aA :=
  ⟨(below_apart hb).heap h.f (fun h => h), (below_apart hb).heap h.r (fun h => h), h.oR.below hb, h.oA.below hb, h.ne, h.nR, h.nA, h.k.trans (hb.mono h.hB), h.z.1, h.z.2.1, h.z.2.2.1, Nat.lt_of_lt_of_le h.z.2.2.2 hb.size⟩
theorem Mw.appR (h : Mw w wr b3 rb B vr va aR aA) {n : Nat} {rs : List Rt} (hown : w2.ownsRow B 58 5 vr2 n (rC (aR ++ rs))) (hn : n = (aR ++ rs).length) (hg : wr.grownBy w2 vr.ownBlock) (hx : ∀ k, vr2.ownBlock = some k → vr.ownBlock = some k ∨ wr.heap.size ≤ k) : Mw w (w2.setCell ⟨b3, 0, none⟩ vr2) b3 rb B vr2 va (aR ++ rs) aA := by
  have hz := h.z
  have ha : Apart (fun k => vr.ownBlock = some k) wr w2 := ⟨hg.os, hg.tape, hg.output, hg.size, fun k hk hx => hg.block k hk (fun e => hx e.symm)⟩
  have hbl : Below B wr w2 := ⟨hg.os, hg.tape, hg.output, hg.size, fun k hk => hg.block k (by omega) (fun e => by have := (h.oR.lt k e.symm).1; omega)⟩
  have hs := ap_set w2 b3 0 vr2
  have hsz := hg.size
  have hn2 : ∀ k, vr2.ownBlock = some k → k ≠ b3 ∧ k ≠ rb := fun k hk => by
    rcases hx k hk with e | e
    · exact h.nR k e
    · exact ⟨by omega, by omega⟩
  refine ⟨?_, hs.heap (ha.heap h.r (fun e => (h.nR rb e).2 rfl)) (by omega), ?_, ?_, ?_, hn2, h.nA, (h.k.trans hbl).setCell (p := ⟨b3, 0, none⟩) (by show B ≤ b3; omega) vr2, hz.1, hz.2.1, hz.2.2.1, by simp; omega⟩
  · have := heap_setCell_same w2 b3 0 _ 26 vr2 (ha.heap h.f (fun e => (h.nR b3 e).1 rfl))
    exact this
  · subst hn
    exact OR.set hown (fun k hk => (hn2 k hk).1)
  · exact ownsRow_apart2 (ownsRow_apart2 h.oA ha (fun k hk e => h.ne k e hk)) hs (fun k hk e => (h.nA k hk).1 e)
  · intro k hk hk'
    rcases hx k hk with e | e
    · exact h.ne k e hk'
    · have := (h.oA.lt k hk').2; omega
theorem Mw.appA (h : Mw w wr b3 rb B vr va aR aA) {n : Nat} {rs : List Int} (hown : w2.ownsRow B 3 1 va2 n (IC (aA ++ rs))) (hn : n = (aA ++ rs).length) (hg : wr.grownBy w2 va.ownBlock) (hx : ∀ k, va2.ownBlock = some k → va.ownBlock = some k ∨ wr.heap.size ≤ k) : Mw w (w2.setCell ⟨b3, 1, none⟩ va2) b3 rb B vr va2 aR (aA ++ rs) := by
  have hz := h.z
  have ha : Apart (fun k => va.ownBlock = some k) wr w2 := ⟨hg.os, hg.tape, hg.output, hg.size, fun k hk hx => hg.block k hk (fun e => hx e.symm)⟩
  have hbl : Below B wr w2 := ⟨hg.os, hg.tape, hg.output, hg.size, fun k hk => hg.block k (by omega) (fun e => by have := (h.oA.lt k e.symm).1; omega)⟩
  have hs := ap_set w2 b3 1 va2
  have hsz := hg.size
  have hn2 : ∀ k, va2.ownBlock = some k → k ≠ b3 ∧ k ≠ rb := fun k hk => by
    rcases hx k hk with e | e
    · exact h.nA k e
    · exact ⟨by omega, by omega⟩
  refine ⟨?_, hs.heap (ha.heap h.r (fun e => (h.nA rb e).2 rfl)) (by omega), ?_, ?_, ?_, h.nR, hn2, (h.k.trans hbl).setCell (p := ⟨b3, 1, none⟩) (by show B ≤ b3; omega) va2, hz.1, hz.2.1, hz.2.2.1, by simp; omega⟩
  · have := heap_setCell_same w2 b3 1 _ 26 va2 (ha.heap h.f (fun e => (h.nA b3 e).1 rfl))
    exact this
  · exact ownsRow_apart2 (ownsRow_apart2 h.oR ha (fun k hk e => h.ne k hk e)) hs (fun k hk e => (h.nR k hk).1 e)
  · subst hn
    exact ownsRow_apart2 hown hs (fun k hk e => (hn2 k hk).1 e)
  · intro k hk hk'
    rcases hx k hk' with e | e
    · exact h.ne k hk e
    · have := (h.oR.lt k hk).2; omega
theorem Mw.fR (h : Mw w wr b3 rb B vr va aR aA) (hg : wr.grownBy w2 vr.ownBlock) : Bd 26 w2 b3 vr va :=
  Apart.heap (X := fun k => vr.ownBlock = some k) ⟨hg.os, hg.tape, hg.output, hg.size, fun k hk hx => hg.block k hk (fun e => hx e.symm)⟩ h.f (fun e => (h.nR b3 e).1 rfl)
theorem Mw.fA (h : Mw w wr b3 rb B vr va aR aA) (hg : wr.grownBy w2 va.ownBlock) : Bd 26 w2 b3 vr va :=
  Apart.heap (X := fun k => va.ownBlock = some k) ⟨hg.os, hg.tape, hg.output, hg.size, fun k hk hx => hg.block k hk (fun e => hx e.symm)⟩ h.f (fun e => (h.nA b3 e).1 rfl)
end
/-- What it hands back. -/
def MPost (B : Nat) (w : World) (aR : List Rt) (aA : List Int) (e : Ending) (w' : World) : Prop :=
  (∃ vr va, e = .returned (.agg #[vr, va]) ∧ OR B w' vr aR ∧ OI B w' va aA ∧ ∀ k, vr.ownBlock = some k → ¬ va.ownBlock = some k) ∧ Below B w w'
theorem res20 {W : World} {bx : Nat} {u v : Value} (tmps : Array Value) (h2 : tmps.getD 6 undef = .pointer (some ⟨bx, 0, none⟩)) (hd : Bd 26 W bx u v) :
    (results Tryz.f20 tmps).run Tryz.prog W = .ok (.agg #[u, v]) W := by
  obtain ⟨⟨c0, c1⟩, -⟩ := cells2 hd
  clear hd
  have h2' : tmps[6]?.getD undef = .pointer (some ⟨bx, 0, none⟩) := by rw [← h2]; simp
  simp [results, Tryz.results20, h2', c0, c1, go_sem]
theorem Mw.out {w wr : World} {b3 rb B : Nat} {vr va : Value} {aR : List Rt} {aA : List Int} (h : Mw w wr b3 rb B vr va aR aA) (tmps : Array Value) (h2 : tmps.getD 6 undef = .pointer (some ⟨rb, 0, none⟩)) (d : List Deferred) (hd : d = []) :
    bodyPost Tryz.prog Tryz.f20 (MPost B w aR aA) Exit.ret { tmps := tmps, defers := d } (put2 wr rb vr va) := by
  subst hd
  have hz := h.z
  have hs := put2_ap wr rb vr va
  refine bodyPost_ret (res20 _ h2 (put2_is h.r _ _)) rfl ⟨⟨vr, va, rfl, ownsRow_apart2 h.oR hs (fun k hk e => (h.nR k hk).2 e), ownsRow_apart2 h.oA hs (fun k hk e => (h.nA k hk).2 e), h.ne⟩, h.k.trans (hs.below B h.hB (fun k e => by omega))⟩
set_option maxRecDepth 100000 in
set_option maxHeartbeats 4000000 in
theorem more_any (B : Nat) (w : World) (ad : Option Addr) (cp : Nat) (aR : List Rt) (ad' : Option Addr) (cp' : Nat) (aA : List Int) (x : Value) (p : Rc.Pt) (near : Int)
    (hR : OR B w (.slice ad aR.length cp) aR) (hA : OI B w (.slice ad' aA.length cp') aA) (hne : ∀ k, (Value.slice ad aR.length cp).ownBlock = some k → ¬ (Value.slice ad' aA.length cp').ownBlock = some k) (hB : B ≤ w.heap.size) (ht : Told w x p) (he : pE p = 0)
    (n0 : 0 ≤ near) (n1 : near ≤ 1125899906842624) (lR : aR.length ≤ 1000000) (lA : aA.length ≤ 1000000) :
    Calls Tryz.prog 20 #[.agg #[.slice ad aR.length cp, .slice ad' aA.length cp'], x, .int .i64 near] w (MPost B w (grR near aR p) (grA aA p)) := by
  have M0 := mkHid (show Mw w ((w.alloc (.cells #[.slice ad aR.length cp, .slice ad' aA.length cp'] 26)).alloc (.cells #[.slice none 0 0, .slice none 0 0] 26)) w.heap.size (w.heap.size + 1) B (.slice ad aR.length cp) (.slice ad' aA.length cp') aR aA from by
    have h1 : Below w.heap.size w ((w.alloc (.cells #[.slice ad aR.length cp, .slice ad' aA.length cp'] 26)).alloc (.cells #[.slice none 0 0, .slice none 0 0] 26)) := ((Below.refl _ _).alloc (Nat.le_refl _) _).alloc (by simp) _
    refine ⟨((Apart.refl (fun _ => False) _).alloc _).heap (heap_alloc_new w _) (fun h => h), ?_, hR.below h1, hA.below h1, hne, fun k hk => by have := (hR.lt k hk).2; exact ⟨by omega, by omega⟩, fun k hk => by have := (hA.lt k hk).2; exact ⟨by omega, by omega⟩, h1.mono hB, hB, hB, by omega, by simp⟩
    have := heap_alloc_new (w.alloc (.cells #[.slice ad aR.length cp, .slice ad' aA.length cp'] 26)) (.cells #[.slice none 0 0, .slice none 0 0] 26)
    rw [show (w.alloc (.cells #[.slice ad aR.length cp, .slice ad' aA.length cp'] 26)).heap.size = w.heap.size + 1 by simp] at this
    exact this)
  have B01 := mkHid (show Below w.heap.size w ((w.alloc (.cells #[.slice ad aR.length cp, .slice ad' aA.length cp'] 26)).alloc (.cells #[.slice none 0 0, .slice none 0 0] 26)) from ((Below.refl _ _).alloc (Nat.le_refl _) _).alloc (by simp) _)
  obtain ⟨W, HW⟩ : ∃ W, Hid ((w.alloc (.cells #[.slice ad aR.length cp, .slice ad' aA.length cp'] 26)).alloc (.cells #[.slice none 0 0, .slice none 0 0] 26) = W) := ⟨_, rfl⟩
  rw [HW.out] at M0 B01
  obtain ⟨b3, HB3⟩ : ∃ b, Hid (w.heap.size = b) := ⟨_, rfl⟩
  obtain ⟨rb, HRB⟩ : ∃ b, Hid (w.heap.size + 1 = b) := ⟨_, rfl⟩
  rw [HRB.out, HB3.out] at M0
  have HZ := mkHid (show b3 ≤ W.heap.size by have := M0.out.z; omega)
  have f97 := asr97
  have f100 := asr100
  have f78 := asr78
  have fnil := asrnil
  have g78 := con78
  have gnil := connil
  obtain ⟨n, HN⟩ : ∃ n, Hid (aR.length = n) := ⟨_, rfl⟩
  obtain ⟨m, HM⟩ : ∃ n, Hid (aA.length = n) := ⟨_, rfl⟩
  have TM := mkHid (many_any (n : Int))
  have TM' := mkHid (many_any (m : Int))
  rw [HN.out, HM.out] at M0 HW ⊢
  clear hR hA hne hB
  obtain ⟨⟨c0, c1⟩, k0, k1⟩ := cells2 M0.out.f
  obtain ⟨⟨d0, d1⟩, l0, l1⟩ := cells2 M0.out.r
  have hzz := M0.out.z
  have hbr : ¬ b3 = rb := by omega
  have hrb : ¬ rb = b3 := by omega
  clear hzz
  obtain ⟨pc, pt, d⟩ := p
  by_cases htt : pt = 205
  · subst htt
    by_cases h11 : pc = 11
    · subst h11
      obtain ⟨px1, px2, px3, px4⟩ := p_11 d near
      rw [px1] at he
      rw [told_11] at ht
      obtain ⟨a1, q1, rfl, ba⟩ := ht
      rw [grA_nil px3]
      by_cases hm : 4096 < n
      · have e1 : decide (4096 < (n : Int)) = true := by simp; omega
        have e2 : grR near aR ⟨11, 205, d⟩ = aR := by unfold grR; rw [if_pos (by rw [HN.out]; exact hm)]
        rw [e1] at TM
        rw [e2]
        clear e1 e2 px1 px2 px3 px4
        go_enter Tryz.func20, Tryz.ntmps20
        go_wp2_with fail
        rw [HW.out, HRB.out, HB3.out]
        refine (TM.out _).mono ?_
        rintro e w1 ⟨rfl, rfl⟩
        go_wp2
        rw [put2_eq]
        exact M0.out.out _ rfl _ rfl
      · have e1 : decide (4096 < (n : Int)) = false := by simp; omega
        have e2 : grR near aR ⟨11, 205, d⟩ = aR ++ firstL (Un.frV (Cc.decSt d) near) (Cc.decL d) := by unfold grR; rw [if_neg (by rw [HN.out]; exact hm), px2]
        rw [e1] at TM
        rw [e2]
        clear e1 e2 px1 px2 px3 px4
        have HFF := mkHid (first_fits d near)
        have FC := mkHid (fun (w5 : World) (hb : Cc.BA w5.heap.size w5 a1 (Cc.decL d)) => first_any (Cc.decSd d) (Cc.decSt d) (Cc.decL d) a1 q1 near w5 hb (Cc.decSt_bd d).1 (Cc.decSt_bd d).2 HFF.out.1 HFF.out.2.1 (by have := HFF.out.2.2; omega))
        unfold Cc.rv
        obtain ⟨sd, HSD⟩ : ∃ x, Hid (Cc.decSd d = x) := ⟨_, rfl⟩
        obtain ⟨st, HST⟩ : ∃ x, Hid (Cc.decSt d = x) := ⟨_, rfl⟩
        obtain ⟨bl, HBL⟩ : ∃ x, Hid (Cc.decL d = x) := ⟨_, rfl⟩
        have HLN := mkHid (show (aR ++ firstL (Un.frV st near) bl).length ≤ 1100000 by have := HFF.out.2.2; rw [HST.out, HBL.out] at this; rw [List.length_append]; omega)
        rw [HSD.out, HST.out, HBL.out] at FC
        rw [HBL.out] at ba
        rw [HSD.out, HST.out, HBL.out]
        obtain ⟨nw, HNW⟩ : ∃ x, Hid (firstL (Un.frV st near) bl = x) := ⟨_, rfl⟩
        rw [HNW.out] at FC HLN ⊢
        have BA0 := mkHid (ba.on B01.out)
        go_enter Tryz.func20, Tryz.ntmps20
        go_wp2_with fail
        rw [HW.out, HRB.out, HB3.out]
        refine (TM.out _).mono ?_
        rintro e w1 ⟨rfl, rfl⟩
        have M0d := mkHid (M0.out.next ((Below.refl _ w1).drew))
        have BA0d := mkHid (BA0.out.on ((Below.refl _ w1).drew))
        clear c0 c1 d0 d1 k0 k1 l0 l1
        obtain ⟨⟨c0, c1⟩, k0, k1⟩ := cells2 M0d.out.f
        obtain ⟨i0, hi, hz0, hz1, hz2⟩ := info46'
        go_upto_region 5 with fail
        go_region_law (first
          | (refine step_append_told _ (by kernel_rfl) (.tmp 19) (.tmp 22) 23 (by kernel_rfl) B 58 i0 (.agg #[.int .i64 0, .bool false, .int .i64 0, .bool false, .bool false]) 5 32 Tryz.underlying23 hi hz0 hz1 hz2 rfl (by decide) (.slice ad n cp) n (rC aR) (by kernel_rfl) (by have := M6.out.oR; unfold OR at this; rw [HN.out] at this; exact this) v6 nw.length (rC nw) (by kernel_rfl) (or_src O6.out) (rC_one _) (by have := HLN.out; rw [List.length_append, HN.out] at this; unfold maxLen; omega) (by have := HLN.out; rw [List.length_append, HN.out] at this; omega) M6.out.hB ?_; intro v7 w7 hown hgr hxx; obtain ⟨ad7, cp7, rfl⟩ := ownsRow_slice hown; have M7 := mkHid (M6.out.appR (rs := nw) (by rw [rC_app]; exact hown) (by rw [List.length_append, HN.out]) hgr hxx); have B7 := mkHid (M6.out.fR hgr); clear hown hgr hxx; obtain ⟨⟨j0, j1⟩, t0, t1⟩ := cells2 B7.out)
          | (go_simp; rw [meth97]; (case h => (intro _ _; kernel_rfl)); go_simp; refine (FC.out _ BA0d.out).mono ?_; rintro e w6 ⟨⟨v6, rfl, o6⟩, b6⟩; have M6 := mkHid (M0d.out.next b6); have O6 := mkHid o6; clear o6; obtain ⟨⟨g0, g1⟩, h0, h1⟩ := cells2 M6.out.f))
        all_goals
          clear c0 c1 k0 k1
          obtain ⟨⟨c0, c1⟩, k0, k1⟩ := cells2 M7.out.f
          obtain ⟨⟨d0, d1⟩, l0, l1⟩ := cells2 M7.out.r
          go_wp2
          rw [put2_eq]
          exact M7.out.out _ rfl _ rfl
    · by_cases h15 : pc = 15
      · subst h15
        obtain ⟨px1, px2, px3, px4⟩ := p_15 d near
        rw [px1] at he
        rw [told_15] at ht
        obtain ⟨a1, q1, a2, q2, rfl, ia, ja⟩ := ht
        rw [grA_nil px3]
        by_cases hm : 4096 < n
        · have e1 : decide (4096 < (n : Int)) = true := by simp; omega
          have e2 : grR near aR ⟨15, 205, d⟩ = aR := by unfold grR; rw [if_pos (by rw [HN.out]; exact hm)]
          rw [e1] at TM
          rw [e2]
          clear e1 e2 px1 px2 px3 px4
          go_enter Tryz.func20, Tryz.ntmps20
          go_wp2_with fail
          rw [HW.out, HRB.out, HB3.out]
          refine (TM.out _).mono ?_
          rintro e w1 ⟨rfl, rfl⟩
          go_wp2
          rw [put2_eq]
          exact M0.out.out _ rfl _ rfl
        · have e1 : decide (4096 < (n : Int)) = false := by simp; omega
          have e2 : grR near aR ⟨15, 205, d⟩ = aR ++ secondL near (Tw.decR d) := by unfold grR; rw [if_neg (by rw [HN.out]; exact hm), px2]
          rw [e1] at TM
          rw [e2]
          clear e1 e2 px1 px2 px3 px4
          have HFF := mkHid (second_fits he)
          have H0S := mkHid (show ∀ s ∈ (Tw.decR d).st, 0 ≤ s from fun s hs => (Tw.mat_012 (Tw.goodR_iff.1 (Tw.dec_good he).1).2.2.2.2 s hs).1)
          have FC := mkHid (fun (w5 : World) (hb : IA w5.heap.size w5 a1 q1 (Tw.decR d).st) (hb' : IA w5.heap.size w5 a2 q2 (Tw.decR d).dl) => second_any (Tw.decR d) a1 q1 a2 q2 near w5 hb hb' HFF.out.1 H0S.out HFF.out.2.1.1 HFF.out.2.1.2 n0 n1 HFF.out.2.2.2)
          have HLN := mkHid (show (aR ++ secondL near (Tw.decR d)).length ≤ 1100000 by
            have h1 := pR_len near ⟨15, 205, d⟩
            rw [(p_15 d near).2.1] at h1
            rw [List.length_append]; omega)
          unfold Tw.rv
          obtain ⟨r, HRR⟩ : ∃ x, Hid (Tw.decR d = x) := ⟨_, rfl⟩
          rw [HRR.out] at FC HLN ia ja ⊢
          obtain ⟨nw, HNW⟩ : ∃ x, Hid (secondL near r = x) := ⟨_, rfl⟩
          rw [HNW.out] at FC HLN ⊢
          have IA0 := mkHid (ia.on B01.out)
          have JA0 := mkHid (ja.on B01.out)
          go_enter Tryz.func20, Tryz.ntmps20
          go_wp2_with fail
          rw [HW.out, HRB.out, HB3.out]
          refine (TM.out _).mono ?_
          rintro e w1 ⟨rfl, rfl⟩
          have M0d := mkHid (M0.out.next ((Below.refl _ w1).drew))
          have IA0d := mkHid (IA0.out.on ((Below.refl _ w1).drew))
          have JA0d := mkHid (JA0.out.on ((Below.refl _ w1).drew))
          clear c0 c1 d0 d1 k0 k1 l0 l1
          obtain ⟨⟨c0, c1⟩, k0, k1⟩ := cells2 M0d.out.f
          obtain ⟨i0, hi, hz0, hz1, hz2⟩ := info46'
          go_upto_region 5 with fail
          go_region_law (first
            | (refine step_append_told _ (by kernel_rfl) (.tmp 19) (.tmp 22) 23 (by kernel_rfl) B 58 i0 (.agg #[.int .i64 0, .bool false, .int .i64 0, .bool false, .bool false]) 5 32 Tryz.underlying23 hi hz0 hz1 hz2 rfl (by decide) (.slice ad n cp) n (rC aR) (by kernel_rfl) (by have := M6.out.oR; unfold OR at this; rw [HN.out] at this; exact this) v6 nw.length (rC nw) (by kernel_rfl) (or_src O6.out) (rC_one _) (by have := HLN.out; rw [List.length_append, HN.out] at this; unfold maxLen; omega) (by have := HLN.out; rw [List.length_append, HN.out] at this; omega) M6.out.hB ?_; intro v7 w7 hown hgr hxx; obtain ⟨ad7, cp7, rfl⟩ := ownsRow_slice hown; have M7 := mkHid (M6.out.appR (rs := nw) (by rw [rC_app]; exact hown) (by rw [List.length_append, HN.out]) hgr hxx); have B7 := mkHid (M6.out.fR hgr); clear hown hgr hxx; obtain ⟨⟨j0, j1⟩, t0, t1⟩ := cells2 B7.out)
            | (go_simp; rw [meth100]; (case h => (intro _ _; kernel_rfl)); go_simp; refine (FC.out _ IA0d.out JA0d.out).mono ?_; rintro e w6 ⟨⟨v6, rfl, o6⟩, b6⟩; have M6 := mkHid (M0d.out.next b6); have O6 := mkHid o6; clear o6; obtain ⟨⟨g0, g1⟩, h0, h1⟩ := cells2 M6.out.f))
          all_goals
            clear c0 c1 k0 k1
            obtain ⟨⟨c0, c1⟩, k0, k1⟩ := cells2 M7.out.f
            obtain ⟨⟨d0, d1⟩, l0, l1⟩ := cells2 M7.out.r
            go_wp2
            rw [put2_eq]
            exact M7.out.out _ rfl _ rfl
      · by_cases h1 : pc = 1
        · subst h1
          obtain ⟨px1, px2, px3, px4⟩ := p_1 d near
          rw [px1] at he
          rw [told_1] at ht
          obtain ⟨a1, q1, rfl, ia⟩ := ht
          rw [grR_nil px2]
          by_cases hm : 4096 < m
          · have e1 : decide (4096 < (m : Int)) = true := by simp; omega
            have e2 : grA aA ⟨1, 205, d⟩ = aA := by unfold grA; rw [if_pos (by rw [HM.out]; exact hm)]
            rw [e1] at TM'
            rw [e2]
            clear e1 e2 px1 px2 px3 px4
            unfold nv
            obtain ⟨r, HRR⟩ : ∃ x, Hid (Nk.decR d = x) := ⟨_, rfl⟩
            rw [HRR.out]
            have X5 := mkHid ((Apart.refl (fun _ => False) W).alloc (.cells #[.int .u32 r.sd, .int .u32 r.md, .slice a1 r.lo.length q1] 78)).belowZ
            have M5 := mkHid (M0.out.next X5.out)
            obtain ⟨y0, y1, y2, -⟩ := cells3 (T := 78) (heap_alloc_new W (.cells #[.int .u32 r.sd, .int .u32 r.md, .slice a1 r.lo.length q1] 78))
            clear c0 c1 d0 d1 k0 k1 l0 l1
            obtain ⟨⟨c0, c1⟩, k0, k1⟩ := cells2 M5.out.f
            obtain ⟨⟨d0, d1⟩, l0, l1⟩ := cells2 M5.out.r
            go_enter Tryz.func20, Tryz.ntmps20
            go_upto_region 8 with fail
            rw [HW.out, HRB.out, HB3.out]
            go_wp2_with fail
            refine (TM'.out _).mono ?_
            rintro e w1 ⟨rfl, rfl⟩
            go_wp2
            rw [put2_eq]
            exact M5.out.out _ rfl _ rfl
          · have e1 : decide (4096 < (m : Int)) = false := by simp; omega
            have e2 : grA aA ⟨1, 205, d⟩ = aA ++ (Nk.decR d).lo := by unfold grA; rw [if_neg (by rw [HM.out]; exact hm), px3]
            rw [e1] at TM'
            rw [e2]
            have HLN := mkHid (show (aA ++ (Nk.decR d).lo).length ≤ 1100000 by
              have h1 := pA_len ⟨1, 205, d⟩
              rw [px3] at h1
              rw [List.length_append]; omega)
            clear e1 e2 px1 px2 px3 px4
            unfold nv
            obtain ⟨r, HRR⟩ : ∃ x, Hid (Nk.decR d = x) := ⟨_, rfl⟩
            rw [HRR.out] at HLN ia ⊢
            have X5 := mkHid ((Apart.refl (fun _ => False) W).alloc (.cells #[.int .u32 r.sd, .int .u32 r.md, .slice a1 r.lo.length q1] 78)).belowZ
            have M5 := mkHid (M0.out.next X5.out)
            have IA5 := mkHid ((ia.on B01.out).on X5.out)
            have HSR := mkHid (ia_src IA5.out)
            obtain ⟨y0, y1, y2, -⟩ := cells3 (T := 78) (heap_alloc_new W (.cells #[.int .u32 r.sd, .int .u32 r.md, .slice a1 r.lo.length q1] 78))
            clear c0 c1 d0 d1 k0 k1 l0 l1
            obtain ⟨⟨c0, c1⟩, k0, k1⟩ := cells2 M5.out.f
            obtain ⟨i0, hj, hz0, hz1, hz2⟩ := info3'
            obtain ⟨nl, HNL⟩ : ∃ x, Hid (r.lo.length = x) := ⟨_, rfl⟩
            rw [HNL.out] at X5 M5 HSR y0 y1 y2 c0 c1 k0 k1 ⊢
            have hws : W.heap.size = rb + 1 := by rw [← HW.out, ← HRB.out]; simp
            rw [hws] at y0 y1 y2
            go_enter Tryz.func20, Tryz.ntmps20
            go_upto_region 8 with fail
            rw [HW.out, HRB.out, HB3.out]
            go_wp2_with fail
            refine (TM'.out _).mono ?_
            rintro e w1 ⟨rfl, hw1⟩
            subst hw1
            go_wp2_with (at_builtin; refine wpList_append_told _ rfl (.tmp 34) (.tmp 36) 24 rfl B 3 i0 (.int .i64 0) 1 8 Tryz.underlying24 hj hz0 hz1 hz2 rfl (by decide) (.slice ad' m cp') m (IC aA) rfl (by have := M5.out.oA; unfold OI at this; rw [HM.out] at this; exact this) (.slice a1 nl q1) nl (IC r.lo) rfl HSR.out IC_one (by have := HLN.out; rw [List.length_append, HM.out, HNL.out] at this; unfold maxLen; omega) (by have := HLN.out; rw [List.length_append, HM.out, HNL.out] at this; omega) M5.out.hB ?_; intro v7 w7 hown hgr hxx; obtain ⟨ad7, cp7, rfl⟩ := ownsRow_slice hown; have M7 := mkHid (M5.out.appA (rs := r.lo) (by rw [IC_app]; exact hown) (by rw [List.length_append, HM.out, HNL.out]) hgr hxx); have B7 := mkHid (M5.out.fA hgr); clear hown hgr hxx; obtain ⟨⟨j0, j1⟩, t0, t1⟩ := cells2 B7.out; obtain ⟨⟨o0, o1⟩, p0, p1⟩ := cells2 M7.out.f; obtain ⟨⟨d0, d1⟩, l0, l1⟩ := cells2 M7.out.r)
            rw [put2_eq]
            exact M7.out.out _ rfl _ rfl
        · obtain ⟨px1, px2, px3, px4⟩ := p_else (d := d) (near := near) h11 h15 h1
          rw [told_else _ _ _ _ h11 h15 h1] at ht
          subst ht
          rw [grR_nil px2, grA_nil px3]
          clear px1 px2 px3 px4
          go_enter Tryz.func20, Tryz.ntmps20
          go_upto_region 10 with fail
          rw [HW.out, HRB.out, HB3.out]
          go_wp2
          rw [put2_eq]
          exact M0.out.out _ rfl _ rfl
  · obtain ⟨px1, px2, px3, px4⟩ := p_other (c := pc) (d := d) (near := near) htt
    rw [told_other _ _ _ _ _ htt] at ht
    subst ht
    rw [grR_nil px2, grA_nil px3]
    clear px1 px2 px3 px4
    go_enter Tryz.func20, Tryz.ntmps20
    go_upto_region 10 with fail
    rw [HW.out, HRB.out, HB3.out]
    go_wp2
    rw [put2_eq]
    exact M0.out.out _ rfl _ rfl
end Go.Proofs.YtdhbakknplnnkaaGreat.Fd
