/-
  The ways out of the reference's Read; bounds of what is told.
-/
import Derived.Test.YtdhbakknplnnkaaGreatFdW
namespace Go.Proofs.YtdhbakknplnnkaaGreat.Fd
open Go.RowKit Go.Proofs.YtdhbakknplnnkaaGreat.Nk

/-- Two cells stored one behind the other. -/
def put2 (w : World) (b : Nat) (x y : Value) : World := (w.setCell ⟨b, 0, none⟩ x).setCell ⟨b, 1, none⟩ y
theorem put2_eq (w : World) (b : Nat) (x y : Value) : (w.setCell ⟨b, 0, none⟩ x).setCell ⟨b, 1, none⟩ y = put2 w b x y := rfl
theorem put2_ap (w : World) (b : Nat) (x y : Value) : Apart (· = b) w (put2 w b x y) := (ap_set w b 0 x).trans (ap_set _ b 1 y) (fun _ _ h => h)
theorem put2_is {T : TypeId} {w : World} {b : Nat} {u0 u1 : Value} (h : Bd T w b u0 u1) (x y : Value) : Bd T (put2 w b x y) b x y := by
  have h0 := heap_setCell_same _ b 0 _ T x h
  have h1 := heap_setCell_same _ b 1 _ T y h0
  unfold put2 Bd
  rw [h1]; rfl
theorem res6 {W : World} {bx : Nat} {a : Option Addr} {n c : Nat} {a' : Option Addr} {n' c' : Nat} (tmps : Array Value) (h2 : tmps.getD 4 undef = .pointer (some ⟨bx, 0, none⟩)) (hd : Bd 30 W bx (.slice a n c) (.slice a' n' c')) :
    (results Tryz.f9 tmps).run Tryz.prog W = .ok (.tuple #[fv a n c a' n' c', tmps.getD 5 undef]) W := by
  obtain ⟨⟨c0, c1⟩, -⟩ := cells2 hd
  clear hd
  have h2' : tmps[4]?.getD undef = .pointer (some ⟨bx, 0, none⟩) := by rw [← h2]; simp
  unfold fv
  simp [results, Tryz.results9, h2', c0, c1, go_sem]
/-- Where the function stands, its result in q. -/
structure Qw (w wr : World) (q : Nat) : Prop where
  r : Bd 30 wr q (.slice none 0 0) (.slice none 0 0)
  k : Apart (fun _ => False) w wr
  z : w.heap.size ≤ q
theorem Vw.qw {w wr : World} {q fb B : Nat} {a : Option Addr} {l : List Rc.Pt} {vr va : Value} {aR : List Rt} {aA : List Int} (h : Vw 30 w wr q fb B a l vr va aR aA) : Qw w wr q := ⟨h.r, h.k, h.z.1⟩
theorem Qw.next {w wr w2 : World} {q : Nat} (h : Qw w wr q) (hb : Below wr.heap.size wr w2) : Qw w w2 q := ⟨(below_apart hb).heap h.r (fun h => h), h.k.zz (below_apart hb), h.z⟩
theorem rd_none {s : ByteArray} {near : Int} {w W : World} {e : Ending} (h : ¬ fdE s near = 0) (he : e = .returned (.tuple #[fv none 0 0 none 0 0, .int .i64 (fdE s near)])) (hb : Below w.heap.size w W) : RdPost s near w e W := by
  have h1 : fdR s near = [] := by unfold fdR; rw [if_neg h]
  have h2 : fdA s near = [] := by unfold fdA; rw [if_neg h]
  refine ⟨⟨none, 0, none, 0, ?_, ?_, ?_⟩, hb⟩
  · rw [h1, h2, he]; rfl
  · rw [h1]; exact RA.nil _ _ _
  · rw [h2]; exact IA.nil _ _ _ _ (Nat.zero_le _)
theorem Qw.rno {w wr : World} {q : Nat} {s : ByteArray} {near : Int} (h : Qw w wr q) {E : Int} (hE : fdE s near = E) (h0 : ¬ E = 0) (tmps : Array Value) (h2 : tmps.getD 4 undef = .pointer (some ⟨q, 0, none⟩)) (h3 : tmps.getD 5 undef = .int .i64 E) (d : List Deferred) (hd : d = []) :
    bodyPost Tryz.prog Tryz.f9 (RdPost s near w) Exit.ret { tmps := tmps, defers := d } (put2 wr q (.slice none 0 0) (.slice none 0 0)) := by
  subst hd
  exact bodyPost_ret (res6 _ h2 (put2_is h.r _ _)) rfl (rd_none (by rw [hE]; exact h0) (by rw [hE, h3]) ((h.k.trans (put2_ap wr q _ _) (fun i hi e => by have := h.z; omega)).belowZ))
/-- The parts of a message: few, and short. -/
theorem rL_few (s : ByteArray) : (Rc.rL s).length ≤ 16384 ∧ ∀ p ∈ Rc.rL s, p.d.size ≤ 1000000 := by
  by_cases h : Rc.rE s = 0
  · obtain ⟨h1, h2, h3⟩ := Rc.again h
    have h4 := (Rc.rE_zero h).1
    have h5 := Rc.sz_len (Rc.rL s)
    refine ⟨by omega, fun p hp => ?_⟩
    obtain ⟨_, ho, _⟩ := Rc.jE_zero h1
    have := Rc.Pt.ok_iff.1 (Rc.allOk_iff.1 ho p hp)
    omega
  · unfold Rc.rL
    rw [if_neg h]
    exact ⟨Nat.zero_le _, fun p hp => by cases hp⟩
theorem lsE_cons (p : Rc.Pt) (l : List Rc.Pt) : lsE (p :: l) = if pE p = 0 then lsE l else pE p := rfl
theorem lsR_cons (near : Int) (p : Rc.Pt) (l : List Rc.Pt) : lsR near (p :: l) = pR near p ++ lsR near l := by unfold lsR; rw [List.flatMap_cons]
theorem lsA_cons (p : Rc.Pt) (l : List Rc.Pt) : lsA (p :: l) = pA p ++ lsA l := by unfold lsA; rw [List.flatMap_cons]
theorem lsK_cons (p : Rc.Pt) (l : List Rc.Pt) : lsK (p :: l) = (pK p || lsK l) := by unfold lsK; rw [List.any_cons]
/-- What is left to be told from part i on: no error, E; reports R, numbers A; of a kind, K. -/
structure Rest (near : Int) (l : List Rc.Pt) (i : Nat) (aR : List Rt) (aA : List Int) (sn : Bool) (E : Int) (R : List Rt) (A : List Int) (K : Bool) : Prop where
  e : lsE (l.drop i) = E
  r : aR ++ lsR near (l.drop i) = R
  a : aA ++ lsA (l.drop i) = A
  k : (sn || lsK (l.drop i)) = K
section
variable {near : Int} {l : List Rc.Pt} {i : Nat} {aR : List Rt} {aA : List Int} {sn : Bool} {E : Int} {R : List Rt} {A : List Int} {K : Bool} {p : Rc.Pt}
theorem drop_cons (h : l[i]? = some p) : l.drop i = p :: l.drop (i + 1) := by
  obtain ⟨hi, rfl⟩ := List.getElem?_eq_some_iff.1 h
  exact List.drop_eq_getElem_cons hi
theorem Rest.no (h : Rest near l i aR aA sn E R A K) (hp : l[i]? = some p) (he : ¬ pE p = 0) : E = pE p := by
  have := h.e
  rw [drop_cons hp, lsE_cons, if_neg he] at this
  exact this.symm
theorem Rest.next (h : Rest near l i aR aA sn E R A K) (hp : l[i]? = some p) (he : pE p = 0) : Rest near l (i + 1) (aR ++ pR near p) (aA ++ pA p) (sn || pK p) E R A K := by
  obtain ⟨h1, h2, h3, h4⟩ := h
  rw [drop_cons hp] at h1 h2 h3 h4
  rw [lsE_cons, if_pos he] at h1
  rw [lsR_cons] at h2
  rw [lsA_cons] at h3
  rw [lsK_cons] at h4
  exact ⟨h1, by rw [List.append_assoc]; exact h2, by rw [List.append_assoc]; exact h3, by rw [Bool.or_assoc]; exact h4⟩
theorem Rest.len (h : Rest near l i aR aA sn E R A K) : aR.length ≤ R.length ∧ aA.length ≤ A.length := by
  have h1 := h.r
  have h2 := h.a
  subst h1 h2
  simp only [List.length_append]
  omega
end
/-- What a part tells, kind by kind. -/
theorem p_other {c t : Int} {d : ByteArray} {near : Int} (h : ¬ t = 205) : pE ⟨c, t, d⟩ = 0 ∧ pR near ⟨c, t, d⟩ = [] ∧ pA ⟨c, t, d⟩ = [] ∧ pK ⟨c, t, d⟩ = false := by
  simp [pE, pR, pA, pK, h]
theorem p_11 (d : ByteArray) (near : Int) : pE ⟨11, 205, d⟩ = Cc.decE d ∧ pR near ⟨11, 205, d⟩ = firstL (Un.frV (Cc.decSt d) near) (Cc.decL d) ∧ pA ⟨11, 205, d⟩ = [] ∧ pK ⟨11, 205, d⟩ = true := by
  simp [pE, pR, pA, pK]
theorem p_15 (d : ByteArray) (near : Int) : pE ⟨15, 205, d⟩ = Tw.decE d ∧ pR near ⟨15, 205, d⟩ = secondL near (Tw.decR d) ∧ pA ⟨15, 205, d⟩ = [] ∧ pK ⟨15, 205, d⟩ = true := by
  simp [pE, pR, pA, pK]
theorem p_1 (d : ByteArray) (near : Int) : pE ⟨1, 205, d⟩ = Nk.decE d ∧ pR near ⟨1, 205, d⟩ = [] ∧ pA ⟨1, 205, d⟩ = (Nk.decR d).lo ∧ pK ⟨1, 205, d⟩ = true := by
  simp [pE, pR, pA, pK]
theorem p_else {c : Int} {d : ByteArray} {near : Int} (h1 : ¬ c = 11) (h2 : ¬ c = 15) (h3 : ¬ c = 1) : pE ⟨c, 205, d⟩ = 0 ∧ pR near ⟨c, 205, d⟩ = [] ∧ pA ⟨c, 205, d⟩ = [] ∧ pK ⟨c, 205, d⟩ = false := by
  simp [pE, pR, pA, pK, h1, h2, h3]
/-- What a report of the first kind holds. -/
theorem first_fits (d : ByteArray) (near : Int) : (∀ k ∈ Cc.decL d, 0 ≤ k.f ∧ k.f ≤ 65535 ∧ k.m.length ≤ 65536 ∧ ∀ m ∈ k.m, 0 ≤ m.a ∧ m.a ≤ 65535) ∧ (Cc.decL d).length ≤ 65536 ∧ (firstL (Un.frV (Cc.decSt d) near) (Cc.decL d)).length ≤ 65536 := by
  obtain ⟨h1, h2, h3⟩ := Cc.decL_bd d
  have h4 := firstL_len (Un.frV (Cc.decSt d) near) (Cc.decL d) h2
  refine ⟨fun k hk => ?_, by omega, by omega⟩
  obtain ⟨⟨a, b⟩, c, e⟩ := Cc.bkOk_iff.1 (List.all_eq_true.1 h2 k hk)
  refine ⟨a, b, by omega, fun m hm => ?_⟩
  have := Cc.mtOk_bd (List.all_eq_true.1 e m hm)
  omega
section
variable {T : TypeId} {w wr w2 : World} {q fb B : Nat} {a : Option Addr} {l : List Rc.Pt} {vr va : Value} {aR : List Rt} {aA : List Int}
theorem Vw.fR (h : Vw T w wr q fb B a l vr va aR aA) (hg : wr.grownBy w2 vr.ownBlock) : Bd T w2 fb vr va := by
  have hz := h.z
  have ha : Apart (B ≤ ·) wr w2 := ⟨hg.os, hg.tape, hg.output, hg.size, fun k hk hx => hg.block k hk (fun e => by have := (h.oR.lt k e.symm).1; omega)⟩
  exact ha.heap h.f (by omega)
theorem Vw.fA (h : Vw T w wr q fb B a l vr va aR aA) (hg : wr.grownBy w2 va.ownBlock) : Bd T w2 fb vr va := by
  have hz := h.z
  have ha : Apart (B ≤ ·) wr w2 := ⟨hg.os, hg.tape, hg.output, hg.size, fun k hk hx => hg.block k hk (fun e => by have := (h.oA.lt k e.symm).1; omega)⟩
  exact ha.heap h.f (by omega)
end
/-- What a report of the second kind holds. -/
theorem second_fits {d : ByteArray} (h : Tw.decE d = 0) : fits (Tw.decR d).st (Tw.decR d).dl = true ∧ (0 ≤ (Tw.decR d).fi ∧ (Tw.decR d).fi ≤ 65535) ∧ (-9223372036854775808 ≤ (Tw.decR d).ba ∧ (Tw.decR d).ba ≤ 9223372036854775807) ∧ (Tw.decR d).st.length ≤ 4096 := by
  have hg := Tw.goodR_iff.1 (Tw.dec_good h).1
  exact ⟨mat_fits _ _ (fun s hs => (Tw.mat_012 hg.2.2.2.2 s hs).1) hg.2.2.2.2, hg.1, by omega, by omega⟩
end Go.Proofs.YtdhbakknplnnkaaGreat.Fd
