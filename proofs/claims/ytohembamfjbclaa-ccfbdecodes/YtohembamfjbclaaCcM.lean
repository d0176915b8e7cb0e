/-
  A report in memory: where its sources and packets lie; whether it may be.
-/
import Derived.Test.YtohembamfjbclaaBiY
import Derived.Test.YtohembamfjbclaaCcP
namespace Go.Proofs.Ytohembamfjbclaa
open Go.RowKit

theorem Tch.below {b : Nat} {v v' : Value} {w w' : World} {T : TypeId} {l : List Bool} (h : Tch b v v' w w') (hw : Wr T w b v l) (B : Nat) (hB : B ≤ b) : Below B w w' :=
  h.ap.below B (by have := hw.lt; omega) (by
    rintro k (rfl | e)
    · exact hB
    · have := hw.ownlt k e; omega)
theorem Apart.belowF {w w' : World} (h : Apart (fun _ => False) w w') (B : Nat) (hB : B ≤ w.heap.size) : Below B w w' := h.below B hB (fun _ h => h.elim)
theorem Apart.belowZ {w w' : World} (h : Apart (fun _ => False) w w') : Below w.heap.size w w' := h.below _ (Nat.le_refl _) (fun _ h => h.elim)
theorem Apart.belowE {w w' : World} {b : Nat} (h : Apart (· = b) w w') (B : Nat) (hB : B ≤ w.heap.size) (hb : B ≤ b) : Below B w w' := h.below B hB (fun k e => by subst e; exact hb)
theorem Apart.cell {X : Nat → Prop} {w w' : World} (h : Apart X w w') {p : Addr} (hp : p.block < w.heap.size) (hx : ¬ X p.block) : w'.cell? p = w.cell? p := World.cell?_of_block (w := w) (h.block p.block hp hx)
theorem Apart.zz {a b c : World} (h : Apart (fun _ => False) a b) (k : Apart (fun _ => False) b c) : Apart (fun _ => False) a c := h.trans k (fun _ _ h => h)

/-- What is told of a packet, as a value; its cells. -/
def mv (m : Mt) : Value := .agg #[.bool m.g, .int .i64 m.e, .int .i64 m.a]
def MC (w : World) (b o : Nat) (m : Mt) : Prop := w.cell? ⟨b, o, none⟩ = some (.bool m.g) ∧ w.cell? ⟨b, o + 1, none⟩ = some (.int .i64 m.e) ∧ w.cell? ⟨b, o + 2, none⟩ = some (.int .i64 m.a)
/-- Packets, in a block below B. -/
def MA (B : Nat) (w : World) (a : Option Addr) (l : List Mt) : Prop :=
  l.length ≤ maxLen ∧ (l = [] ∨ ∃ b off, a = some ⟨b, off, none⟩ ∧ b < B ∧ ∀ i m, l[i]? = some m → MC w b (off + i * 3) m)
/-- What is told of a source, as a value; its cells. -/
def kv (k : Bk) (ma : Option Addr) (mc : Nat) : Value := .agg #[.int .u32 k.s, .int .i64 k.f, .slice ma k.m.length mc]
def KC (B : Nat) (w : World) (b o : Nat) (k : Bk) : Prop := w.cell? ⟨b, o, none⟩ = some (.int .u32 k.s) ∧ w.cell? ⟨b, o + 1, none⟩ = some (.int .i64 k.f) ∧ (∃ ma mc, w.cell? ⟨b, o + 2, none⟩ = some (.slice ma k.m.length mc) ∧ MA B w ma k.m) ∧ 0 ≤ k.s ∧ k.s < 4294967296
/-- Sources, in blocks below B. -/
def BA (B : Nat) (w : World) (a : Option Addr) (l : List Bk) : Prop :=
  l.length ≤ maxLen ∧ (l = [] ∨ ∃ b off, a = some ⟨b, off, none⟩ ∧ b < B ∧ ∀ i k, l[i]? = some k → KC B w b (off + i * 3) k)
/-- A report as a value. -/
def rv (sd : Int) (a : Option Addr) (n c : Nat) (st : Int) : Value := .agg #[.int .u32 sd, .slice a n c, .int .u32 st]
def Rv (w : World) (bx : Nat) (sd : Int) (v : Value) (st : Int) : Prop := w.heap[bx]? = some (.cells #[.int .u32 sd, v, .int .u32 st] 25 (0, 0))

theorem MC.kept {w w' : World} {b o : Nat} {m : Mt} {B : Nat} (h : MC w b o m) (hb : Below B w w') (hl : b < B) : MC w' b o m := by
  obtain ⟨c0, c1, c2⟩ := h
  exact ⟨by rw [hb.cell (p := ⟨b, o, none⟩) hl]; exact c0, by rw [hb.cell (p := ⟨b, o + 1, none⟩) hl]; exact c1, by rw [hb.cell (p := ⟨b, o + 2, none⟩) hl]; exact c2⟩
theorem MA.kept {B : Nat} {w w' : World} {a : Option Addr} {l : List Mt} (h : MA B w a l) (hb : Below B w w') : MA B w' a l := by
  refine ⟨h.1, ?_⟩
  rcases h.2 with h0 | ⟨b, off, ha, hl, hc⟩
  · exact .inl h0
  · exact .inr ⟨b, off, ha, hl, fun i p hi => (hc i p hi).kept hb hl⟩
theorem MA.up {B B' : Nat} {w : World} {a : Option Addr} {l : List Mt} (h : MA B w a l) (hb : B ≤ B') : MA B' w a l := by
  refine ⟨h.1, ?_⟩
  rcases h.2 with h0 | ⟨b, off, ha, hl, hc⟩
  · exact .inl h0
  · exact .inr ⟨b, off, ha, by omega, hc⟩
theorem MA.at {B : Nat} {w : World} {a : Option Addr} {l : List Mt} (h : MA B w a l) (i : Nat) (hi : i < l.length) : ∃ b off m, a = some ⟨b, off, none⟩ ∧ b < B ∧ l[i]? = some m ∧ MC w b (off + i * 3) m := by
  rcases h.2 with h0 | ⟨b, off, ha, hl, hc⟩
  · subst h0; simp at hi
  · exact ⟨b, off, l[i], ha, hl, List.getElem?_eq_getElem hi, hc i _ (List.getElem?_eq_getElem hi)⟩
theorem KC.kept {w w' : World} {b o : Nat} {k : Bk} {B : Nat} (h : KC B w b o k) (hb : Below B w w') (hl : b < B) : KC B w' b o k := by
  obtain ⟨c0, c1, ⟨ma, mc, c2, hm⟩, r⟩ := h
  exact ⟨by rw [hb.cell (p := ⟨b, o, none⟩) hl]; exact c0, by rw [hb.cell (p := ⟨b, o + 1, none⟩) hl]; exact c1, ⟨ma, mc, by rw [hb.cell (p := ⟨b, o + 2, none⟩) hl]; exact c2, hm.kept hb⟩, r⟩
theorem BA.kept {B : Nat} {w w' : World} {a : Option Addr} {l : List Bk} (h : BA B w a l) (hb : Below B w w') : BA B w' a l := by
  refine ⟨h.1, ?_⟩
  rcases h.2 with h0 | ⟨b, off, ha, hl, hc⟩
  · exact .inl h0
  · exact .inr ⟨b, off, ha, hl, fun i p hi => (hc i p hi).kept hb hl⟩
theorem BA.up {B B' : Nat} {w : World} {a : Option Addr} {l : List Bk} (h : BA B w a l) (hb : B ≤ B') : BA B' w a l := by
  refine ⟨h.1, ?_⟩
  rcases h.2 with h0 | ⟨b, off, ha, hl, hc⟩
  · exact .inl h0
  · refine .inr ⟨b, off, ha, by omega, fun i k hi => ?_⟩
    obtain ⟨c0, c1, ⟨ma, mc, c2, hm⟩, r⟩ := hc i k hi
    exact ⟨c0, c1, ⟨ma, mc, c2, hm.up hb⟩, r⟩
theorem BA.on {w w' : World} {a : Option Addr} {l : List Bk} (h : BA w.heap.size w a l) (hb : Below w.heap.size w w') : BA w'.heap.size w' a l := (h.kept hb).up hb.size
theorem BA.at {B : Nat} {w : World} {a : Option Addr} {l : List Bk} (h : BA B w a l) (i : Nat) (hi : i < l.length) : ∃ b off k, a = some ⟨b, off, none⟩ ∧ b < B ∧ l[i]? = some k ∧ KC B w b (off + i * 3) k := by
  rcases h.2 with h0 | ⟨b, off, ha, hl, hc⟩
  · subst h0; simp at hi
  · exact ⟨b, off, l[i], ha, hl, List.getElem?_eq_getElem hi, hc i _ (List.getElem?_eq_getElem hi)⟩
theorem BA.bd {B : Nat} {w : World} {a : Option Addr} {l : List Bk} (h : BA B w a l) : ∀ b ∈ l, 0 ≤ b.s ∧ b.s < 4294967296 := by
  intro k hk
  obtain ⟨i, hi⟩ := List.getElem?_of_mem hk
  rcases h.2 with h0 | ⟨b, off, _, _, hc⟩
  · subst h0; cases hk
  · exact (hc i k hi).2.2.2
theorem BA.nil (B : Nat) (w : World) (a : Option Addr) : BA B w a [] := ⟨by simp, .inl rfl⟩
theorem Rv.kept {X : Nat → Prop} {w w' : World} {bx : Nat} {sd : Int} {v : Value} {st : Int} (h : Rv w bx sd v st) (ha : Apart X w w') (hx : ¬ X bx) : Rv w' bx sd v st := ha.heap h hx
theorem Rv.new (w : World) (sd : Int) (v : Value) (st : Int) : Rv (w.alloc (.cells #[.int .u32 sd, v, .int .u32 st] 25)) w.heap.size sd v st := heap_alloc_new _ _
theorem all_take {α : Type} {f : α → Bool} {l : List α} {k : Nat} {x : α} (h : l[k]? = some x) : (l.take (k + 1)).all f = ((l.take k).all f && f x) := by
  have : l.take (k + 1) = l.take k ++ [x] := by rw [List.take_add_one, h]; rfl
  rw [this]; simp
theorem all_not {α : Type} {f : α → Bool} {l : List α} {k : Nat} {x : α} (h : l[k]? = some x) (hf : f x = false) : l.all f = false := by
  rw [List.all_eq_false]
  exact ⟨x, List.mem_of_getElem? h, by simp [hf]⟩

theorem within_any (n a b : Int) (w : World) : Calls Try.prog 42 #[.int .i64 n, .int .i64 a, .int .i64 b] w fun e w' => e = .returned (.bool (inR n a b)) ∧ w' = w := by
  by_cases h0 : a ≤ n
  · by_cases h1 : n ≤ b
    · rw [inR_yes h0 h1]
      go_enter Try.func42, Try.ntmps42
      go_wp2
      go_ret
      exact ⟨ret_b (by simp), rfl⟩
    · rw [inR_no (by omega)]
      go_enter Try.func42, Try.ntmps42
      go_wp2
      go_ret
      exact ⟨ret_b (by simp), rfl⟩
  · rw [inR_no (by omega)]
    go_enter Try.func42, Try.ntmps42
    go_wp2
    go_ret
    exact ⟨ret_b (by simp), rfl⟩
theorem bit_b (b : Bool) (w : World) : Calls Try.prog 49 #[.bool b] w fun e w' => e = .returned (.int .u32 (b01 b : Int)) ∧ w' = w := by
  cases b <;>
  · go_enter Try.func49, Try.ntmps49
    go_wp2
    go_ret
    exact ⟨rfl, rfl⟩
theorem ismetric_any (m : Mt) (w : World) : Calls Try.prog 43 #[mv m] w fun e w' => e = .returned (.bool (mtOk m)) ∧ Apart (fun _ => False) w w' := by
  obtain ⟨g, ec, ag⟩ := m
  unfold mv mtOk
  simp only
  cases g with
  | false =>
    rw [if_neg (by decide)]
    by_cases h0 : ec = 0
    · by_cases h1 : ag = 0
      · go_enter Try.func43, Try.ntmps43
        go_wp2
        go_ret
        exact ⟨ret_b (by simp [h0, h1]), (Apart.refl _ _).alloc _⟩
      · go_enter Try.func43, Try.ntmps43
        go_wp2
        go_ret
        exact ⟨ret_b (by simp [h1]), (Apart.refl _ _).alloc _⟩
    · go_enter Try.func43, Try.ntmps43
      go_wp2
      go_ret
      exact ⟨ret_b (by simp [h0]), (Apart.refl _ _).alloc _⟩
  | true =>
    rw [if_pos rfl]
    have K1 := mkHid (within_any ec 0 3)
    have K2 := mkHid (within_any ag 0 8191)
    cases h1 : inR ec 0 3 with
    | false =>
      rw [h1] at K1
      go_enter Try.func43, Try.ntmps43
      go_wp2_with fail
      refine (K1.out _).mono ?_
      rintro e w1 ⟨rfl, rfl⟩
      go_wp2
      go_ret
      exact ⟨rfl, (Apart.refl _ _).alloc _⟩
    | true =>
      rw [h1] at K1
      go_enter Try.func43, Try.ntmps43
      go_wp2_with fail
      refine (K1.out _).mono ?_
      rintro e w1 ⟨rfl, rfl⟩
      go_wp2_with fail
      refine (K2.out _).mono ?_
      rintro e w1 ⟨rfl, rfl⟩
      go_wp2
      go_ret
      exact ⟨ret_b (by simp), (Apart.refl _ _).alloc _⟩
set_option maxRecDepth 100000 in
set_option maxHeartbeats 400000 in
theorem isblock_any (k : Bk) (ma : Option Addr) (mc : Nat) (w : World) (h : MA w.heap.size w ma k.m) :
    Calls Try.prog 28 #[kv k ma mc] w fun e w' => e = .returned (.bool (bkOk k)) ∧ Apart (fun _ => False) w w' := by
  obtain ⟨ss, f, l⟩ := k
  unfold kv bkOk
  simp only at h ⊢
  have K1 := mkHid (within_any f 0 65535)
  have n1 := h.1
  unfold maxLen at n1
  have H := mkHid h
  obtain ⟨n, HN⟩ : ∃ n, Hid (l.length = n) := ⟨_, rfl⟩
  rw [HN.out] at n1 ⊢
  have m1 : (n : Int) ≤ 9223372036854775807 := by omega
  clear n1 h
  cases h1 : inR f 0 65535 with
  | false =>
    rw [h1] at K1
    go_enter Try.func28, Try.ntmps28
    go_wp2_with fail
    refine (K1.out _).mono ?_
    rintro e w1 ⟨rfl, rfl⟩
    go_wp2
    go_ret
    exact ⟨rfl, (Apart.refl _ _).alloc _⟩
  | true =>
    rw [h1] at K1
    by_cases h2 : (4096 : Int) < n
    · go_enter Try.func28, Try.ntmps28
      go_wp2_with fail
      refine (K1.out _).mono ?_
      rintro e w1 ⟨rfl, rfl⟩
      go_wp2
      go_ret
      exact ⟨ret_b (by simp; omega), (Apart.refl _ _).alloc _⟩
    · have h2' : (n : Int) ≤ 4096 := by omega
      have HD := mkHid (show decide (n ≤ 4096) = true by simp; omega)
      have A0 := mkHid ((Apart.refl (fun _ => False) w).alloc (.cells #[.int .u32 ss, .int .i64 f, .slice ma n mc] 44))
      have N0 := mkHid (heap_alloc_new w (.cells #[.int .u32 ss, .int .i64 f, .slice ma n mc] 44))
      obtain ⟨bx, HBX⟩ : ∃ bx, Hid (w.heap.size = bx) := ⟨_, rfl⟩
      obtain ⟨W, HW⟩ : ∃ W, Hid (w.alloc (.cells #[.int .u32 ss, .int .i64 f, .slice ma n mc] 44) = W) := ⟨_, rfl⟩
      rw [HBX.out, HW.out] at N0
      rw [HW.out] at A0
      obtain ⟨c0, c1, c2, _⟩ := cells3 N0.out
      go_enter Try.func28, Try.ntmps28
      go_wp2_with fail
      refine (K1.out _).mono ?_
      rintro e w1 ⟨rfl, rfl⟩
      rw [HW.out, HBX.out]
      go_wp2
      clear c0 c1 c2
      go_loopw [18] (fun i wr => ∃ k : Nat, k ≤ n ∧ i = .int .i64 (k : Int) ∧ Apart (fun _ => False) W wr ∧ (l.take k).all mtOk = true) (fun i _ => n - (intOf i).toNat)
      case atStart => exact ⟨0, Nat.zero_le _, rfl, Apart.refl _ _, rfl⟩
      case round =>
        obtain ⟨k, hk, rfl, ha, hall⟩ := hrel
        have HA := mkHid (A0.out.zz ha)
        have HA1 := mkHid ha
        have HALL := mkHid hall
        clear ha hall
        by_cases hlt : k < n
        · obtain ⟨b, off, m, rfl, hb, hm, hc⟩ := (H.out.kept HA.out.belowZ).at k (by rw [HN.out]; exact hlt)
          obtain ⟨c0, c1, c2⟩ := hc
          have HM := mkHid hm
          have IM := mkHid (ismetric_any m)
          obtain ⟨g, ec, ag⟩ := m
          unfold mv at IM
          simp only at c0 c1 c2 IM
          clear hm hb
          go_wp2_with fail
          refine (IM.out _).mono ?_
          rintro e w2 ⟨rfl, a2⟩
          have A2 := mkHid (((HA1.out.alloc (.cells #[.bool g, .int .i64 ec, .int .i64 ag] 47))).zz a2)
          clear a2
          cases ho : mtOk ⟨g, ec, ag⟩ with
          | false =>
            have HF := mkHid (all_not (f := mtOk) HM.out ho)
            go_wp2
            go_ret
            exact ⟨ret_b (by rw [HF.out]; simp), A0.out.zz A2.out⟩
          | true =>
            have HT := mkHid (show (l.take (k + 1)).all mtOk = true by rw [all_take HM.out, HALL.out, ho]; rfl)
            go_wp2
            go_roundw
            case rel => exact ⟨k + 1, by omega, by go_num, A2.out, HT.out⟩
            case measure => simp [intOf]; omega
        · obtain rfl : k = n := by omega
          have HT := mkHid (show l.all mtOk = true by have := HALL.out; rw [← HN.out, List.take_length] at this; exact this)
          go_wp2
          go_ret
          exact ⟨ret_b (by rw [HT.out, HD.out]; rfl), HA.out⟩
theorem frame22 (a : Act) (hs : a.tmps.size = 22) (hd : a.defers = []) : ∃ u : Nat → Value, (∀ i, a.tmps.getD i undef = u i) ∧ a = { tmps := #[u 0, u 1, u 2, u 3, u 4, u 5, u 6, u 7, u 8, u 9, u 10, u 11, u 12, u 13, u 14, u 15, u 16, u 17, u 18, u 19, u 20, u 21], defers := [] } := frame_of a 22 hs hd
set_option maxRecDepth 100000 in
set_option maxHeartbeats 400000 in
theorem good_any (sd st : Int) (a : Option Addr) (cap : Nat) (l : List Bk) (w : World) (h : BA w.heap.size w a l) :
    Calls Try.prog 13 #[rv sd a l.length cap st] w fun e w' => e = .returned (.bool (goodL l)) ∧ Apart (fun _ => False) w w' := by
  unfold rv
  have n1 := h.1
  unfold maxLen at n1
  have H := mkHid h
  obtain ⟨n, HN⟩ : ∃ n, Hid (l.length = n) := ⟨_, rfl⟩
  rw [HN.out] at n1 ⊢
  have m1 : (n : Int) ≤ 9223372036854775807 := by omega
  clear n1 h
  have A0 := mkHid ((Apart.refl (fun _ => False) w).alloc (.cells #[.int .u32 sd, .slice a n cap, .int .u32 st] 25))
  have N0 := mkHid (Rv.new w sd (.slice a n cap) st)
  obtain ⟨bx, HBX⟩ : ∃ bx, Hid (w.heap.size = bx) := ⟨_, rfl⟩
  obtain ⟨W, HW⟩ : ∃ W, Hid (w.alloc (.cells #[.int .u32 sd, .slice a n cap, .int .u32 st] 25) = W) := ⟨_, rfl⟩
  rw [HBX.out, HW.out] at N0
  rw [HW.out] at A0
  obtain ⟨c0, c1, c2, _⟩ := cells3 N0.out
  by_cases h1 : (16 : Int) < n
  · have HF := mkHid (show goodL l = false by unfold goodL; rw [HN.out]; simp; omega)
    go_enter Try.func13, Try.ntmps13
    go_wp2
    rw [HW.out, HBX.out]
    go_step3
    go_wp2
    rw [Exit.noGoto_ret]
    go_ret
    exact ⟨ret_b HF.out.symm, A0.out⟩
  · have HG := mkHid (show goodL l = l.all bkOk by unfold goodL; rw [HN.out]; simp; omega)
    go_enter Try.func13, Try.ntmps13
    go_wp2
    rw [HW.out, HBX.out]
    refine wp_scope_label 0 (fun a' w' => ∃ k : Nat, (a'.tmps.size = 22 ∧ a'.defers = [] ∧ a'.tmps.getD 1 undef = .pointer (some ⟨bx, 0, none⟩) ∧ a'.tmps.getD 2 undef = .bool false ∧ a'.tmps.getD 3 undef = .int .i64 (k : Int)) ∧ k ≤ n ∧ Apart (fun _ => False) W w' ∧ (l.take k).all bkOk = true) (fun a' _ => n - (intOf (a'.tmps.getD 3 undef)).toNat) rfl ?_ ?_
    · intro Q' hh
      have HH := mkHid hh
      clear hh
      go_wp2
      go_step3
      refine ‹∀ a w, Code.wp _ _ _ a w → _› _ _ (HH.out _ _ ?_)
      exact ⟨0, ⟨rfl, rfl, rfl, rfl, rfl⟩, Nat.zero_le _, Apart.refl _ _, rfl⟩
    · clear c0 c1 c2
      rintro a' w' ⟨k, ⟨z, d, e1, e2, e3⟩, hk, ha, hall⟩
      obtain ⟨u, hu, ha'⟩ := frame22 a' z d
      rw [hu] at e1 e2 e3
      rw [e1, e2, e3] at ha'
      clear z d hu e1 e2 e3
      subst ha'
      obtain ⟨c0, c1, c2, _⟩ := cells3 (N0.out.kept ha (fun h => h))
      have HA := mkHid (A0.out.zz ha)
      have HA1 := mkHid ha
      have HALL := mkHid hall
      clear ha hall
      by_cases hlt : k < n
      · obtain ⟨b, off, x, rfl, hb, hx, d0, d1, ⟨ma, mc, d2, hma⟩, _⟩ := (H.out.kept HA.out.belowZ).at k (by rw [HN.out]; exact hlt)
        have HX := mkHid hx
        have IB := mkHid (isblock_any x ma mc w' (hma.up HA.out.size))
        obtain ⟨ss, f, ml⟩ := x
        unfold kv at IB
        simp only at d0 d1 d2 IB
        have hne : ¬ (k : Int) = n := by omega
        clear hx hb hma
        go_wp2_with fail
        refine (IB.out).mono ?_
        rintro e w2 ⟨rfl, a2⟩
        have A2 := mkHid (HA1.out.zz a2)
        clear a2
        cases ho : bkOk ⟨ss, f, ml⟩ with
        | false =>
          have HF := mkHid (all_not (f := bkOk) HX.out ho)
          go_wp2
          simp only [Exit.jump]
          go_ret
          exact ⟨ret_b (by rw [HG.out, HF.out]), A0.out.zz A2.out⟩
        | true =>
          have HT := mkHid (show (l.take (k + 1)).all bkOk = true by rw [all_take HX.out, HALL.out, ho]; rfl)
          go_wp2
          go_step3
          refine ⟨rfl, ⟨k + 1, ⟨rfl, rfl, rfl, rfl, by go_num⟩, by omega, A2.out, HT.out⟩, ?_⟩
          simp [intOf]; omega
      · obtain rfl : k = n := by omega
        have HT := mkHid (show l.all bkOk = true by have := HALL.out; rw [← HN.out, List.take_length] at this; exact this)
        go_wp2
        simp only [Exit.jump]
        go_ret
        exact ⟨ret_b (by rw [HG.out, HT.out]), HA.out⟩
end Go.Proofs.Ytohembamfjbclaa
