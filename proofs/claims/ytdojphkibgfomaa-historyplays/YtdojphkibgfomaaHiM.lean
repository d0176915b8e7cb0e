/-
  What is remembered, as a list by rising numbers; the map that holds just that list; what is sent, heard, given up, in plain words.
-/
import Derived.Test.YtdojphkibgfomaaHiA
import Derived.Test.YtdojphkibgfomaaWrA
import Derived.Test.YtdojphkibgfomaaSatPlain
import Derived.Maps.OwnSet
import Derived.Maps.RangeWalk
namespace Go.Proofs.Ytdojphkibgfomaa
open Go.RowKit Go.Maps

/-- A packet: its number, its size, when it was sent. -/
abbrev Sn := Int × Int × Int
def sV (s : Sn) : Value := .agg #[.int .i64 s.1, .int .i64 s.2.1, .int .i64 s.2.2]
def sE (s : Sn) : List Value := [.int .i64 s.1, .int .i64 s.2.1, .int .i64 s.2.2]
def sC (l : List Sn) : List Value := l.flatMap sE
def sD (s : Sn) : DataW Unit := .agg [.lit (.int .i64 s.1), .lit (.int .i64 s.2.1), .lit (.int .i64 s.2.2)]
/-- How a packet reads. -/
def sR (v : Value) : Option (DataW Unit × List MemPlace) :=
  match v with
  | .agg a => match a.toList with
    | [.int .i64 x, .int .i64 y, .int .i64 z] => some (sD (x, y, z), [])
    | _ => none
  | _ => none
theorem sR_mk (s : Sn) : sR (sV s) = some (sD s, []) := rfl
theorem sR_inv {v : Value} {y : DataW Unit × List MemPlace} (h : sR v = some y) : ∃ s, v = sV s ∧ y = (sD s, []) := by
  unfold sR at h
  split at h
  · rename_i a
    split at h
    · rename_i x y z e
      cases h
      refine ⟨(x, y, z), ?_, rfl⟩
      unfold sV
      congr 1
      apply Array.ext'
      rw [e]
    · cases h
  · cases h
theorem sD_inj {s u : Sn} (h : sD s = sD u) : s = u := by
  obtain ⟨a, b, c⟩ := s
  obtain ⟨x, y, z⟩ := u
  simp [sD] at h
  obtain ⟨rfl, rfl, rfl⟩ := h
  rfl
@[simp] theorem sE_len (s : Sn) : (sE s).length = 3 := rfl
@[simp] theorem sC_len (l : List Sn) : (sC l).length = l.length * 3 := by
  induction l with
  | nil => rfl
  | cons s l ih => show (sE s ++ sC l).length = _; rw [List.length_append, ih, sE_len, List.length_cons]; omega
theorem sC_app (l m : List Sn) : sC (l ++ m) = sC l ++ sC m := by unfold sC; rw [List.flatMap_append]
theorem sC_one (s : Sn) : sC [s] = sE s := by unfold sC; simp
theorem one_sC (l : List Sn) : ∀ u ∈ sC l, u.oneCell' = true := by
  intro u hu
  obtain ⟨s, _, hs⟩ := List.mem_flatMap.1 hu
  simp only [sE, List.mem_cons, List.not_mem_nil, or_false] at hs
  rcases hs with rfl | rfl | rfl <;> rfl

/-- The map that holds just the list. -/
def kL (x : Int) : Lit := .int .i64 x
def mE (L : List Sn) : List (Lit × DataW Unit) := L.map fun s => (kL s.1, sD s)
def mD (L : List Sn) : DataW Unit := .map (mE L)
def Rise (L : List Sn) : Prop := L.Pairwise fun p q => p.1 < q.1
theorem same_k (x y : Int) : (kL x).sameKey (kL y) = (x == y) := by
  unfold kL Lit.sameKey
  by_cases h : x = y <;> simp [h]
theorem mD_has (L : List Sn) (x : Int) : has (mD L) (kL x) = L.any (fun s => s.1 == x) := by
  unfold mD mE
  rw [has_eq, List.any_map]
  congr 1
  funext s
  exact same_k s.1 x
theorem mD_size (L : List Sn) : size (mD L) = L.length := by unfold mD mE; rw [size_eq, List.length_map]
theorem mD_del (L : List Sn) (x : Int) : (mD L).del (kL x) = mD (L.filter fun s => s.1 != x) := by
  unfold mD mE
  show DataW.map ((L.map fun s => (kL s.1, sD s)).filter fun p => !p.1.sameKey (kL x)) = _
  rw [List.filter_map]
  congr 2
  congr 1
  funext s
  show (!(kL s.1).sameKey (kL x)) = (s.1 != x)
  rw [same_k]; rfl
theorem ins_end (x : Lit × DataW Unit) : ∀ l : List (Lit × DataW Unit), (∀ p ∈ l, x.1.before p.1 = false) → DataW.insert x l = l ++ [x]
  | [], _ => rfl
  | y :: r, h => by
    unfold DataW.insert
    rw [h y (by simp), if_neg (by simp), ins_end x r (fun p hp => h p (by simp [hp]))]
    rfl
theorem mD_put (L : List Sn) (s : Sn) (h : ∀ u ∈ L, u.1 < s.1) : (mD L).put (kL s.1) (sD s) = mD (L ++ [s]) := by
  have e1 : (mE L).filter (fun p => !p.1.sameKey (kL s.1)) = mE L := by
    rw [List.filter_eq_self]
    intro p hp
    obtain ⟨u, hu, rfl⟩ := List.mem_map.1 hp
    show (!(kL u.1).sameKey (kL s.1)) = true
    rw [same_k]
    have := h u hu
    have : ¬ u.1 = s.1 := by omega
    simp [this]
  unfold mD
  show DataW.map (DataW.insert (kL s.1, sD s) ((mE L).filter fun p => !p.1.sameKey (kL s.1))) = _
  rw [e1, ins_end]
  · unfold mE; rw [List.map_append]; rfl
  · intro p hp
    obtain ⟨u, hu, rfl⟩ := List.mem_map.1 hp
    have := h u hu
    show decide (s.1 < u.1) = false
    simp; omega
theorem find_key {L : List Sn} (hr : Rise L) {s : Sn} (hs : s ∈ L) : L.find? (fun u => u.1 == s.1) = some s := by
  induction L with
  | nil => cases hs
  | cons y r ih =>
    obtain ⟨h1, h2⟩ := List.pairwise_cons.1 hr
    rcases List.mem_cons.1 hs with rfl | hm
    · simp
    · have := h1 s hm
      have hne : ¬ y.1 = s.1 := by omega
      simp [hne, ih h2 hm]
theorem mD_at {L : List Sn} (hr : Rise L) {s : Sn} (hs : s ∈ L) (z : DataW Unit) : (mD L).atKey (kL s.1) z = sD s := by
  have e : ((fun p : Lit × DataW Unit => p.1.sameKey (kL s.1)) ∘ fun s : Sn => (kL s.1, sD s)) = fun u : Sn => u.1 == s.1 := by
    funext u
    exact same_k u.1 s.1
  have e2 : (mE L).find? (fun p => p.1.sameKey (kL s.1)) = some (kL s.1, sD s) := by
    unfold mE
    rw [List.find?_map, e, find_key hr hs]
    rfl
  unfold mD
  simp only [DataW.atKey, e2]
theorem rise_filter {L : List Sn} (h : Rise L) (f : Sn → Bool) : Rise (L.filter f) := List.Pairwise.filter f h
theorem rise_end {L : List Sn} (h : Rise L) (s : Sn) (hs : ∀ u ∈ L, u.1 < s.1) : Rise (L ++ [s]) := by
  unfold Rise
  rw [List.pairwise_append]
  refine ⟨h, by simp, fun a ha b hb => ?_⟩
  rw [List.mem_singleton] at hb
  subst hb
  exact hs a ha
/-- The bytes of a list. -/
def fl (L : List Sn) : Int := (L.map (·.2.1)).sum
theorem fl_nil : fl [] = 0 := rfl
theorem fl_cons (s : Sn) (L : List Sn) : fl (s :: L) = s.2.1 + fl L := by unfold fl; simp
theorem fl_app (L M : List Sn) : fl (L ++ M) = fl L + fl M := by unfold fl; simp
theorem fl_end (L : List Sn) (s : Sn) : fl (L ++ [s]) = fl L + s.2.1 := by rw [fl_app, fl_cons, fl_nil]; omega
theorem fl_parts (L : List Sn) (f : Sn → Bool) : fl (L.filter f) + fl (L.filter fun s => !f s) = fl L := by
  induction L with
  | nil => rfl
  | cons s r ih =>
    cases h : f s <;> simp [h, fl_cons] <;> omega
theorem filter_one {L : List Sn} (hr : Rise L) {s : Sn} (hs : s ∈ L) : (L.filter fun u => !(u.1 != s.1)) = [s] := by
  induction L with
  | nil => cases hs
  | cons y r ih =>
    obtain ⟨h1, h2⟩ := List.pairwise_cons.1 hr
    rcases List.mem_cons.1 hs with rfl | hm
    · have : (r.filter fun u => !(u.1 != s.1)) = [] := by
        rw [List.filter_eq_nil_iff]
        intro u hu
        have := h1 u hu
        have : ¬ u.1 = s.1 := by omega
        simp [this]
      simp
      simpa using this
    · have := h1 s hm
      have hne : ¬ y.1 = s.1 := by omega
      have := ih h2 hm
      simp [hne]
      simpa using this
theorem fl_drop {L : List Sn} (hr : Rise L) {s : Sn} (hs : s ∈ L) : fl (L.filter fun u => u.1 != s.1) = fl L - s.2.1 := by
  have h := fl_parts L (fun u => u.1 != s.1)
  rw [filter_one hr hs, fl_cons, fl_nil] at h
  omega
theorem len_parts (L : List Sn) (f : Sn → Bool) : (L.filter f).length + (L.filter fun s => !f s).length = L.length := by
  induction L with
  | nil => rfl
  | cons s r ih => cases h : f s <;> simp [h] <;> omega
theorem len_drop {L : List Sn} (hr : Rise L) {s : Sn} (hs : s ∈ L) : (L.filter fun u => u.1 != s.1).length + 1 = L.length := by
  have h := len_parts L (fun u => u.1 != s.1)
  rw [filter_one hr hs] at h
  simpa using h
/-- What may be remembered. -/
structure Ok (nx la : Int) (L : List Sn) : Prop where
  rise : Rise L
  num : ∀ s ∈ L, 0 ≤ s.1 ∧ s.1 < nx
  siz : ∀ s ∈ L, 0 ≤ s.2.1 ∧ s.2.1 ≤ 1500
  tim : ∀ s ∈ L, 0 ≤ s.2.2 ∧ s.2.2 ≤ la
  len : L.length ≤ 1024
  nx0 : 0 ≤ nx
  la0 : 0 ≤ la
  la1 : la ≤ 1125899906842624
theorem fl_bd {L : List Sn} (h : ∀ s ∈ L, 0 ≤ s.2.1 ∧ s.2.1 ≤ 1500) : 0 ≤ fl L ∧ fl L ≤ 1500 * (L.length : Int) := by
  induction L with
  | nil => simp [fl_nil]
  | cons s r ih =>
    have h1 := h s (by simp)
    have h2 := ih (fun u hu => h u (by simp [hu]))
    rw [fl_cons]
    simp only [List.length_cons]
    omega
theorem Ok.fl {nx la : Int} {L : List Sn} (h : Ok nx la L) : 0 ≤ fl L ∧ fl L ≤ 1536000 := by
  have := fl_bd h.siz
  have := h.len
  omega
theorem Ok.filter {nx la : Int} {L : List Sn} (h : Ok nx la L) (f : Sn → Bool) : Ok nx la (L.filter f) :=
  ⟨rise_filter h.rise f, fun s hs => h.num s (List.mem_filter.1 hs).1, fun s hs => h.siz s (List.mem_filter.1 hs).1, fun s hs => h.tim s (List.mem_filter.1 hs).1, Nat.le_trans (List.length_filter_le _ _) h.len, h.nx0, h.la0, h.la1⟩
theorem Ok.send {nx la : Int} {L : List Sn} (h : Ok nx la L) (z t : Int) (z0 : 0 ≤ z) (z1 : z ≤ 1500) (t0 : la ≤ t) (t1 : t ≤ 1125899906842624) (hl : L.length < 1024) : Ok (nx + 1) t (L ++ [(nx, z, t)]) := by
  have h0 := h.nx0
  have h1 := h.la0
  refine ⟨rise_end h.rise _ (fun u hu => (h.num u hu).2), ?_, ?_, ?_, by simp; omega, by omega, by omega, t1⟩ <;>
  · intro s hs
    rcases List.mem_append.1 hs with hs | hs
    · have := h.num s hs
      have := h.siz s hs
      have := h.tim s hs
      omega
    · rw [List.mem_singleton] at hs
      subst hs
      simp only
      omega
theorem Ok.nil {nx la : Int} (h0 : 0 ≤ nx) (h1 : 0 ≤ la) (h2 : la ≤ 1125899906842624) : Ok nx la [] := ⟨List.Pairwise.nil, by simp, by simp, by simp, by simp, h0, h1, h2⟩

/-- Block mb is a map that holds just L. -/
def Mp (w : World) (mb : Nat) (L : List Sn) : Prop := w.ownsMap Try.prog 2 sR mb L.length (mD L)
theorem law2 : Keyed Try.prog 2 := int_keyed Try.underlying2
theorem zero56 (w : World) : (zeroValue 56).run Try.prog w = .ok (.agg #[.int .i64 0, .int .i64 0, .int .i64 0]) w := by kernel_rfl
theorem Mp.kept {w w' : World} {mb : Nat} {L : List Sn} {X : Nat → Prop} (h : Mp w mb L) (ha : Apart X w w') (hx : ¬ X mb) : Mp w' mb L := by
  obtain ⟨es, clock, hb, r⟩ := h
  exact ⟨es, clock, ha.heap hb hx, r⟩
theorem Mp.lt {w : World} {mb : Nat} {L : List Sn} (h : Mp w mb L) : mb < w.heap.size := World.ownsMap.lt h
theorem Mp.made (w : World) : Mp (w.alloc (.map #[] 0)) w.heap.size [] := World.ownsMap_made w Try.prog 2 sR
/-- The bound is no greater than what is held. -/
theorem tight {w : World} {mb n : Nat} {L : List Sn} (h : w.ownsMap Try.prog 2 sR mb n (mD L)) : Mp w mb L := by
  obtain ⟨es, clock, hb, F, hs, hD⟩ := h
  refine ⟨es, clock, hb, F, ?_, hD⟩
  have := congrArg size hD
  rw [mD_size] at this
  rw [this]
  simp [Maps.size, length_sorted]
theorem turned_apart {w w' : World} {b : Nat} (h : w.mapTurned w' b) : Apart (· = b) w w' := by
  have g := h.grown
  exact ⟨g.os, g.tape, g.output, g.size, fun k hk hx => g.block k hk (fun e => hx (by cases e; rfl))⟩
theorem key2 (x : Int) (x0 : 0 ≤ x) (x1 : x ≤ 4611686018427387904) : keyOf Try.prog 2 (.int .i64 x) = some (kL x) := keyOf_int_mk Try.underlying2 (WalkArith.wf_i64 (by omega))
theorem key2' (x : Int) (x0 : -9223372036854775808 ≤ x) (x1 : x ≤ 9223372036854775807) : keyOf Try.prog 2 (.int .i64 x) = some (kL x) := keyOf_int_mk Try.underlying2 (WalkArith.wf_i64 (by omega))
theorem Mp.store {w : World} {mb : Nat} {L : List Sn} (h : Mp w mb L) (s : Sn) (h0 : 0 ≤ s.1) (h1 : s.1 ≤ 4611686018427387904) (hu : ∀ u ∈ L, u.1 < s.1) (hl : L.length ≤ 1024) :
    ∃ w', (Instr.mapUpdate 69 (.map (some mb)) (.int .i64 s.1) (sV s)).run Try.prog w = .ok () w' ∧ Mp w' mb (L ++ [s]) ∧ Apart (· = mb) w w' := by
  obtain ⟨w', hr, h2, h3⟩ := World.ownsMap.store h law2 Try.underlying69 (by unfold maxLen; omega) (key2 s.1 h0 h1) (sR_mk s)
  rw [mD_put L s hu] at h2
  exact ⟨w', hr, tight h2, turned_apart h3⟩
theorem Mp.drop {w : World} {mb : Nat} {L : List Sn} (h : Mp w mb L) (x : Int) (x0 : -9223372036854775808 ≤ x) (x1 : x ≤ 9223372036854775807) (ty : TypeId) :
    ∃ w', (Builtin.delete_ #[69, 2] ty #[.map (some mb), .int .i64 x]).run Try.prog w = .ok (.tuple #[]) w' ∧ Mp w' mb (L.filter fun u => u.1 != x) ∧ Apart (· = mb) w w' := by
  obtain ⟨w', hr, h2, h3⟩ := World.ownsMap.drop h law2 Try.underlying69 (key2' x x0 x1) ty
  rw [mD_del L x] at h2
  exact ⟨w', hr, tight h2, turned_apart h3⟩
theorem Mp.len {w : World} {mb : Nat} {L : List Sn} (h : Mp w mb L) (ty : TypeId) : (Builtin.len_ #[69] ty #[.map (some mb)]).run Try.prog w = .ok (.int .i64 (L.length : Int)) w := by
  have := World.ownsMap.len h Try.underlying69 ty
  rw [mD_size] at this
  exact this
theorem Mp.hit {w : World} {mb : Nat} {L : List Sn} (h : Mp w mb L) (hr : Rise L) (x : Int) (x0 : -9223372036854775808 ≤ x) (x1 : x ≤ 9223372036854775807) (s : Sn) (hs : L.find? (fun u => u.1 == x) = some s) :
    (Instr.lookup 69 (.map (some mb)) (.int .i64 x) true).run Try.prog w = .ok (.tuple #[sV s, .bool true]) w := by
  have hm := List.mem_of_find?_eq_some hs
  have hx : s.1 = x := by simpa using List.find?_some hs
  obtain ⟨v, ps, hrun, hv⟩ := World.ownsMap.look_ok h law2 Try.underlying69 (zero56 _) (sR_mk (0, 0, 0)) (key2' x x0 x1)
  rw [mD_has] at hrun
  have e1 : L.any (fun s => s.1 == x) = true := List.any_eq_true.2 ⟨s, hm, by simp [hx]⟩
  rw [e1] at hrun
  rw [← hx, mD_at hr hm] at hv
  obtain ⟨u, rfl, hu⟩ := sR_inv hv
  rw [sD_inj (congrArg Prod.fst hu)]
  exact hrun
theorem Mp.miss {w : World} {mb : Nat} {L : List Sn} (h : Mp w mb L) (x : Int) (x0 : -9223372036854775808 ≤ x) (x1 : x ≤ 9223372036854775807) (hs : L.find? (fun u => u.1 == x) = none) :
    (Instr.lookup 69 (.map (some mb)) (.int .i64 x) true).run Try.prog w = .ok (.tuple #[sV (0, 0, 0), .bool false]) w := by
  obtain ⟨es, clock, hb, F, _, hD⟩ := h
  have hn : has (mD L) (kL x) = false := by
    rw [mD_has, List.any_eq_false]
    intro s hs'
    have := List.find?_eq_none.1 hs s hs'
    simpa using this
  rcases Maps.fit_look true law2 Try.underlying69 (zero56 w) hb F (key2' x x0 x1) with ⟨hrun, _, _⟩ | ⟨e0, y, _, _, _, _, hat, _⟩
  · exact hrun
  · rw [← hD] at hat
    rw [has_true_of_atKey hat] at hn
    cases hn
end Go.Proofs.Ytdojphkibgfomaa
