/-
  What the reference's Send leaves.
-/
import Derived.Test.YtdojphkibgfomaaHiR
import Derived.Test.YtdojphkibgfomaaWrR
namespace Go.Proofs.Ytdojphkibgfomaa
open Go.RowKit Go.Maps

/-- An append, kept shut till its equation is met. -/
def appR (ats : Array TypeId) (ty : TypeId) (args : Array Value) : Sem Value := Builtin.append_ ats ty args
theorem app_shut {ats : Array TypeId} {ty : TypeId} {args : Array Value} : Builtin.append_ ats ty args = appR ats ty args := rfl
theorem app_run {ats : Array TypeId} {ty : TypeId} {args : Array Value} {w w' : World} {v : Value} (h : Sem.run Try.prog (Builtin.append_ ats ty args) w = .ok v w') : Sem.run Try.prog (appR ats ty args) w = .ok v w' := h
theorem nx_alloc {w : World} {g : Nat} {o o' : Obj} (h : w.heap[g]? = some o') : (w.alloc o).heap[g]? = some o' := ((Apart.refl (fun _ => False) w).alloc o).heap h (fun h => h)
theorem SnA.kept {w w' : World} {a : Option Addr} {l : List Sn} (h : SnA w a l) (ha : Apart (fun _ => False) w w') : SnA w' a l := by
  intro i s hi
  obtain ⟨b, off, e, hb, c⟩ := h i s hi
  exact ⟨b, off, e, Nat.lt_of_lt_of_le hb ha.size, c.kept ha hb⟩
/-- A copy into a new row. -/
theorem copy_told {w : World} {g n cp : Nat} {ad : Option Addr} {L : List Sn} (hg : w.heap[g]? = some (.cells #[] 56 (0, 0))) (hS : SnA w ad L) (hn : L.length = n) (hm : n ≤ 1024) :
    ∃ ad7 cp7 w7, Sem.run Try.prog (Builtin.append_ #[38, 38] 38 #[.slice (some ⟨g, 0, none⟩) 0 0, .slice ad n cp]) w = .ok (.slice ad7 n cp7) w7 ∧ w7.ownsRow g 56 3 (.slice ad7 n cp7) n (sC L) ∧ Apart (· = g) w w7 := by
  obtain ⟨i3, hi3, hz30, hz31, hz32⟩ := info56
  have hs := sna_src (c := cp) hS
  rw [hn] at hs
  have hl := lt_of_heap hg
  obtain ⟨v7, w7, hr, own, gr, -⟩ := run_append_told (P := Try.prog) w g 38 38 56 i3 _ 3 24 Try.underlying38 hi3 hz30 hz31 hz32 rfl (by decide) _ 0 [] (own_empty_at hg (Nat.le_refl _)) _ n (sC L) hs (one_sC _) (by unfold maxLen; omega) (by omega) (by omega)
  rw [Nat.zero_add, List.nil_append] at own
  obtain ⟨ad7, cp7, rfl⟩ := ownsRow_slice own
  refine ⟨ad7, cp7, w7, hr, own, (grown_apart gr).mono (fun i hi e => ?_)⟩
  simp only [Value.ownBlock, Option.some.injEq] at e
  exact e.symm
/-- One more. -/
theorem put_told {w : World} {B b n cp : Nat} {ad : Option Addr} {L : List Sn} {s : Sn} (own : w.ownsRow B 56 3 (.slice ad n cp) n (sC L)) (hB : B ≤ w.heap.size) (hb : Bs w b s) (hm : n ≤ 1024) :
    ∃ ad7 cp7 w7, Sem.run Try.prog (Builtin.append_ #[38, 38] 38 #[.slice ad n cp, .slice (some ⟨b, 0, none⟩) 1 1]) w = .ok (.slice ad7 (n + 1) cp7) w7 ∧ w7.ownsRow B 56 3 (.slice ad7 (n + 1) cp7) (n + 1) (sC (L ++ [s])) ∧ Apart (B ≤ ·) w w7 := by
  obtain ⟨i3, hi3, hz30, hz31, hz32⟩ := info56
  obtain ⟨v7, w7, hr, own7, gr, -⟩ := run_append_told (P := Try.prog) w B 38 38 56 i3 _ 3 24 Try.underlying38 hi3 hz30 hz31 hz32 rfl (by decide) _ n (sC L) own _ 1 (sE s) (src_block hb) (by intro u hu; simp only [sE, List.mem_cons, List.not_mem_nil, or_false] at hu; rcases hu with rfl | rfl | rfl <;> rfl) (by unfold maxLen; omega) (by omega) hB
  obtain ⟨ad7, cp7, rfl⟩ := ownsRow_slice own7
  refine ⟨ad7, cp7, w7, hr, by rw [sC_app, sC_one]; exact own7, (grown_apart gr).mono (fun i hi e => (own.lt _ e).1)⟩
/-- Behind Send's stores. -/
theorem sent_rf {W w8 : World} {rb B : Nat} {T nx t : Int} {L : List Sn} {ad ad8 : Option Addr} {n cp cp8 : Nat} {s : Sn} (h : W.heap[rb]? = some (.cells #[.int .i64 T, .slice ad n cp, .int .i64 nx, .int .i64 t] 73 (0, 0))) (hn : L.length = n)
    (ha : Apart (B ≤ ·) W w8) (hB : rb < B) (own : w8.ownsRow B 56 3 (.slice ad8 (n + 1) cp8) (n + 1) (sC (L ++ [s]))) (y : Int) (hy : y = nx + 1) :
    Rf ((w8.setCell ⟨rb, 1, none⟩ (.slice ad8 (n + 1) cp8)).setCell ⟨rb, 2, none⟩ (.int .i64 y)) rb T (nx + 1) t (L ++ [s]) ∧
    Apart (fun k => k = rb ∨ B ≤ k) W ((w8.setCell ⟨rb, 1, none⟩ (.slice ad8 (n + 1) cp8)).setCell ⟨rb, 2, none⟩ (.int .i64 y)) := by
  have x0 := ha.heap h (by omega)
  have x1 := heap_setCell_same w8 rb 1 _ 73 (.slice ad8 (n + 1) cp8) x0
  have x2 := heap_setCell_same _ rb 2 _ 73 (.int .i64 y) x1
  have A := (ap_set w8 rb 1 (.slice ad8 (n + 1) cp8)).trans (ap_set _ rb 2 (.int .i64 y)) (fun _ _ e => e)
  refine ⟨⟨ad8, cp8, ?_, ?_⟩, (ha.mono (fun _ _ e => .inr e)).trans A (fun _ _ e => .inl e)⟩
  · rw [x2, List.length_append, hn, hy]; rfl
  · rw [List.length_append, hn]
    exact ownsRow_base (ownsRow_apart own A (fun k hk e => by omega)) (by omega)
attribute [local go_sem ↓] app_shut
set_option maxRecDepth 100000 in
set_option maxHeartbeats 8000000 in
theorem rsend_ok {w : World} {rb : Nat} {T nx la : Int} {L : List Sn} (h : Rf w rb T nx la L) (ok : Ok nx la L) (z t x : Int) (hx : sndE la L.length z t = 0) (n1 : nx ≤ 1000000000000000) (hy : nx % 65536 = x) :
    Calls Try.prog 12 #[.pointer (some ⟨rb, 0, none⟩), .int .i64 z, .int .i64 t] w fun e w' => e = .returned (.tuple #[.int .i64 x, .int .i64 0]) ∧ Rf w' rb T (nx + 1) t (L ++ [(nx, z, t)]) ∧ Apart (· = rb) w w' := by
  have hz : 0 ≤ z ∧ z ≤ 1500 ∧ L.length < 1024 ∧ 0 ≤ t ∧ t ≤ 1125899906842624 ∧ la ≤ t := by unfold sndE at hx; repeat' split at hx <;> omega
  obtain ⟨z0, z1, hl, t0, t1, t2⟩ := hz
  have hn := ok.nx0
  have hlt := h.lt
  obtain ⟨ad, cp, h1, h2⟩ := h
  obtain ⟨n, HN⟩ : ∃ n, Hid (L.length = n) := ⟨_, rfl⟩
  rw [HN.out] at h1 h2 hl
  have C := mkHid (rcrop_any nx 16 (by omega) (by omega))
  rw [show 2 * hf 16 = 65536 from by decide, hy] at C
  obtain ⟨c0, c1, c2, c3, f0, f1, f2, f3⟩ := cells4 h1
  have B1 := mkHid (show (w.setCell ⟨rb, 3, none⟩ (.int .i64 t)).heap[rb]? = some (.cells #[.int .i64 T, .slice ad n cp, .int .i64 nx, .int .i64 t] 73 (0, 0)) from heap_setCell_same w rb 3 _ 73 _ h1)
  have A1 := mkHid (ap_set w rb 3 (.int .i64 t))
  have O1 := mkHid (ownsRow_apart2 h2 A1.out (fun k hk e => by have := (h2.lt k hk).1; omega))
  obtain ⟨W, HW⟩ : ∃ W, Hid (w.setCell ⟨rb, 3, none⟩ (.int .i64 t) = W) := ⟨_, rfl⟩
  rw [HW.out] at B1 A1 O1
  have hls := lt_of_heap B1.out
  have SN := mkHid (own_sna O1.out HN.out.symm)
  have hn1 : (n : Int) < 1024 := by omega
  have hn2 : n ≤ 1024 := by omega
  have HR := mkHid hls
  -- the worlds that the region passes through
  have AC := mkHid (show Apart (fun _ => False) W (W.alloc (.cells #[] 56)).drew from ((Apart.refl (fun _ => False) W).alloc _).drew)
  have AD := mkHid (show Apart (fun _ => False) W (W.alloc (.cells #[.int .i64 nx, .int .i64 z, .int .i64 t] 56)).drew from ((Apart.refl (fun _ => False) W).alloc _).drew)
  have AA := mkHid (show Apart (fun _ => False) W ((W.alloc (.cells #[] 56)).alloc (.cells #[.int .i64 nx, .int .i64 z, .int .i64 t] 56)).drew from (((Apart.refl (fun _ => False) W).alloc _).alloc _).drew)
  have AB := mkHid (show Apart (fun _ => False) W ((W.alloc (.cells #[.int .i64 nx, .int .i64 z, .int .i64 t] 56)).alloc (.cells #[] 56)).drew from (((Apart.refl (fun _ => False) W).alloc _).alloc _).drew)
  have szE : (W.alloc (.cells #[] 56)).heap.size = W.heap.size + 1 := by simp
  have szP : (W.alloc (.cells #[.int .i64 nx, .int .i64 z, .int .i64 t] 56)).heap.size = W.heap.size + 1 := by simp
  -- the copy, in each
  obtain ⟨adC, cpC, wC, rC, oC, aC⟩ := copy_told (cp := cp) (show (W.alloc (.cells #[] 56)).drew.heap[W.heap.size]? = some (.cells #[] 56 (0, 0)) from heap_alloc_new W _) (SN.out.kept AC.out) HN.out hn2
  obtain ⟨adA, cpA, wA, rA, oA, aA⟩ := copy_told (cp := cp) (show ((W.alloc (.cells #[] 56)).alloc (.cells #[.int .i64 nx, .int .i64 z, .int .i64 t] 56)).drew.heap[W.heap.size]? = some (.cells #[] 56 (0, 0)) from nx_alloc (heap_alloc_new W _)) (SN.out.kept AA.out) HN.out hn2
  obtain ⟨adB, cpB, wB, rB, oB, aB⟩ := copy_told (cp := cp) (g := W.heap.size + 1) (show ((W.alloc (.cells #[.int .i64 nx, .int .i64 z, .int .i64 t] 56)).alloc (.cells #[] 56)).drew.heap[W.heap.size + 1]? = some (.cells #[] 56 (0, 0)) by
    have := heap_alloc_new (W.alloc (.cells #[.int .i64 nx, .int .i64 z, .int .i64 t] 56)) (.cells #[] 56)
    rw [szP] at this
    exact this) (SN.out.kept AB.out) HN.out hn2
  have bA := (show Bs ((W.alloc (.cells #[] 56)).alloc (.cells #[.int .i64 nx, .int .i64 z, .int .i64 t] 56)).drew (W.heap.size + 1) (nx, z, t) by
    have := heap_alloc_new (W.alloc (.cells #[] 56)) (.cells #[.int .i64 nx, .int .i64 z, .int .i64 t] 56)
    rw [szE] at this
    exact this)
  have bB := (show Bs ((W.alloc (.cells #[.int .i64 nx, .int .i64 z, .int .i64 t] 56)).alloc (.cells #[] 56)).drew W.heap.size (nx, z, t) from nx_alloc (heap_alloc_new W _))
  have szA := aA.size
  have szB := aB.size
  have szC := aC.size
  have qA : ((W.alloc (.cells #[] 56)).alloc (.cells #[.int .i64 nx, .int .i64 z, .int .i64 t] 56)).drew.heap.size = W.heap.size + 2 := by show ((W.alloc (.cells #[] 56)).alloc (.cells #[.int .i64 nx, .int .i64 z, .int .i64 t] 56)).heap.size = _; simp
  have qB : ((W.alloc (.cells #[.int .i64 nx, .int .i64 z, .int .i64 t] 56)).alloc (.cells #[] 56)).drew.heap.size = W.heap.size + 2 := by show ((W.alloc (.cells #[.int .i64 nx, .int .i64 z, .int .i64 t] 56)).alloc (.cells #[] 56)).heap.size = _; simp
  have qC : (W.alloc (.cells #[] 56)).drew.heap.size = W.heap.size + 1 := szE
  rw [qA] at szA
  rw [qB] at szB
  rw [qC] at szC
  have up : ∀ {W2 : World} {k : Nat}, W.heap.size ≤ k → Apart (fun _ => False) W W2 → ∀ {W3 : World}, Apart (· = k) W2 W3 → Apart (W.heap.size ≤ ·) W W3 := fun hk a1 _ a2 => (a1.mono (fun _ _ h => h.elim)).trans a2 (fun i _ e => by subst e; exact hk)
  have uA := up (Nat.le_refl _) AA.out aA
  have uB := up (Nat.le_succ _) AB.out aB
  have uC := up (Nat.le_refl _) AC.out aC
  clear up
  have oD := ownsRow_apart oC ((Apart.refl (fun _ => False) wC).alloc (.cells #[.int .i64 nx, .int .i64 z, .int .i64 t] 56)) (fun _ _ h => h)
  have uD := uC.alloc (.cells #[.int .i64 nx, .int .i64 z, .int .i64 t] 56)
  obtain ⟨adA2, cpA2, wA2, rA2, oA2, aA2⟩ := put_told oA (by omega) (bA.kept aA (by omega)) hn2
  obtain ⟨adB2, cpB2, wB2, rB2, oB2, aB2⟩ := put_told (ownsRow_base oB (Nat.le_succ W.heap.size)) (by omega) (bB.kept aB (by omega)) hn2
  obtain ⟨adC2, cpC2, wC2, rC2, oC2, aC2⟩ := put_told (b := wC.heap.size) (s := (nx, z, t)) oD (by simp; omega) (heap_alloc_new wC _) hn2
  have FA := mkHid (sent_rf B1.out HN.out (uA.trans aA2 (fun _ _ e => e)) hls oA2 (nx + 1) rfl)
  have FB := mkHid (sent_rf B1.out HN.out (uB.trans aB2 (fun _ _ e => e)) hls oB2 (nx + 1) rfl)
  have FC := mkHid (sent_rf B1.out HN.out (uD.trans aC2 (fun _ _ e => e)) hls oC2 (nx + 1) rfl)
  have hb : ¬ W.heap.size ≤ rb := by omega
  obtain ⟨-, p1, p2, -⟩ := cells4 (AA.out.heap B1.out (fun h => h))
  obtain ⟨-, q1, q2, -⟩ := cells4 (AB.out.heap B1.out (fun h => h))
  obtain ⟨-, e1, e2, -⟩ := cells4 (AC.out.heap B1.out (fun h => h))
  obtain ⟨-, d1, d2, -⟩ := cells4 (AD.out.heap B1.out (fun h => h))
  obtain ⟨-, w1, w2, -⟩ := cells4 (((Apart.refl (fun _ => False) W).drew).heap B1.out (fun h => h))
  obtain ⟨-, m1, m2, -⟩ := cells4 (uC.heap B1.out hb)
  obtain ⟨-, i1, i2, -, -, i3, i4, -⟩ := cells4 ((uA.trans aA2 (fun _ _ e => e)).heap B1.out hb)
  obtain ⟨-, j1, j2, -, -, j3, j4, -⟩ := cells4 ((uB.trans aB2 (fun _ _ e => e)).heap B1.out hb)
  obtain ⟨-, k1, k2, -, -, k3, k4, -⟩ := cells4 ((uD.trans aC2 (fun _ _ e => e)).heap B1.out hb)
  clear oA oB oC oD aA aB aC bA bB uA uB uC uD aA2 aB2 aC2 oA2 oB2 oC2 szA szB szC qA qB qC h1 h2
  replace rA := app_run rA
  replace rB := app_run rB
  replace rC := app_run rC
  replace rA2 := app_run rA2
  replace rB2 := app_run rB2
  replace rC2 := app_run rC2
  have hw1 : IntKind.i64.wrap (nx + 1) = nx + 1 := by rw [IntKind.wrap_i64]; omega
  have hw2 : IntKind.i64.wrap (nx + 1 - 1) = nx := by rw [IntKind.wrap_i64]; omega
  go_enter Try.func12, Try.ntmps12
  go_upto_region 8 with fail
  rw [HW.out]
  clear c0 c1 c2 c3 f0 f1 f2 f3
  go_region
  all_goals
    go_wp2_with fail
    refine (C.out _).mono ?_
    rintro e w5 ⟨rfl, rfl⟩
    go_wp2
    go_ret2
    have a1 := A1.out.size
    first
      | exact ⟨rfl, FA.out.1, A1.out.trans FA.out.2 (fun i hi e => by omega)⟩
      | exact ⟨rfl, FB.out.1, A1.out.trans FB.out.2 (fun i hi e => by omega)⟩
      | exact ⟨rfl, FC.out.1, A1.out.trans FC.out.2 (fun i hi e => by omega)⟩
end Go.Proofs.Ytdojphkibgfomaa
