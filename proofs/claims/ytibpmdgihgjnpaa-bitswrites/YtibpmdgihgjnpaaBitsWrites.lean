/-
  BitsWrites: any bits, one behind the other, and what fills up.
-/
import Derived.Test.YtibpmdgihgjnpaaRows
import Derived.WalkKit
import Derived.ProofKit
import Derived.OpenShut
import Derived.ShutString
import Derived.ChangeOld
import Derived.Below
import Derived.Deep.Slices
import Derived.Test.YtibpmdgihgjnpaaBiS
import Derived.Test.YtibpmdgihgjnpaaBiZ
namespace Go.Proofs.Ytibpmdgihgjnpaa.bitsWrites
open Go.ChangeShapes Go.WideShapes Go.ChangeAt Go.RowKit
open Go.ChangeMaps (open_string shut_string)
set_option linter.unusedVariables false

theorem own : ownKnob Try.prog.godebug = none := by kernel_rfl
theorem laidOut : laidOutB Try.prog = true := by kernel_rfl

theorem open0 {H : Type} {enc : TypeId × Value → H} {W : World} {a : Option Addr} {len cap : Nat} {d : DataW H} {p : List MemPlace}
    (h : DataW.Trod enc Try.prog W 0 (fun _ => true) true 32 (.slice a len cap) d p) : StepsAt W a len := open_steps h
/-- The first one's row is none of the second one's blocks. -/
def Dis (v1 v2 : Value) (qb : Nat) : Prop := ∀ x, v1.ownBlock = some x → x ≠ qb ∧ v2.ownBlock ≠ some x
theorem pair1 {T1 T2 : TypeId} {w w' : World} {wb qb : Nat} {v1 v1' v2 : Value} {l1 l2 : List Bool} (h2 : Wr T2 w qb v2 l2) (hd : Dis v1 v2 qb) (hne : wb < qb) (t : Tch wb v1 v1' w w') : Wr T2 w' qb v2 l2 ∧ Dis v1' v2 qb := by
  refine ⟨h2.kept t.ap ?_ ?_, ?_⟩
  · rintro (e | e)
    · omega
    · exact (hd qb e).1 rfl
  · intro k hk
    rintro (e | e)
    · have := h2.ownlt k hk; omega
    · exact (hd k e).2 hk
  · intro x hx
    rcases t.own x hx with e | e
    · exact hd x e
    · have := h2.lt
      exact ⟨by omega, fun hk => by have := h2.ownlt x hk; omega⟩
theorem pair2 {T1 T2 : TypeId} {w w' : World} {wb qb : Nat} {v1 v2 v2' : Value} {l1 l2 : List Bool} (h1 : Wr T1 w wb v1 l1) (h2 : Wr T2 w qb v2 l2) (hd : Dis v1 v2 qb) (hne : wb < qb) (t : Tch qb v2 v2' w w') : Wr T1 w' wb v1 l1 ∧ Dis v1 v2' qb := by
  refine ⟨h1.kept t.ap ?_ ?_, ?_⟩
  · rintro (e | e)
    · omega
    · have := h2.ownlt wb e; omega
  · intro k hk
    rintro (e | e)
    · exact (hd k hk).1 e
    · exact (hd k hk).2 e
  · intro x hx
    refine ⟨(hd x hx).1, fun hk => ?_⟩
    rcases t.own x hk with e | e
    · exact (hd x hx).2 e
    · have := h1.ownlt x hx; omega
theorem wr_alloc {T : TypeId} {w : World} {b : Nat} {v : Value} {l : List Bool} (h : Wr T w b v l) (o : Obj) : Wr T (w.alloc o) b v l := h.kept ((Apart.refl (fun _ => False) w).alloc o) (fun h => h) (fun _ _ h => h)
set_option maxRecDepth 100000 in
set_option maxHeartbeats 2000000 in
theorem walk (a0 : Option Addr) (len0 cap0 : Nat) (w : World) (w0 : StepsAt w a0 len0) :
    Calls Try.prog 4 #[.slice a0 len0 cap0] w fun e w' => e = .returned (.bool true) ∧ Below w.heap.size w w' := by
  obtain ⟨hm, K, V, N, hrow⟩ := w0
  unfold maxLen at hm
  have hlen : (len0 : Int) ≤ 9223372036854775807 := by omega
  have HROW := mkHid hrow
  clear hrow hm
  go_enter Try.func4, Try.ntmps4
  go_wp2_with fail
  refine (write_any _).mono ?_
  rintro e w1 ⟨rfl, h1, p1, s1⟩
  have H1 := mkHid h1
  have B1 := mkHid (p1.belowF w.heap.size (Nat.le_refl _))
  clear h1 p1
  go_wp2_with fail
  refine (rwrite_any _).mono ?_
  rintro e w2 ⟨rfl, h2, p2, s2⟩
  have H2 := mkHid h2
  have HX := mkHid (H1.out.kept p2 (fun h => h) (fun _ _ h => h))
  have B2 := mkHid (B1.out.trans (p2.belowF w.heap.size (by omega)))
  obtain ⟨wb, hrb⟩ : ∃ rb, w.heap.size = rb := ⟨_, rfl⟩
  obtain ⟨qb, hqb⟩ : ∃ qb, w1.heap.size = qb := ⟨_, rfl⟩
  have hne : wb < qb := by omega
  have z2 : wb ≤ w2.heap.size := by omega
  rw [hrb, hqb]
  rw [hrb] at HX B2
  rw [hqb] at H2
  have HRB := mkHid hrb
  clear h2 p2 H1 B1 s1 s2 hrb hqb
  go_wp2_with fail
  go_loopw [5] (fun i wr => ∃ k : Nat, k ≤ len0 ∧ k ≤ 300 ∧ i = .int .i64 (k : Int) ∧ Below wb w wr ∧ ∃ v1 v2 l, Wr 55 wr wb v1 l ∧ Wr 57 wr qb v2 l ∧ Dis v1 v2 qb) (fun i _ => 300 - (intOf i).toNat)
  case atStart => exact ⟨0, Nat.zero_le _, by omega, rfl, B2.out, _, _, _, HX.out, H2.out, fun x hx => by simp [Value.ownBlock] at hx⟩
  case round =>
    clear H2 HX B2 z2
    obtain ⟨k, hk, hk3, rfl, hb, v1, v2, l, hx, hy, hd⟩ := hrel
    have HX := mkHid hx
    have HY := mkHid hy
    have HD := mkHid hd
    have HB := mkHid hb
    have zr : wb ≤ wr.heap.size := by have := hb.size; rw [HRB.out] at this; exact this
    by_cases hlt : k < len0 ∧ k < 300
    · obtain ⟨hl1, hl2⟩ := hlt
      rcases HROW.out with h0 | ⟨b, off, rfl, hbl, hrows⟩
      · omega
      obtain ⟨c0, c1, c2, x0, x1⟩ := hrows k hl1
      rw [HRB.out] at hbl
      have d0 := (hb.cell (p := ⟨b, off + k * 3, none⟩) hbl).trans c0
      have d1 := (hb.cell (p := ⟨b, off + k * 3 + 1, none⟩) hbl).trans c1
      have d2 := (hb.cell (p := ⟨b, off + k * 3 + 2, none⟩) hbl).trans c2
      clear hx hy hd hb c0 c1 c2 hrows
      generalize K k = kk at *
      generalize V k = xx at *
      generalize N k = nn at *
      have hxl := HX.out.lt
      have hyl := HY.out.lt
      have HA1 := mkHid (wr_alloc HX.out (.cells #[.int .i64 kk, .int .u32 xx, .int .i64 nn] 38))
      have HA2 := mkHid (wr_alloc HY.out (.cells #[.int .i64 kk, .int .u32 xx, .int .i64 nn] 38))
      have HAB := mkHid (HB.out.alloc zr (.cells #[.int .i64 kk, .int .u32 xx, .int .i64 nn] 38))
      have HXB := mkHid (fun x => fun hx => (HX.out.ownlt x hx).2)
      have HNEW := mkHid (heap_alloc_new wr (.cells #[.int .i64 kk, .int .u32 xx, .int .i64 nn] 38))
      have hm2 : kk.tmod 2 = 0 ∨ ¬ kk.tmod 2 = 0 := by omega
      rcases hm2 with hm2 | hm2
      · go_wp2_with fail
        refine (put_any wb v1 l xx nn x0 x1 _ HA1.out).mono ?_
        rintro e w3 ⟨rfl, v3, h3, t3⟩
        obtain ⟨y3, d3⟩ := pair1 (T1 := 55) (l1 := l) HA2.out HD.out hne t3
        have n3 := t3.ap.heap HNEW.out (by rintro (e | e); · omega
                                           · have := HXB.out _ e; omega)
        obtain ⟨c0, c1, c2, f0, f1, f2⟩ := cells3 n3
        have B3 := mkHid (HAB.out.trans (t3.below HA1.out wb (Nat.le_refl _)))
        have H3 := mkHid h3
        have Y3 := mkHid y3
        have D3 := mkHid d3
        clear h3 t3 y3 d3 n3
        go_wp2_with fail
        refine (rput_any qb v2 l xx nn x0 x1 _ Y3.out).mono ?_
        rintro e w4 ⟨rfl, v4, h4, t4⟩
        obtain ⟨y4, d4⟩ := pair2 H3.out Y3.out D3.out hne t4
        have B4 := mkHid (B3.out.trans (t4.below Y3.out wb (by omega)))
        have H4 := mkHid h4
        have Y4 := mkHid y4
        have D4 := mkHid d4
        clear h4 t4 y4 d4 c0 c1 c2 f0 f1 f2
        go_wp2_with fail
        refine (text_any wb v3 _ _ Y4.out).mono ?_
        rintro e w5 ⟨rfl, rfl⟩
        go_wp2_with fail
        refine (rtext_any qb v4 _ _ H4.out).mono ?_
        rintro e w5 ⟨rfl, rfl⟩
        go_wp2
        go_roundw
        case rel => exact ⟨k + 1, by omega, by omega, by go_num, B4.out, v3, v4, _, Y4.out, H4.out, D4.out⟩
        case measure => simp [intOf]; omega
      · have hm3 : (kk.tmod 2 == 0) = false := by simpa using hm2
        go_wp2_with fail
        refine (align_any wb v1 l nn _ HA1.out).mono ?_
        rintro e w3 ⟨rfl, v3, h3, t3⟩
        obtain ⟨y3, d3⟩ := pair1 (T1 := 55) (l1 := l) HA2.out HD.out hne t3
        have n3 := t3.ap.heap HNEW.out (by rintro (e | e); · omega
                                           · have := HXB.out _ e; omega)
        obtain ⟨c0, c1, c2, f0, f1, f2⟩ := cells3 n3
        have B3 := mkHid (HAB.out.trans (t3.below HA1.out wb (Nat.le_refl _)))
        have H3 := mkHid h3
        have Y3 := mkHid y3
        have D3 := mkHid d3
        clear h3 t3 y3 d3 n3
        go_wp2_with fail
        refine (ralign_any qb v2 l nn _ Y3.out).mono ?_
        rintro e w4 ⟨rfl, v4, h4, t4⟩
        obtain ⟨y4, d4⟩ := pair2 H3.out Y3.out D3.out hne t4
        have B4 := mkHid (B3.out.trans (t4.below Y3.out wb (by omega)))
        have H4 := mkHid h4
        have Y4 := mkHid y4
        have D4 := mkHid d4
        clear h4 t4 y4 d4 c0 c1 c2 f0 f1 f2
        go_wp2_with fail
        refine (text_any wb v3 _ _ Y4.out).mono ?_
        rintro e w5 ⟨rfl, rfl⟩
        go_wp2_with fail
        refine (rtext_any qb v4 _ _ H4.out).mono ?_
        rintro e w5 ⟨rfl, rfl⟩
        go_wp2
        go_roundw
        case rel => exact ⟨k + 1, by omega, by omega, by go_num, B4.out, v3, v4, _, Y4.out, H4.out, D4.out⟩
        case measure => simp [intOf]; omega
    · have hlt' : ¬ ((k : Int) < len0 ∧ (k : Int) < 300) := by omega
      clear hx hy hd hb hlt
      go_wp2_with fail
      all_goals
        refine (wakes_any _).mono ?_
        rintro e w3 ⟨rfl, hb3⟩
        go_wp2
        go_ret
        exact ⟨rfl, by rw [HRB.out]; exact HB.out.trans (hb3.mono zr)⟩

set_option maxRecDepth 100000 in
theorem lifted (os : Os) (started : os.Started) (H : Type) (enc : TypeId × Value → H) :
    ReturnsInHanded {} Try.checked os 4 .any (Rows.bitsWritesSpec.pre6 enc Try.prog Try.f4 Rows.bitsWritesRow.domain false) (Rows.bitsWritesSpec.post enc Try.prog Try.f4 false true false false) := by
  refine returnsInHanded_of_change (C := Try.checked) own started (by kernel_rfl) Try.func4
    (ChangeSpec.witness6 (enc := enc) (C := Try.checked) false ⟨#[], #[.slice none 0 0], []⟩ 8 (by kernel_rfl) (by kernel_rfl) (by kernel_rfl) (by kernel_rfl)) ?_
  intro W base args ds gs before hval0 hW hcnd _
  have hval : ∀ (j : Nat) t v, Try.f4.params[j]? = some t → args[j]? = some v → Value.okWide Try.prog W .any base t v := hval0
  have hW' := hW
  obtain ⟨p, q, hA0, hV, rfl, hfz, hnd⟩ := hW
  have hA : DataW.TrodAll enc Try.prog W 0 (fun _ => true) true Try.f4.params.toList args.toList ds p := hA0
  rw [Try.params4] at hA hval
  obtain ⟨v0, vs0, d0, ds0, p0, q0, hargs, rfl, rfl, h0, r0⟩ := trodAll_cons hA
  obtain ⟨rfl, rfl, rfl⟩ := trodAll_nil r0
  obtain rfl : args = #[v0] := by cases args; simp_all
  obtain ⟨rfl, rfl⟩ := trodVars_none hV
  obtain ⟨a0, len0, cap0, rfl⟩ := okWide_slice Try.underlying32 (hval 0 32 v0 rfl rfl)
  have k0 := h0
  have lt0 : ∀ x ∈ p0, x.block < W.heap.size := by obtain ⟨m, hm⟩ := k0; exact DataW.trod_lt m _ _ _ hm
  have w0 := open0 h0
  clear hA0 hval0
  refine (walk a0 len0 cap0 W w0).mono fun e W' ⟨he, bel⟩ => ?_
  subst he
  exact ⟨_, rfl, _, _, _, [], _, [], hW', trodAll_mk1 (shut_bool Try.underlying4 _), (trodAll_cons_mk (Below.trod laidOut (by kernel_rfl) (of_decide_eq_true (by kernel_rfl)) k0 bel lt0) trodAll_mk0), rfl, bel.frame _, fun h => by cases h⟩

theorem over : Rows.bitsWritesRow.holds Try.pinned (OpenSpec.ofChange Rows.bitsWritesSpec) :=
  OpenClaim.holds_of_wide 4 Try.f4 rfl rfl rfl rfl rfl rfl rfl ⟨rfl, rfl, rfl, rfl, rfl⟩ rfl rfl rfl rfl rfl (by kernel_rfl) Try.func4 (by kernel_rfl)
    (of_decide_eq_true (by kernel_rfl)) (by unfold Func.isWrapper; first | (rw [if_pos (by decide +kernel)]; kernel_rfl) | (rw [if_neg (by decide +kernel)]; exact ⟨rfl, rfl⟩))
    (fun os started H enc _ => lifted os started H enc)
end Go.Proofs.Ytibpmdgihgjnpaa.bitsWrites
namespace Go.Proofs.Ytibpmdgihgjnpaa
/-- The statement. -/
theorem bitsWrites_holds : Rows.BitsWritesSaid := bitsWrites.over
#print axioms bitsWrites_holds
end Go.Proofs.Ytibpmdgihgjnpaa
