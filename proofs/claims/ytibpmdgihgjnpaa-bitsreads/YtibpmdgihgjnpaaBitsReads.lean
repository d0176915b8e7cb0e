/-
  BitsReads: bits of any text, by any numbers of them.
-/
import Derived.Test.YtibpmdgihgjnpaaRows
import Derived.WalkKit
import Derived.ProofKit
import Derived.OpenShut
import Derived.ShutString
import Derived.ChangeOld
import Derived.Below
import Derived.Test.YtibpmdgihgjnpaaBiK
import Derived.Test.YtibpmdgihgjnpaaBiQ
import Derived.Deep.RegionHeld3
namespace Go.Proofs.Ytibpmdgihgjnpaa.bitsReads
open Go.ChangeShapes Go.WideShapes Go.ChangeAt Go.RowKit
open Go.ChangeMaps (open_string shut_string)
set_option linter.unusedVariables false

theorem own : ownKnob Try.prog.godebug = none := by kernel_rfl
theorem laidOut : laidOutB Try.prog = true := by kernel_rfl

/-- A slice of integers that came in: nil, or a row of cap cells that hold zs; the first len are its elements. -/
def IsRow (k : IntKind) (w : World) (a : Option Addr) (len cap : Nat) (zs : List Int) : Prop :=
  (a = none ∧ len = 0 ∧ cap = 0 ∧ zs = []) ∨
  ∃ x, a = some x ∧ len ≤ cap ∧ cap ≤ maxLen ∧ zs.length = cap ∧ (∀ i, i < zs.length → w.cell? (x.add i) = some (.int k (zs.getD i 0))) ∧ ∀ n ∈ zs, (Lit.int k n).wf = true

theorem held0 {w0 w : World} {B : Nat} {p : Addr} {v : Value} (hc : w0.cell? p = some v) (hp : p.block < B) (hb : Below B w0 w) : w.cell? p = some v ∧ Below B w0 w := ⟨(hb.cell hp).trans hc, hb⟩
theorem rd_drew {T : TypeId} {w : World} {b : Nat} {s : ByteArray} {st : Option Nat} (h : Rd T w b s st) : Rd T w.drew b s st := drew_rd 1 h
theorem row_at {w : World} {a : Option Addr} {len cap : Nat} {zs : List Int} (h : IsRow .i64 w a len cap zs) (k : Nat) (hk : k < len) :
    ∃ b off z, a = some ⟨b, off, none⟩ ∧ b < w.heap.size ∧ w.cell? ⟨b, off + k, none⟩ = some (.int .i64 z) := by
  rcases h with ⟨rfl, rfl, rfl, rfl⟩ | ⟨x, rfl, hl, hm, hz, hc, hw⟩
  · omega
  · obtain ⟨b, off, rfl, h⟩ := ints_at hc (by omega)
    exact ⟨b, off, _, rfl, World.block_lt_of_cell? w _ (h k (by omega)), h k (by omega)⟩
set_option maxRecDepth 100000 in
set_option maxHeartbeats 2000000 in
theorem walk (a0 : ByteArray) (a1 : Option Addr) (len1 cap1 : Nat) (z1 : List Int) (w : World) (w0 : a0.size ≤ maxLen) (w1 : IsRow .i64 w a1 len1 cap1 z1) :
    Calls Try.prog 3 #[.string a0, .slice a1 len1 cap1] w fun e w' => e = .returned (.bool true) ∧ Below w.heap.size w w' := by
  unfold maxLen at w0
  have hlen : (len1 : Int) ≤ 9223372036854775807 := by
    rcases w1 with ⟨_, h, _⟩ | ⟨_, _, h1, h2, _⟩
    · omega
    · unfold maxLen at h2; omega
  by_cases hs : 70000 < a0.size
  · clear w1
    go_enter Try.func3, Try.ntmps3
    go_wp2_with fail
    refine (wakes_any _).mono ?_
    rintro e w2 ⟨rfl, hb⟩
    go_wp2
    go_ret
    exact ⟨rfl, hb⟩
  · have hs1 : a0.size ≤ 1000000 := by omega
    have HROW := mkHid w1
    clear w1
    go_enter Try.func3, Try.ntmps3
    go_wp2_with fail
    refine (read_any _ _).mono ?_
    rintro e w1 ⟨rfl, h1, p1, s1⟩
    have H1 := mkHid h1
    have B1 := mkHid (p1.belowF w.heap.size (Nat.le_refl _))
    clear h1 p1
    go_wp2_with fail
    refine (rread_any _ _).mono ?_
    rintro e w2 ⟨rfl, h2, p2, s2⟩
    have H2 := mkHid h2
    have HX := mkHid (H1.out.kept p2 (fun h => h))
    have B2 := mkHid (B1.out.trans (p2.belowF w.heap.size (by omega)))
    obtain ⟨rb, hrb⟩ : ∃ rb, w.heap.size = rb := ⟨_, rfl⟩
    obtain ⟨qb, hqb⟩ : ∃ qb, w1.heap.size = qb := ⟨_, rfl⟩
    have hne : rb < qb := by omega
    have z2 : rb ≤ w2.heap.size := by omega
    rw [hrb, hqb]
    rw [hrb] at HX B2
    rw [hqb] at H2
    have HRB := mkHid hrb
    clear h2 p2 H1 B1 s1 s2 hrb hqb
    go_wp2_with fail
    go_loopw [7] (fun i wr => ∃ k : Nat, k ≤ len1 ∧ k ≤ 300 ∧ i = .int .i64 (k : Int) ∧ Below rb w wr ∧ ∃ st, Rd 48 wr rb a0 st ∧ Rd 50 wr qb a0 st) (fun i _ => 300 - (intOf i).toNat)
    case atStart => exact ⟨0, Nat.zero_le _, by omega, rfl, B2.out, _, HX.out, H2.out⟩
    case round =>
      clear H2 HX B2 z2
      obtain ⟨k, hk, hk3, rfl, hb, st, hx, hy⟩ := hrel
      have HX := mkHid hx
      have HY := mkHid hy
      clear hx hy
      have zr : rb ≤ wr.heap.size := by have := hb.size; rw [HRB.out] at this; exact this
      by_cases hlt : k < len1 ∧ k < 300
      · obtain ⟨hl1, hl2⟩ := hlt
        obtain ⟨b, off, z, rfl, hbl, hc⟩ := row_at HROW.out k hl1
        rw [HRB.out] at hbl
        have HC := mkHid hc
        have HS0 := mkHid (held0 (p := ⟨b, off + k, none⟩) hc hbl hb)
        have hcc := HS0.out.1
        clear hc
        go_wp2_with fail
        go_region_held3 (fun w' => w'.cell? { block := b, off := off + k } = some (.int .i64 z) ∧ Below rb w w')
          (first | exact HS0.out | exact held0 HC.out hbl (by assumption) | exact held0 HC.out hbl (Below.drew (by assumption)))
          (first
            | (go_at_call 12; refine (get_any rb a0 hs1 st z _ (by first | exact HX.out | exact rd_drew HX.out)).mono ?_; rintro e w3 ⟨rfl, h3, p3⟩; have H3 := mkHid h3; have HY3 := mkHid (Rd.kept (rd_drew HY.out) p3 (by omega)); have b3 := (Below.drew hb).trans (p3.belowE rb zr (Nat.le_refl _)); clear h3 p3)
            | (go_at_call 13; refine (rget_any qb a0 hs1 st z _ HY3.out).mono ?_; rintro e w4 ⟨rfl, h4, p4⟩; have H4 := mkHid h4; have HX4 := mkHid (Rd.kept H3.out p4 (by omega)); have b4 := b3.trans (p4.belowE rb (by have := b3.size; rw [HRB.out] at this; exact this) (by omega)); clear h4 p4)
            | (go_at_call 14; refine (left_any rb a0 hs1 _ _ HX4.out).mono ?_; rintro e w5 ⟨rfl, n5, rfl⟩; have b5 : Below rb w (w4.drewN n5) := ⟨b4.os, b4.tape, b4.output, b4.size, b4.block⟩)
            | (go_at_call 15; refine (rleft_any qb a0 hs1 _ _ (drew_rd n5 H4.out)).mono ?_; rintro e w6 ⟨rfl, n6, rfl⟩; have b6 : Below rb w (w4.drewN (n5 + n6)) := ⟨b4.os, b4.tape, b4.output, b4.size, b4.block⟩)
            | (go_at_call 16; refine (bad_any rb a0 _ _ (by first | exact drew_rd n6 (drew_rd n5 HX4.out) | exact drew_rd (n5 + n6) HX4.out)).mono ?_; rintro e w7 ⟨rfl, rfl⟩)
            | (go_at_call 17; refine (rbad_any qb a0 _ _ (by first | exact drew_rd n6 (drew_rd n5 H4.out) | exact drew_rd (n5 + n6) H4.out)).mono ?_; rintro e w8 ⟨rfl, rfl⟩))
        go_wp2
        go_roundw
        case rel => exact ⟨k + 1, by omega, by omega, by go_num, b6, _, drew_rd (n5 + n6) HX4.out, drew_rd (n5 + n6) H4.out⟩
        case measure => simp [intOf]; omega
      · have hlt' : ¬ ((k : Int) < len1 ∧ (k : Int) < 300) := by omega
        have HLT := mkHid hb
        clear hb hlt
        go_wp2_with fail
        all_goals
          refine (wakes_any _).mono ?_
          rintro e w3 ⟨rfl, hb3⟩
          go_wp2
          go_ret
          exact ⟨rfl, by rw [HRB.out]; exact HLT.out.trans (hb3.mono zr)⟩

set_option maxRecDepth 100000 in
theorem lifted (os : Os) (started : os.Started) (H : Type) (enc : TypeId × Value → H) :
    ReturnsInHanded {} Try.checked os 3 .any (Rows.bitsReadsSpec.pre6 enc Try.prog Try.f3 Rows.bitsReadsRow.domain false) (Rows.bitsReadsSpec.post enc Try.prog Try.f3 false true false false) := by
  refine returnsInHanded_of_change (C := Try.checked) own started (by kernel_rfl) Try.func3
    (ChangeSpec.witness6 (enc := enc) (C := Try.checked) false ⟨#[], #[.string ByteArray.empty, .slice none 0 0], []⟩ 8 (by kernel_rfl) (by kernel_rfl) (by kernel_rfl) (by kernel_rfl)) ?_
  intro W base args ds gs before hval0 hW hcnd _
  have hval : ∀ (j : Nat) t v, Try.f3.params[j]? = some t → args[j]? = some v → Value.okWide Try.prog W .any base t v := hval0
  have hW' := hW
  obtain ⟨p, q, hA0, hV, rfl, hfz, hnd⟩ := hW
  have hA : DataW.TrodAll enc Try.prog W 0 (fun _ => true) true Try.f3.params.toList args.toList ds p := hA0
  rw [Try.params3] at hA hval
  obtain ⟨v0, vs0, d0, ds0, p0, q0, hargs, rfl, rfl, h0, r0⟩ := trodAll_cons hA
  obtain ⟨v1, vs1, d1, ds1, p1, q1, rfl, rfl, rfl, h1, r1⟩ := trodAll_cons r0
  obtain ⟨rfl, rfl, rfl⟩ := trodAll_nil r1
  obtain rfl : args = #[v0, v1] := by cases args; simp_all
  obtain ⟨rfl, rfl⟩ := trodVars_none hV
  obtain ⟨a0, rfl, rfl, rfl, w0⟩ := open_string Try.underlying9 (hval 0 9 v0 rfl rfl) h0
  obtain ⟨a1, len1, cap1, rfl⟩ := okWide_slice Try.underlying22 (hval 1 22 v1 rfl rfl)
  have k1 := h1
  have lt1 : ∀ x ∈ p1, x.block < W.heap.size := by obtain ⟨m, hm⟩ := k1; exact DataW.trod_lt m _ _ _ hm
  obtain ⟨z1, w1⟩ : ∃ zs, IsRow .i64 W a1 len1 cap1 zs := by
    obtain ⟨fuel, hf⟩ := h1
    rcases open_ints Try.underlying22 Try.underlying3 (by kernel_rfl) hf with ⟨hcs, _⟩ | ⟨x, l, c, zs, hcs, _, hl, hm, hz, _, hcell, hwz⟩
    · simp [Value.cells] at hcs
      obtain ⟨rfl, rfl, rfl⟩ := hcs
      exact ⟨[], .inl ⟨rfl, rfl, rfl, rfl⟩⟩
    · simp [Value.cells] at hcs
      obtain ⟨rfl, rfl, rfl⟩ := hcs
      exact ⟨zs, .inr ⟨_, rfl, hl, hm, by simpa using hz, hcell, hwz⟩⟩
  clear hA0 hval0
  refine (walk a0 a1 len1 cap1 z1 W w0 w1).mono fun e W' ⟨he, bel⟩ => ?_
  subst he
  exact ⟨_, rfl, _, _, _, [], _, [], hW', trodAll_mk1 (shut_bool Try.underlying4 _), (trodAll_cons_mk (shut_string Try.underlying9 w0) (trodAll_cons_mk (Below.trod laidOut (by kernel_rfl) (of_decide_eq_true (by kernel_rfl)) k1 bel lt1) trodAll_mk0)), rfl, bel.frame _, fun h => by cases h⟩

theorem over : Rows.bitsReadsRow.holds Try.pinned (OpenSpec.ofChange Rows.bitsReadsSpec) :=
  OpenClaim.holds_of_wide 3 Try.f3 rfl rfl rfl rfl rfl rfl rfl ⟨rfl, rfl, rfl, rfl, rfl⟩ rfl rfl rfl rfl rfl (by kernel_rfl) Try.func3 (by kernel_rfl)
    (of_decide_eq_true (by kernel_rfl)) (by unfold Func.isWrapper; first | (rw [if_pos (by decide +kernel)]; kernel_rfl) | (rw [if_neg (by decide +kernel)]; exact ⟨rfl, rfl⟩))
    (fun os started H enc _ => lifted os started H enc)
end Go.Proofs.Ytibpmdgihgjnpaa.bitsReads
namespace Go.Proofs.Ytibpmdgihgjnpaa
/-- The statement. -/
theorem bitsReads_holds : Rows.BitsReadsSaid := bitsReads.over
#print axioms bitsReads_holds
end Go.Proofs.Ytibpmdgihgjnpaa
