/-
  What the function that reads extensions hands back.
-/
import Derived.Test.YtdajcgicpfpeoaaRtT
import Derived.Test.YtdajcgicpfpeoaaRtF
import Derived.Deep.AppendLies
namespace Go.Proofs.Ytdajcgicpfpeoaa
open Go.RowKit

/-- Extensions that were read: numbers and data. -/
abbrev Ex := List (Nat × ByteArray)
/-- May this number stand behind these? -/
abbrev fresh (acc : Ex) (id : Nat) : Prop := (1 ≤ id ∧ id ≤ 14) ∧ ∀ x ∈ acc, x.1 ≠ id
/-- What is read from place p on, where so many bytes are left: the error, the extensions. -/
def xrun (s : ByteArray) : Nat → Nat → Nat → Ex → Int × Ex
  | 0, _, _, _ => (71, [])
  | k + 1, p, left, acc =>
    if left = 0 then (0, acc)
    else if ¬ p + 8 ≤ 8 * s.size then (60, [])
    else if gv s p 4 = 0 ∧ gv s (p + 4) 4 = 0 then xrun s k (p + 8) (left - 1) acc
    else if left - 1 < gv s (p + 4) 4 + 1 ∨ ¬ fresh acc (gv s p 4) then (71, [])
    else if ¬ p + 8 + 8 * (gv s (p + 4) 4 + 1) ≤ 8 * s.size then (60, [])
    else xrun s k (p + 8 + 8 * (gv s (p + 4) 4 + 1)) (left - 1 - (gv s (p + 4) 4 + 1)) (acc ++ [(gv s p 4, txS s (p + 8) (gv s (p + 4) 4 + 1))])
/-- The cells of extensions. -/
def xcells (acc : Ex) : List Value := acc.flatMap fun x => [.int .i64 (x.1 : Int), .string x.2]
theorem xcells_app (acc : Ex) (x : Nat × ByteArray) : xcells (acc ++ [x]) = xcells acc ++ [.int .i64 (x.1 : Int), .string x.2] := by simp [xcells]
/-- Just the numbers of these were seen. -/
def SeenX (f : Nat → Bool) (acc : Ex) : Prop := ∀ i : Nat, f i = true ↔ ∃ x ∈ acc, x.1 = i
theorem seenX_none : SeenX (fun _ => false) [] := fun i => by simp
theorem seenX_next {f : Nat → Bool} {acc : Ex} {q : Nat} (d : ByteArray) (h : SeenX f acc) : SeenX (upd f q) (acc ++ [(q, d)]) := by
  intro i
  unfold upd
  by_cases e : i = q
  · subst e; simp
  · rw [if_neg e, h i]
    have e' : ¬ q = i := fun x => e x.symm
    simp [e']
theorem fresh_of {f : Nat → Bool} {acc : Ex} {q : Nat} (h : SeenX f acc) (h1 : 1 ≤ q) (h2 : q ≤ 14) (hf : f q = false) : fresh acc q := by
  refine ⟨⟨h1, h2⟩, fun x hx e => ?_⟩
  have := (h q).2 ⟨x, hx, e⟩
  rw [hf] at this; cases this
theorem not_fresh {f : Nat → Bool} {acc : Ex} {q : Nat} (h : SeenX f acc) (hf : f q = true) : ¬ fresh acc q := by
  obtain ⟨x, hx, e⟩ := (h q).1 hf
  exact fun k => k.2 x hx e
theorem info47 : (Try.prog.info? 47).map (fun i => (i.zero, i.size, i.bytes)) = some (some (.agg #[.int .i64 0, .string ⟨#[]⟩]), 2, 24) := by kernel_rfl
theorem ownsRow_apart {w w' : World} {X : Nat → Prop} {base : Nat} {e : TypeId} {size : Nat} {v : Value} {n : Nat} {xs : List Value} (h : w.ownsRow base e size v n xs) (ha : Apart X w w') (hx : ∀ k, base ≤ k → ¬ X k) : w'.ownsRow base e size v n xs := by
  refine ⟨h.1, ?_⟩
  rcases h.2 with hn | ⟨g, cap, cur, rfl, hg, hh, r⟩
  · exact .inl hn
  · exact .inr ⟨g, cap, cur, rfl, hg, ha.heap hh (hx g hg), r⟩
theorem frame61 (a : Act) (hs : a.tmps.size = 61) (hd : a.defers = []) : ∃ u : Nat → Value, (∀ i, a.tmps.getD i undef = u i) ∧ a = { tmps := #[u 0, u 1, u 2, u 3, u 4, u 5, u 6, u 7, u 8, u 9, u 10, u 11, u 12, u 13, u 14, u 15, u 16, u 17, u 18, u 19, u 20, u 21, u 22, u 23, u 24, u 25, u 26, u 27, u 28, u 29, u 30, u 31, u 32, u 33, u 34, u 35, u 36, u 37, u 38, u 39, u 40, u 41, u 42, u 43, u 44, u 45, u 46, u 47, u 48, u 49, u 50, u 51, u 52, u 53, u 54, u 55, u 56, u 57, u 58, u 59, u 60], defers := [] } := frame_of a 61 hs hd
theorem exts_bad (b : Nat) (s : ByteArray) (hs : s.size ≤ 1000000) (p : Nat) (hr : roomE s p ≠ 0) (w : World) (h : Rd 78 w b s (At s p)) :
    Calls Try.prog 43 #[.pointer (some ⟨b, 0, none⟩)] w fun e w' => e = .returned (.tuple #[.slice none 0 0, .int .i64 (roomE s p)]) ∧ Apart (· = b) w w' := by
  have R := mkHid (room_bad b s hs p hr w h)
  generalize roomE s p = e at *
  clear h
  go_enter Try.func43, Try.ntmps43
  go_wp2
  go_step3
  go_wp2_with fail
  refine (R.out).mono ?_
  rintro e w1 ⟨rfl, p1⟩
  have P1 := mkHid p1
  clear p1
  go_wp2
  rw [Exit.noGoto_ret]
  go_ret2
  exact ⟨rfl, P1.out⟩
/-- What getExts leaves behind. -/
def ExtsPost (b : Nat) (s : ByteArray) (pe : Nat) (R : Int × Ex) (w : World) (e : Ending) (w' : World) : Prop :=
  Apart (· = b) w w' ∧ ((R.1 ≠ 0 ∧ e = .returned (.tuple #[.slice none 0 0, .int .i64 R.1])) ∨
    (R.1 = 0 ∧ ∃ v, e = .returned (.tuple #[v, .int .i64 0]) ∧ w'.ownsRow w.heap.size 47 2 v R.2.length (xcells R.2) ∧ Rd 78 w' b s (At s pe)))
theorem ownsRow_base {w : World} {base base' : Nat} {e : TypeId} {size : Nat} {v : Value} {n : Nat} {xs : List Value} (h : w.ownsRow base e size v n xs) (hb : base' ≤ base) : w.ownsRow base' e size v n xs := by
  refine ⟨h.1, ?_⟩
  rcases h.2 with hn | ⟨g, cap, cur, rfl, hg, hh, r⟩
  · exact .inl hn
  · exact .inr ⟨g, cap, cur, rfl, by omega, hh, r⟩
theorem Seen.kept {w w' : World} {sb : Nat} {f : Nat → Bool} {X : Nat → Prop} (h : Seen w sb f) (ha : Apart X w w') (hx : ¬ X sb) : Seen w' sb f := ha.heap h hx
set_option maxRecDepth 100000 in
set_option maxHeartbeats 4000000 in
theorem exts_ok (b : Nat) (s : ByteArray) (hs : s.size ≤ 1000000) (p : Nat) (hr : roomE s p = 0) (R : Int × Ex) (hR : xrun s (4 * gv s (p + 16) 16 + 1) (p + 32) (4 * gv s (p + 16) 16) [] = R) (w : World) (h : Rd 78 w b s (At s p)) :
    Calls Try.prog 43 #[.pointer (some ⟨b, 0, none⟩)] w (ExtsPost b s (p + 32 + 8 * (4 * gv s (p + 16) 16)) R w) := by
  have RM := mkHid (room_ok b s hs p hr w h)
  have hW := gv_lt s (p + 16) 16
  generalize gv s (p + 16) 16 = W at *
  have hbl := h.heap
  have HR := mkHid hR
  clear h hr hR
  have hW' : (W : Int) < 65536 := by omega
  go_enter Try.func43, Try.ntmps43
  go_wp2
  refine wp_scope_label 0 (fun a' w' => ∃ (sb k q L : Nat) (acc : Ex) (v : Value) (f : Nat → Bool), (a'.tmps.size = 61 ∧ a'.defers = [] ∧ a'.tmps.getD 0 undef = .pointer (some ⟨b, 0, none⟩) ∧ a'.tmps.getD 2 undef = v ∧ a'.tmps.getD 4 undef = .int .i64 (L : Int) ∧ a'.tmps.getD 5 undef = .pointer (some ⟨sb, 0, none⟩)) ∧ w.heap.size ≤ sb ∧ sb < w'.heap.size ∧ L < k ∧ xrun s k q L acc = R ∧ q + 8 * L = p + 32 + 8 * (4 * W) ∧ acc.length + L ≤ 262140 ∧ SeenX f acc ∧ Seen w' sb f ∧ w'.ownsRow (sb + 1) 47 2 v acc.length (xcells acc) ∧ Rd 78 w' b s (At s q) ∧ Apart (· = b) w w') (fun a' _ => (intOf (a'.tmps.getD 4 undef)).toNat) rfl ?_ ?_
  · intro Q' hh
    have HH := mkHid hh
    clear hh
    go_wp2_with fail
    refine (RM.out).mono ?_
    rintro e w1 ⟨rfl, h1, p1⟩
    have H1 := mkHid h1
    have P1 := mkHid p1
    clear h1 p1
    go_wp2
    go_step3
    refine ‹∀ a w, Code.wp _ _ _ a w → _› _ _ (HH.out _ _ ?_)
    refine ⟨w1.heap.size, 4 * W + 1, p + 32, 4 * W, [], .slice none 0 0, fun _ => false, ⟨rfl, rfl, rfl, rfl, rfl, rfl⟩, P1.out.size, by simp, by omega, HR.out, rfl, by simp; omega, seenX_none, seen_new w1, World.ownsRow_nil _ _ _ _, ?_, P1.out.alloc _⟩
    exact H1.out.kept ((Apart.refl (fun _ => False) _).alloc _) (fun h => h)
  · clear RM HR hW hW'
    rintro a' w' ⟨sb, k, q, L, acc, v, f, ⟨z, d, e0, e2, e4, e5⟩, hsb, hsb2, hk, hR, hq, hL, hsx, hseen, hown, hrd, hap⟩
    obtain ⟨u, hu, ha⟩ := frame61 a' z d
    rw [hu] at e0 e2 e4 e5
    rw [e0, e2, e4, e5] at ha
    clear z d hu e0 e2 e4 e5
    subst ha
    obtain ⟨k, rfl⟩ : ∃ k', k = k' + 1 := ⟨k - 1, by omega⟩
    have HSX := mkHid hsx
    have HSN := mkHid hseen
    have HOW := mkHid hown
    have HRD := mkHid hrd
    have HAP := mkHid hap
    clear hsx hseen hown hrd hap
    by_cases hL0 : L = 0
    · subst hL0
      have hR' : R = (0, acc) := by rw [← hR, xrun, if_pos rfl]
      subst hR'
      have hq' : q = p + 32 + 8 * (4 * W) := by omega
      have HQ := mkHid hq'
      clear hR hq hq'
      go_wp2
      simp only [Exit.jump]
      go_ret2
      refine ⟨HAP.out, .inr ⟨rfl, v, rfl, ownsRow_base HOW.out (by omega), ?_⟩⟩
      rw [← HQ.out]; exact HRD.out
    · obtain ⟨M, rfl⟩ : ∃ M, L = M + 1 := ⟨L - 1, by omega⟩
      rw [xrun, if_neg hL0] at hR
      obtain ⟨lf, HLF⟩ : ∃ lf : Int, Hid (((M + 1 : Nat) : Int) = lf) := ⟨_, rfl⟩
      have hM2 : lf ≤ 262140 := by rw [← HLF.out]; omega
      have hM3 : 1 ≤ lf := by rw [← HLF.out]; omega
      have hM4 : ¬ lf = 0 := by omega
      rw [HLF.out]
      clear hL0
      have HL := mkHid hL
      have HQ := mkHid hq
      clear hL hq
      by_cases h8 : q + 8 ≤ 8 * s.size
      · rw [if_neg (fun h => h h8)] at hR
        have G1 := mkHid (gw_in (show q + 4 ≤ 8 * s.size by omega))
        have G2 := mkHid (gw_in (show q + 4 + 4 ≤ 8 * s.size by omega))
        have hid := gv_lt s q 4
        have hmo := gv_lt s (q + 4) 4
        have B8 := mkHid (badB_no h8)
        generalize gv s q 4 = id at *
        generalize gv s (q + 4) 4 = mo at *
        have HR := mkHid hR
        clear hR
        go_wp2_with fail
        refine (get_at b s hs q _ 4 rfl (by omega) _ HRD.out).mono ?_
        rw [G1.out]
        rintro e w1 ⟨rfl, h1, p1⟩
        have H1 := mkHid h1
        have P1 := mkHid p1
        clear h1 p1
        go_wp2_with fail
        refine (get_at b s hs _ _ 4 rfl (by omega) _ H1.out).mono ?_
        rw [G2.out]
        rintro e w2 ⟨rfl, h2, p2⟩
        have H2 := mkHid h2
        have P2 := mkHid (P1.out.trans p2 (fun _ _ h => h))
        clear h2 p2
        go_wp2_with fail
        refine (bad_at b s _ _ H2.out).mono ?_
        rw [show q + 4 + 4 = q + 8 from by omega, B8.out]
        rintro e w3 ⟨rfl, rfl⟩
        have HP := mkHid (HAP.out.trans P2.out (fun _ _ h => h))
        have SN := mkHid (HSN.out.kept P2.out (by omega))
        have OW := mkHid (ownsRow_apart HOW.out P2.out (by intro k hk e; omega))
        have RD := H2.out
        rw [show q + 4 + 4 = q + 8 from by omega] at RD
        have RD := mkHid RD
        have hz : sb < w3.heap.size := by have := P2.out.size; omega
        clear H1 P1 H2 P2 HRD HSN HOW HAP
        by_cases hz0 : id = 0 ∧ mo = 0
        · obtain ⟨rfl, rfl⟩ := hz0
          have hR := HR.out
          rw [if_pos ⟨rfl, rfl⟩] at hR
          have HR := mkHid hR
          clear hR
          go_wp2
          go_step3
          refine ⟨rfl, ⟨sb, k, q + 8, M, acc, v, f, ⟨rfl, rfl, rfl, rfl, by have := HLF.out; go_num, rfl⟩, hsb, hz, by omega, HR.out, by have := HQ.out; omega, by have := HL.out; omega, HSX.out, SN.out, OW.out, RD.out, HP.out⟩, ?_⟩
          simp [intOf]; omega
        · have hR := HR.out
          rw [if_neg hz0] at hR
          by_cases hc : M < mo + 1 ∨ ¬ fresh acc id
          · rw [if_pos (by simpa using hc)] at hR
            subst hR
            clear HR
            have hsz := HLF.out
            by_cases hgt : M < mo + 1
            · have hg1 : lf - 1 < (mo : Int) + 1 := by omega
              have HC := mkHid hc
              have HLF := mkHid HLF.out
              clear hc hsz hgt
              rcases (by omega : id = 0 ∧ ¬ mo = 0 ∨ ¬ id = 0) with ⟨rfl, hmo0⟩ | hid0
              · clear hz0
                go_wp2
                simp only [Exit.jump]
                go_ret2
                exact ⟨HP.out, .inl ⟨by decide, rfl⟩⟩
              · clear hz0
                go_wp2
                simp only [Exit.jump]
                go_ret2
                exact ⟨HP.out, .inl ⟨by decide, rfl⟩⟩
            · have hg1 : ¬ lf - 1 < (mo : Int) + 1 := by omega
              have hnf : ¬ fresh acc id := by rcases hc with h | h; exact absurd h hgt; exact h
              clear hc hsz hgt
              by_cases hin : 1 ≤ id ∧ id ≤ 14
              · have hft : f id = true := by
                  cases hfi : f id with
                  | true => rfl
                  | false => exact absurd (fresh_of HSX.out hin.1 hin.2 hfi) hnf
                have A := mkHid (add_in sb id f hin.1 hin.2 _ SN.out)
                rw [hft] at A
                have hid0 : ¬ id = 0 := by omega
                clear hz0 hnf hft
                go_wp2_with fail
                refine (A.out).mono ?_
                rintro e w4 ⟨rfl, h4, p4⟩
                have P4 := mkHid p4
                clear h4 p4
                go_wp2
                simp only [Exit.jump]
                go_ret2
                exact ⟨HP.out.trans P4.out (fun i hi e => by omega), .inl ⟨by decide, rfl⟩⟩
              · have A := mkHid (add_out sb (id : Int) (by omega))
                clear hnf
                rcases (by omega : id = 0 ∧ ¬ mo = 0 ∨ ¬ id = 0) with ⟨rfl, hmo0⟩ | hid0
                · clear hz0 hin
                  go_wp2_with fail
                  refine (A.out _).mono ?_
                  rintro e w4 ⟨rfl, rfl⟩
                  go_wp2
                  simp only [Exit.jump]
                  go_ret2
                  exact ⟨HP.out, .inl ⟨by decide, rfl⟩⟩
                · clear hz0 hin
                  go_wp2_with fail
                  refine (A.out _).mono ?_
                  rintro e w4 ⟨rfl, rfl⟩
                  go_wp2
                  simp only [Exit.jump]
                  go_ret2
                  exact ⟨HP.out, .inl ⟨by decide, rfl⟩⟩
          · have hle : mo + 1 ≤ M := by omega
            have hfr : fresh acc id := Decidable.not_not.1 (fun h => hc (.inr h))
            rw [if_neg (by simpa using hc)] at hR
            have hft : f id = false := by
              cases hfi : f id with
              | false => rfl
              | true => exact absurd hfr (not_fresh HSX.out hfi)
            have A := mkHid (add_in sb id f hfr.1.1 hfr.1.2 _ SN.out)
            rw [hft] at A
            have hid0 : ¬ id = 0 := by have := hfr.1.1; omega
            have hg1 : ¬ lf - 1 < (mo : Int) + 1 := by have := HLF.out; omega
            have HR := mkHid hR
            have HLE := mkHid hle
            clear hR hz0 hc hle hfr hft
            go_wp2_with fail
            refine (A.out).mono ?_
            rintro e w4 ⟨rfl, h4, p4⟩
            have SN4 := mkHid h4
            have OW4 := mkHid (ownsRow_apart OW.out p4 (by intro k hk e; omega))
            have RD4 := mkHid (RD.out.kept p4 (by omega))
            have HP4 := mkHid (HP.out.trans p4 (fun i hi e => by omega))
            have hz4 : sb < w4.heap.size := by have := p4.size; omega
            clear h4 p4 SN OW RD HP A
            go_wp2_with fail
            refine (gtext_any b s hs (q + 8) (mo + 1) (by omega) _ RD4.out).mono ?_
            rintro e w5 ⟨rfl, h5, p5⟩
            have SN5 := mkHid (SN4.out.kept p5 (by omega))
            have OW5 := mkHid (ownsRow_apart OW4.out p5 (by intro k hk e; omega))
            have RD5 := mkHid h5
            have HP5 := mkHid (HP4.out.trans p5 (fun i hi e => e))
            have hz5 : sb < w5.heap.size := by have := p5.size; omega
            clear h5 p5 SN4 OW4 RD4 HP4
            obtain ⟨tx, HTX⟩ : ∃ tx, Hid (txS s (q + 8) (mo + 1) = tx) := ⟨_, rfl⟩
            rw [HTX.out]
            go_wp2_with fail
            refine (bad_at b s _ _ RD5.out).mono ?_
            have hR := HR.out
            by_cases h9 : q + 8 + 8 * (mo + 1) ≤ 8 * s.size
            · rw [if_neg (fun h => h h9)] at hR
              rw [badB_no h9]
              rintro e w6 ⟨rfl, rfl⟩
              have HR := mkHid hR
              have hal : acc.length ≤ 262140 := by have := HL.out; omega
              have HAL := mkHid hal
              clear hR hal h9
              obtain ⟨i0, hi, hz0, hz1, hz2⟩ := info_parts info47
              go_wp2_with (at_builtin; refine wpList_append_lies _ rfl (.tmp 55) (.tmp 59) 24 rfl (sb + 1) 47 i0 (.agg #[.int .i64 0, .string ⟨#[]⟩]) 2 24 Try.underlying24 hi hz0 hz1 hz2 rfl (by decide) v acc.length (xcells acc) rfl (OW5.out.alloc _) ⟨w6.heap.size, 0, none⟩ 1 1 [.int .i64 (id : Int), .string tx] rfl rfl (cell_two_new _ _ _ _) (by intro u hu; simp at hu; rcases hu with rfl | rfl <;> rfl) (by decide) (by unfold maxLen; have := HAL.out; omega) (by have := HAL.out; omega) (by simp; omega) _ rfl ?_; intro g cap w7 hown7 hgrow7 hat7 hlt7; have OW7 := mkHid hown7; have GR7 := mkHid hgrow7; clear hown7 hgrow7 hat7 hlt7)
              go_step3
              have hvb : ∀ k, v.ownBlock = some k → sb + 1 ≤ k := fun k hk => (OW5.out.lt k hk).1
              have ap7 : Apart (fun k => v.ownBlock = some k) w6 w7 := Apart.grown ((Apart.refl _ w6).alloc _) GR7.out (fun k _ e => e)
              have hlf := HLF.out
              have hle := HLE.out
              have hq := HQ.out
              have hl := HL.out
              refine ⟨rfl, ⟨sb, k, q + 8 + 8 * (mo + 1), M - (mo + 1), acc ++ [(id, tx)], .slice (some ⟨g, 0, none⟩) (acc.length + 1) cap, upd f id, ⟨rfl, rfl, rfl, rfl, by go_num, rfl⟩, hsb, by have := ap7.size; omega, by omega, ?_, by omega, by simp; omega, seenX_next tx HSX.out, SN5.out.kept ap7 (fun e => by have := hvb _ e; omega), ?_, RD5.out.kept ap7 (fun e => by have := hvb _ e; omega), HP5.out.trans ap7 (fun i hi e => by have := hvb _ e; omega)⟩, ?_⟩
              · have := HR.out
                rw [HTX.out] at this
                exact this
              · rw [xcells_app, List.length_append]; exact OW7.out
              · simp [intOf]; omega
            · rw [if_pos h9] at hR
              subst hR
              rw [badB_yes h9]
              rintro e w6 ⟨rfl, rfl⟩
              go_wp2
              simp only [Exit.jump]
              go_ret2
              exact ⟨HP5.out, .inl ⟨by decide, rfl⟩⟩
      · rw [if_pos h8] at hR
        subst hR
        have B8 := mkHid (badB_yes h8)
        go_wp2_with fail
        refine (get_at b s hs q _ 4 rfl (by omega) _ HRD.out).mono ?_
        have g1 := gw_lt s q 4
        generalize gw s q 4 = id at *
        rintro e w1 ⟨rfl, h1, p1⟩
        have H1 := mkHid h1
        have P1 := mkHid p1
        clear h1 p1
        go_wp2_with fail
        refine (get_at b s hs _ _ 4 rfl (by omega) _ H1.out).mono ?_
        have g2 := gw_lt s (q + 4) 4
        generalize gw s (q + 4) 4 = mo at *
        rintro e w2 ⟨rfl, h2, p2⟩
        have H2 := mkHid h2
        have P2 := mkHid (P1.out.trans p2 (fun _ _ h => h))
        clear h2 p2
        go_wp2_with fail
        refine (bad_at b s _ _ H2.out).mono ?_
        rw [show q + 4 + 4 = q + 8 from by omega, B8.out]
        rintro e w3 ⟨rfl, rfl⟩
        go_wp2
        simp only [Exit.jump]
        go_ret2
        exact ⟨HAP.out.trans P2.out (fun _ _ h => h), .inl ⟨by decide, rfl⟩⟩
end Go.Proofs.Ytdajcgicpfpeoaa
