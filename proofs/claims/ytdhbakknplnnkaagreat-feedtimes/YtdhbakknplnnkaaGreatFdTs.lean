/-
  The message that FeedTimes makes: what it tells.
-/
import Derived.Test.YtdhbakknplnnkaaGreatFdZ
import Derived.Test.YtdhbakknplnnkaaGreatCc4
namespace Go.Proofs.YtdhbakknplnnkaaGreat.Fd
open Go.RowKit Go.Proofs.YtdhbakknplnnkaaGreat.Nk

/-- The packets of its report. -/
def tmM (k : Int) : List Cc.Mt := [⟨true, 0, k⟩, ⟨true, 3, 8191⟩, ⟨false, 0, 0⟩]
def tmL (q k : Int) : List Cc.Bk := [⟨0, q, tmM k⟩]
theorem tm_enc {q k : Int} (q0 : 0 ≤ q) (q1 : q ≤ 65535) (k0 : 0 ≤ k) (k1 : k ≤ 8191) : Cc.encE (tmL q k) = 0 := by
  refine Cc.encE_is (Cc.goodL_iff.2 ⟨by simp [tmL], ?_⟩) (by simp [tmL, tmM, Cc.szB, Cc.mb])
  simp [tmL, tmM, Cc.bkOk, Cc.mtOk, Cc.inR, q0, q1, k0, k1]
theorem tm_size {q k st : Int} (h : Cc.encE (tmL q k) = 0) : (Cc.encS 0 (tmL q k) st).size ≤ 20000 ∧ (Cc.encS 0 (tmL q k) st).size % 4 = 0 := by
  rw [Cc.encS_size h]
  simp [tmL, tmM, Cc.szB, Cc.mb]
theorem tm_join {c : Int} {d : ByteArray} (c0 : 0 ≤ c) (c1 : c ≤ 31) (h : d.size ≤ 20000) (h4 : d.size % 4 = 0) : Rc.jE [⟨c, 205, d⟩] = 0 := by
  refine Rc.jE_is (by simp) (Rc.allOk_iff.2 fun p hp => ?_) ?_
  · simp only [List.mem_singleton] at hp
    subst hp
    exact Rc.Pt.ok_iff.2 ⟨c0, c1, by simp, by simp, le_262140 h, h4⟩
  · exact sz_one _ h
/-- The time of a time's own stamp, near one that is not far. -/
theorem tm_again (t near : Int) (n0 : 0 ≤ near) (n1 : near ≤ 1125899906842624) (d1 : t - 2147483648 ≤ near) (d2 : near ≤ t + 2147483647) :
    Un.frV (t * 65536 / 1000000 % 4294967296) near ≤ t ∧ t - Un.frV (t * 65536 / 1000000 % 4294967296) near ≤ 16 := by
  unfold Un.frV
  have ec : Un.clV near (-1125899906842624) 1125899906842624 = near := by unfold Un.clV; rw [if_neg (by omega), if_neg (by omega)]
  rw [ec, (Un.ct_bd near (by omega) (by omega)).1]
  have en : Un.nrV (near * 65536 / 1000000) (t * 65536 / 1000000 % 4294967296) = t * 65536 / 1000000 := by
    have hd1 : t * 65536 / 1000000 - near * 65536 / 1000000 ≤ 200000000 := by omega
    have hd2 : -200000000 ≤ t * 65536 / 1000000 - near * 65536 / 1000000 := by omega
    unfold Un.nrV
    generalize t * 65536 / 1000000 = p at *
    generalize near * 65536 / 1000000 = q at *
    split <;> omega
  rw [en, Un.mdV_u _ _ _ (by omega)]
  rw [Un.satH_in _ (by omega) (by omega)]
  omega
/-- What it tells. -/
theorem tm_reads {q k st near : Int} (q0 : 0 ≤ q) (q1 : q ≤ 65535) (k0 : 0 ≤ k) (k1 : k < 8190) (s0 : 0 ≤ st) (s1 : st < 4294967296) (n0 : 0 ≤ near) (n1 : near ≤ 1125899906842624) :
    fdE (Rc.jS [⟨11, 205, Cc.encS 0 (tmL q k) st⟩]) near = 0 ∧ fdR (Rc.jS [⟨11, 205, Cc.encS 0 (tmL q k) st⟩]) near = [⟨q, true, wrap64 (Un.frV st near - k * 1000000 / 1024), false, false⟩, ⟨(q + 1) % 65536, true, 0, true, true⟩, ⟨(q + 2) % 65536, false, 0, false, false⟩] := by
  have he := tm_enc q0 q1 k0 (by omega : k ≤ 8191)
  obtain ⟨z1, z2⟩ := tm_size (st := st) he
  obtain ⟨d0, d1, -, d3⟩ := Cc.back (sd := 0) (st := st) he (by simp [tmL]) (by omega) (by omega) s0 s1
  obtain ⟨b0, b1⟩ := Rc.back (tm_join (c := 11) (by omega) (by omega) z1 z2)
  generalize Cc.encS 0 (tmL q k) st = S at *
  obtain ⟨h1, h2, h3, h4⟩ := p_11 S near
  have hn : nrH near = near := by unfold nrH Un.clV; rw [if_neg (by omega), if_neg (by omega)]
  have hk : Un.mdV k 1000000 1024 1 = k * 1000000 / 1024 := by rw [Un.mdV_d _ _ _ (by omega)]; exact Un.satH_in _ (by omega) (by omega)
  have e1 : lsE (Rc.rL (Rc.jS [⟨11, 205, S⟩])) = 0 := by rw [b1, lsE_cons, h1, d0]; rfl
  have e2 : lsK (Rc.rL (Rc.jS [⟨11, 205, S⟩])) = true := by rw [b1, lsK_cons, h4]; rfl
  have e4 : lsA (Rc.rL (Rc.jS [⟨11, 205, S⟩])) = [] := by rw [b1, lsA_cons, h3]; rfl
  have e3 : lsR (nrH near) (Rc.rL (Rc.jS [⟨11, 205, S⟩])) = [⟨q, true, wrap64 (Un.frV st near - k * 1000000 / 1024), false, false⟩, ⟨(q + 1) % 65536, true, 0, true, true⟩, ⟨(q + 2) % 65536, false, 0, false, false⟩] := by
    rw [b1, hn, lsR_cons, h2, d1, d3]
    have r0 : r1 (Un.frV st near) q 0 ⟨true, 0, k⟩ = ⟨q, true, wrap64 (Un.frV st near - k * 1000000 / 1024), false, false⟩ := by
      unfold r1
      rw [if_pos rfl, if_neg (by show ¬ 8190 ≤ k; omega), hk]
      simp
      omega
    have r1' : r1 (Un.frV st near) q 1 ⟨true, 3, 8191⟩ = ⟨(q + 1) % 65536, true, 0, true, true⟩ := by
      unfold r1
      rw [if_pos rfl, if_pos (by decide)]
      rfl
    have r2 : r1 (Un.frV st near) q 2 ⟨false, 0, 0⟩ = ⟨(q + 2) % 65536, false, 0, false, false⟩ := by
      unfold r1
      rw [if_neg (by simp)]
      rfl
    unfold firstL tmL
    rw [List.flatMap_cons, List.flatMap_nil, List.append_nil]
    show r1L (Un.frV st near) q 0 (tmM k) ++ lsR near [] = _
    unfold tmM
    show r1 _ q 0 _ :: r1 _ q 1 _ :: r1 _ q 2 _ :: [] ++ [] = _
    rw [r0, r1', r2]
    rfl
  have e : fdE (Rc.jS [⟨11, 205, S⟩]) near = 0 := by
    rw [fd_of b0, if_pos e1, if_pos e2, e3, e4, if_neg (by simp)]
  exact ⟨e, by rw [(fd_lists e).1, e3]⟩
/-- Its report in memory. -/
theorem tm_ba {w : World} {b1 b2 : Nat} {q k : Int} (h1 : w.heap[b1]? = some (.cells #[.bool true, .int .i64 0, .int .i64 k, .bool true, .int .i64 3, .int .i64 8191, .bool false, .int .i64 0, .int .i64 0] 45 (0, 0)))
    (h2 : w.heap[b2]? = some (.cells #[.int .u32 0, .int .i64 q, .slice (some ⟨b1, 0, none⟩) 3 3] 49 (0, 0))) : Cc.BA w.heap.size w (some ⟨b2, 0, none⟩) (tmL q k) := by
  refine ⟨by unfold maxLen; simp [tmL], .inr ⟨b2, 0, rfl, lt_of_heap h2, fun i x hi => ?_⟩⟩
  match i, hi with
  | 0, hi =>
    simp [tmL] at hi; subst hi
    have cl := fun j => cell_of_row w b2 j _ 49 _ h2
    refine ⟨by rw [cl]; rfl, by rw [cl]; rfl, ⟨some ⟨b1, 0, none⟩, 3, by rw [cl]; rfl, by unfold maxLen; simp [tmM], .inr ⟨b1, 0, rfl, lt_of_heap h1, fun j m hj => ?_⟩⟩, by simp, by simp⟩
    have cm := fun j => cell_of_row w b1 j _ 45 _ h1
    match j, hj with
    | 0, hj => simp [tmM] at hj; subst hj; exact ⟨by rw [cm]; rfl, by rw [cm]; rfl, by rw [cm]; rfl⟩
    | 1, hj => simp [tmM] at hj; subst hj; exact ⟨by rw [cm]; rfl, by rw [cm]; rfl, by rw [cm]; rfl⟩
    | 2, hj => simp [tmM] at hj; subst hj; exact ⟨by rw [cm]; rfl, by rw [cm]; rfl, by rw [cm]; rfl⟩
    | j + 3, hj => simp [tmM] at hj
  | i + 1, hi => simp [tmL] at hi
/-- What the law's stamp is. -/
theorem stampT_any (t : Int) (t0 : 0 ≤ t) (t1 : t ≤ 4398046511104) (w : World) :
    Calls Tryz.prog 14 #[.int .i64 t] w fun e w' => e = .returned (.int .u32 (t * 65536 / 1000000 % 4294967296)) ∧ w' = w := by
  have e1 : t.tdiv 1000000 = t / 1000000 := Int.tdiv_eq_ediv_of_nonneg t0
  have e2 : t.tmod 1000000 = t % 1000000 := Int.tmod_eq_emod_of_nonneg t0
  have e3 : (t % 1000000 * 65536).tdiv 1000000 = t % 1000000 * 65536 / 1000000 := Int.tdiv_eq_ediv_of_nonneg (by omega)
  have e4 : t / 1000000 * 65536 + t % 1000000 * 65536 / 1000000 = t * 65536 / 1000000 := by omega
  have e5 : IntKind.u32.wrap (t * 65536 / 1000000) = t * 65536 / 1000000 % 4294967296 := by rw [IntKind.wrap_u32]
  have h1 : -9223372036854775808 ≤ t / 1000000 * 65536 ∧ t / 1000000 * 65536 ≤ 9223372036854775807 := by omega
  have h2 : -9223372036854775808 ≤ t % 1000000 * 65536 ∧ t % 1000000 * 65536 ≤ 9223372036854775807 := by omega
  go_enter Tryz.func14, Tryz.ntmps14
  go_wp2
  go_ret
  exact ⟨rfl, rfl⟩
end Go.Proofs.YtdhbakknplnnkaaGreat.Fd
