import Derived.Test.YtdbanlifneomgaaLp8Q
/- Package tree's Drop. -/
set_option linter.unusedVariables false
namespace Go.Proofs.Ytdbanlifneomgaa
open Go.RowKit

/-- What addLowered hands back. -/
def lowR (c lv : Nat) (l : Pairs) (N : List Nd) : Option Nat × List Nd := if 0 < lv ∧ l.length = 1 then (some (lowM N (lv - 1) (valAt l 0)), N) else pileM c (l.length + 1) lv l N

theorem trLowered {w : World} {s room : Nat} {N : List Nd} {D : Nat → Prop} (h : IsSh w s room N D) (lv cap : Nat) (a : Option Addr) (l : Pairs) (hl : ListOk2 w s a cap l) (hl2 : l.length ≤ 1000) (hlv : lv ≤ 7) (hNc : N.length ≤ min room 511) (hlow : LowOk N lv l) :
    Calls Try.prog 52 #[pgV s, leafV (lv : Int) a l.length cap] w (PageS w s room D (lowR (min room 511) lv l N)) := by
  unfold lowR
  by_cases hc : 0 < lv ∧ l.length = 1
  · rw [if_pos hc]
    obtain ⟨h1, ps, qs, g, h2, h3⟩ := hlow hc.1 hc.2
    obtain ⟨k, rfl⟩ : ∃ k, lv = k + 1 := ⟨lv - 1, by omega⟩
    have hr : rises l = true := by
      obtain ⟨x, rfl⟩ := List.length_eq_one_iff.1 hc.2
      exact (rises_srt _).2 (by simp [Srt])
    have := trLoweredDown (by omega) h k cap a l hl.1 hr hc.2 hlv h1 h2 h3
    rw [hc.2]
    exact this.mono fun e w' ⟨h1, h2⟩ => ⟨⟨_, 0, h1, rfl, rfl⟩, D, h.old h2, fun k hk => .inl hk, h2.mono fun k hk => hk.1⟩
  · rw [if_neg hc]
    exact trLoweredPile h lv cap (l.length + 1) a l hl hl2 hlv hNc (by omega) hc

theorem dropM_eq (c : Nat) (ws : List Stp) (N : List Nd) : dropM c ws N = match climbM c ws [] N with
  | (none, N1) => (none, N1)
  | (some l, N1) => lowR c (lvOf ws) l N1 := rfl

/-- What Drop hands back where there is something to drop. -/
def DropS (w : World) (s room : Nat) (D : Nat → Prop) (r : Option Nat × List Nd) (e : Ending) (w' : World) : Prop :=
  (∃ (p : Nat) (b : Bool) (er : Nat), e = .returned (.tuple #[.int .i64 (p : Int), .bool b, .int .i64 (er : Int)]) ∧ (match r.1 with | some q => p = q ∧ b = true ∧ er = 0 | none => p = 0 ∧ b = false ∧ er = 6)) ∧ AddTo w s room D r.2 w'

/-- The last step of a way in memory. -/
theorem way_last {ws init : List Stp} {z : Stp} {j n nz : Nat} (hws : ws = init ++ [z]) (hj : init.length = j) (hn : ws.length = n) (hnz : z.ps.length = nz) {V : World} {B g cap : Nat} (hw : WayR V B (.slice (some ⟨g, 0, none⟩) n cap) ws) :
    ∃ A C, V.cell? ⟨g, j * 4, none⟩ = some (.int .i64 (z.lv : Int)) ∧ V.cell? ⟨g, j * 4 + 1, none⟩ = some (.slice A nz C) ∧ V.cell? ⟨g, j * 4 + 2, none⟩ = some (.int .i64 (z.fr : Int)) ∧ V.cell? ⟨g, j * 4 + 3, none⟩ = some (.int .i64 (z.to : Int)) := by
  obtain ⟨xs0, hrow, hwc⟩ := hw
  obtain ⟨A, C, hAC⟩ := way_at hwc
  rw [← hn] at hrow
  obtain ⟨hst, _, _⟩ := row_stB hrow fun i hi => ⟨(hAC i hi).1, (hAC i hi).2.1, (hAC i hi).2.2.1, (hAC i hi).2.2.2.1⟩
  have hjl : j < ws.length := by rw [hws]; simp [hj]
  have hzj : ws[j] = z := by simp [hws, ← hj]
  have h1 := hst.cells j hjl
  rw [hzj, hnz] at h1
  exact ⟨A j, C j, h1⟩

set_option maxRecDepth 100000 in
set_option maxHeartbeats 4000000 in
theorem trDropNone {w : World} {s room : Nat} {N : List Nd} {D : Nat → Prop} (h : IsSh w s room N D) (root k : Nat) (hk : k < 18446744073709551616) (ws init : List Stp) (z : Stp) (hws : ws = init ++ [z]) (hw : DescW N k root ws) (hl : ws.length ≤ 1000) (he : z.fr = z.to) :
    Calls Try.prog 36 #[pgV s, .int .i64 (root : Int), .int .u64 (k : Int)] w fun e w' => e = .returned (.tuple #[.int .i64 (root : Int), .bool false, .int .i64 0]) ∧ KeptIn (· < w.heap.size) w w' := by
  have HD := Lib.hid (trDesc h k root hk ws hw hl)
  obtain ⟨j, hj⟩ : ∃ j, init.length = j := ⟨_, rfl⟩
  have hnl : j + 1 = ws.length := by rw [hws]; simp [hj]
  obtain ⟨n1, n2, n3⟩ := ge_nums ws.length j hnl hl
  obtain ⟨n, hn⟩ : ∃ n, ws.length = n := ⟨_, rfl⟩
  obtain ⟨nz, hnz⟩ : ∃ nz, z.ps.length = nz := ⟨_, rfl⟩
  have HF := Lib.hid fun V g cap (hw : WayR V w.heap.size (.slice (some ⟨g, 0, none⟩) n cap) ws) => way_last hws hj hn hnz hw
  rw [hn] at HD n1 n3
  unfold pgV at *
  have CE := Lib.hid fun A C V => trEmpty (z.lv : Int) A nz C z.fr z.to V
  unfold stepV at CE
  have het : decide (z.fr = z.to) = true := decide_eq_true he
  rw [het] at CE
  clear h hw hl hnl hn hws hnz hj he het
  go_enter Try.func36, Try.ntmps36
  go_wp2_with (first
    | (go_at_call 34; refine HD.out.mono ?_; rintro e V ⟨g, cap, rfl, hway, hg, hkV⟩; obtain ⟨A, C, c0, c1, c2, c3⟩ := HF.out V g cap hway; have HK := Lib.hid hkV; clear hway hg hkV)
    | (go_at_call 35; refine (CE.out A C _).mono ?_; rintro e V2 ⟨rfl, hk2⟩))
  go_ret3
  exact ⟨rfl, HK.out.go hk2⟩

set_option maxRecDepth 100000 in
set_option maxHeartbeats 4000000 in
theorem trDropSome {w : World} {s room : Nat} {N : List Nd} {D : Nat → Prop} (h : IsSh w s room N D) (root k : Nat) (hk : k < 18446744073709551616) (ws init : List Stp) (z : Stp) (hws : ws = init ++ [z]) (hw : DescW N k root ws) (hl : ws.length ≤ 1000) (hNc : N.length ≤ min room 511) (he : z.fr ≠ z.to) (hlow : ∀ l N1, climbM (min room 511) ws [] N = (some l, N1) → LowOk N1 (lvOf ws) l) :
    Calls Try.prog 36 #[pgV s, .int .i64 (root : Int), .int .u64 (k : Int)] w (DropS w s room D (dropM (min room 511) ws N)) := by
  have hdok := desc_ok hw
  have hlv := lvOf_le hdok
  have hsw := h.lt s h.ds
  have hc511 : min room 511 ≤ 511 := by omega
  have HD := Lib.hid (trDesc h k root hk ws hw hl)
  obtain ⟨j, hj⟩ : ∃ j, init.length = j := ⟨_, rfl⟩
  have hnl : j + 1 = ws.length := by rw [hws]; simp [hj]
  obtain ⟨n1, n2, n3⟩ := ge_nums ws.length j hnl hl
  obtain ⟨n, hn⟩ : ∃ n, ws.length = n := ⟨_, rfl⟩
  obtain ⟨nz, hnz⟩ : ∃ nz, z.ps.length = nz := ⟨_, rfl⟩
  obtain ⟨lv, hlve⟩ : ∃ lv, lvOf ws = lv := ⟨_, rfl⟩
  have HF := Lib.hid fun V g cap (hw : WayR V w.heap.size (.slice (some ⟨g, 0, none⟩) n cap) ws) => way_last hws hj hn hnz hw
  have HDC : Hid (∀ V g cap, WayR V w.heap.size (.slice (some ⟨g, 0, none⟩) n cap) ws → w.heap.size ≤ g → KeptIn (· < w.heap.size) w V → Calls Try.prog 38 #[pgV s, .slice (some ⟨g, 0, none⟩) n cap, .slice none 0 0] V (BodyS V s room D lv (climbM (min room 511) ws [] N))) := Lib.hid fun V g cap hway hg hkV => by
    have := trClimb (h.old hkV) hsw g cap ws init z hws (by rw [hn]; exact hway) hg hl (fun t ht => (hdok.1 t ht).1) none 0 [] (IsPs.none _ _) (by simp) (fun _ => .inl ⟨rfl, rfl⟩) hNc
    rw [hn, hlve] at this
    exact this
  obtain ⟨R, hR⟩ : ∃ R, dropM (min room 511) ws N = R := ⟨_, rfl⟩
  rw [hR]
  rw [dropM_eq, hlve] at hR
  have CE := Lib.hid fun A C V => trEmpty (z.lv : Int) A nz C z.fr z.to V
  unfold stepV at CE
  have het : decide (z.fr = z.to) = false := decide_eq_false he
  rw [het] at CE
  rw [hn] at HD n1 n3
  cases hcl : climbM (min room 511) ws [] N with
  | mk o1 N1 =>
    rw [hcl] at HDC hR
    cases o1 with
    | none =>
      dsimp only at hR
      subst hR
      have HC0 := Lib.hid fun V g cap hway hg hkV => Calls.mono (HDC.out V g cap hway hg hkV) (R' := fun e w' => e = .returned (.tuple #[.agg #[.int .i64 0, .slice none 0 0], .int .i64 6]) ∧ AddTo w s room D N1 w') fun e w' ⟨h1, h2⟩ => ⟨h1, h2.from hkV⟩
      unfold pgV at *
      clear hdok hws hw hl hNc hlv hcl h hc511 HDC hnl hj hn hnz hlow he het hlve hsw
      go_enter Try.func36, Try.ntmps36
      go_wp2_with (first
        | (go_at_call 34; refine HD.out.mono ?_; rintro e V ⟨g, cap, rfl, hway, hg, hkV⟩; obtain ⟨A, C, c0, c1, c2, c3⟩ := HF.out V g cap hway; have HK := Lib.hid (And.intro hkV (And.intro hway hg)); clear hway hg hkV)
        | (go_at_call 35; refine (CE.out A C _).mono ?_; rintro e V2 ⟨rfl, hk2⟩; have HC := Lib.hid (HC0.out V2 g cap (HK.out.2.1.old hk2) HK.out.2.2 (HK.out.1.go hk2)); clear hk2 HC0)
        | (go_at_call 38; refine HC.out.mono ?_; rintro e V3 ⟨rfl, hA⟩; have HA := Lib.hid hA; clear hA HC))
      go_ret3
      exact ⟨⟨0, false, 6, rfl, rfl, rfl, rfl⟩, HA.out.old ((KeptIn.refl _ _).alloc (fun _ h => h) _)⟩
    | some l =>
      dsimp only at hR
      obtain ⟨m, hm⟩ : ∃ m, l.length = m := ⟨_, rfl⟩
      have HC0 := Lib.hid fun V g cap (hway : WayR V w.heap.size (.slice (some ⟨g, 0, none⟩) n cap) ws) hg (hkV : KeptIn (· < w.heap.size) w V) => Calls.mono (HDC.out V g cap hway hg hkV) (R' := fun e w' => ∃ a cap, e = .returned (.tuple #[.agg #[.int .i64 (lv : Int), .slice a m cap], .int .i64 0]) ∧ w'.ownsRow w.heap.size 50 2 (.slice a m cap) m (cellsP l) ∧ Fits l ∧ AddTo w s room D N1 w' ∧ ∀ t ∈ ws, Fits t.ps) fun e w' ⟨⟨a, cap, h1, h2, h3⟩, h4⟩ => by
        exact ⟨a, cap, by rw [← hm]; exact h1, by rw [← hm]; exact row_weaken h2 hkV.size, h3, h4.from hkV, wayR_fits hway⟩
      obtain ⟨o, N2⟩ := R
      cases o with
      | none =>
        have HLC := Lib.hid fun (V2 : World) (a9 : Option Addr) (c9 : Nat) (hrow : V2.ownsRow w.heap.size 50 2 (.slice a9 m c9) m (cellsP l)) (hfl : Fits l) (hA : AddTo w s room D N1 V2) (hfs : ∀ t ∈ ws, Fits t.ps) => (show ∀ V3, KeptIn (· < V2.heap.size) V2 V3 → Calls Try.prog 52 #[pgV s, leafV (lv : Int) a9 m c9] V3 (fun e w' => e = .returned (.tuple #[.int .i64 0, .int .i64 6]) ∧ AddTo w s room D N2 w') by
          intro V3 hk3
          obtain ⟨b1, b2, b3, _⟩ := climb_bounds hc511 (xs := []) (by simp) (fun p hp => by cases hp) (fun t ht => ⟨(hdok.1 t ht).1, hfs t ht⟩) hdok.2 hNc hcl
          obtain ⟨D2, hsh, hD2, hkw⟩ := hA.old hk3
          have hrow3 := row_at hrow hk3
          rw [← hm] at hrow3 ⊢
          have := trLowered hsh lv c9 a9 l (row_listOk hrow3 hfl hsw) (by omega) (by rw [← hlve]; exact hlv) b3 (by rw [← hlve]; exact hlow l N1 hcl)
          rw [hR] at this
          exact this.mono fun e w' ⟨⟨p, er, e1, e2, e4⟩, e3⟩ => ⟨by rw [e1, e2, e4]; rfl, AddTo.trans hD2 hkw e3⟩)
        unfold pgV leafV at *
        clear hdok hws hw hl hNc hlv hcl h hc511 HDC hnl hj hn hnz hlow he het hlve hsw hR hm
        go_enter Try.func36, Try.ntmps36
        go_wp2_with (first
          | (go_at_call 34; refine HD.out.mono ?_; rintro e V ⟨g, cap, rfl, hway, hg, hkV⟩; obtain ⟨A, C, c0, c1, c2, c3⟩ := HF.out V g cap hway; have HK := Lib.hid (And.intro hkV (And.intro hway hg)); clear hway hg hkV)
          | (go_at_call 35; refine (CE.out A C _).mono ?_; rintro e V2 ⟨rfl, hk2⟩; have HC := Lib.hid (HC0.out V2 g cap (HK.out.2.1.old hk2) HK.out.2.2 (HK.out.1.go hk2)); clear hk2 HC0)
          | (go_at_call 38; refine HC.out.mono ?_; rintro e V3 ⟨a9, c9, rfl, hrow, hfl, hA, hfs⟩; have HL := Lib.hid (HLC.out V3 a9 c9 hrow hfl hA hfs (V3.alloc (.cells #[.int .i64 (lv : Int), .slice a9 m c9] 27)) ((KeptIn.refl _ V3).alloc (fun _ h => h) _)); clear hrow hfl hA hfs HC HLC)
          | (go_at_call 52; refine HL.out.mono ?_; rintro e V4 ⟨rfl, hS⟩; have HS := Lib.hid hS; clear hS HL))
        go_ret3
        exact ⟨⟨0, false, 6, rfl, rfl, rfl, rfl⟩, HS.out⟩
      | some q =>
        have HLC := Lib.hid fun (V2 : World) (a9 : Option Addr) (c9 : Nat) (hrow : V2.ownsRow w.heap.size 50 2 (.slice a9 m c9) m (cellsP l)) (hfl : Fits l) (hA : AddTo w s room D N1 V2) (hfs : ∀ t ∈ ws, Fits t.ps) => (show ∀ V3, KeptIn (· < V2.heap.size) V2 V3 → Calls Try.prog 52 #[pgV s, leafV (lv : Int) a9 m c9] V3 (fun e w' => e = .returned (.tuple #[.int .i64 (q : Int), .int .i64 0]) ∧ AddTo w s room D N2 w') by
          intro V3 hk3
          obtain ⟨b1, b2, b3, _⟩ := climb_bounds hc511 (xs := []) (by simp) (fun p hp => by cases hp) (fun t ht => ⟨(hdok.1 t ht).1, hfs t ht⟩) hdok.2 hNc hcl
          obtain ⟨D2, hsh, hD2, hkw⟩ := hA.old hk3
          have hrow3 := row_at hrow hk3
          rw [← hm] at hrow3 ⊢
          have := trLowered hsh lv c9 a9 l (row_listOk hrow3 hfl hsw) (by omega) (by rw [← hlve]; exact hlv) b3 (by rw [← hlve]; exact hlow l N1 hcl)
          rw [hR] at this
          exact this.mono fun e w' ⟨⟨p, er, e1, e2, e4⟩, e3⟩ => ⟨by rw [e1, e2, e4]; rfl, AddTo.trans hD2 hkw e3⟩)
        unfold pgV leafV at *
        clear hdok hws hw hl hNc hlv hcl h hc511 HDC hnl hj hn hnz hlow he het hlve hsw hR hm
        go_enter Try.func36, Try.ntmps36
        go_wp2_with (first
          | (go_at_call 34; refine HD.out.mono ?_; rintro e V ⟨g, cap, rfl, hway, hg, hkV⟩; obtain ⟨A, C, c0, c1, c2, c3⟩ := HF.out V g cap hway; have HK := Lib.hid (And.intro hkV (And.intro hway hg)); clear hway hg hkV)
          | (go_at_call 35; refine (CE.out A C _).mono ?_; rintro e V2 ⟨rfl, hk2⟩; have HC := Lib.hid (HC0.out V2 g cap (HK.out.2.1.old hk2) HK.out.2.2 (HK.out.1.go hk2)); clear hk2 HC0)
          | (go_at_call 38; refine HC.out.mono ?_; rintro e V3 ⟨a9, c9, rfl, hrow, hfl, hA, hfs⟩; have HL := Lib.hid (HLC.out V3 a9 c9 hrow hfl hA hfs (V3.alloc (.cells #[.int .i64 (lv : Int), .slice a9 m c9] 27)) ((KeptIn.refl _ V3).alloc (fun _ h => h) _)); clear hrow hfl hA hfs HC HLC)
          | (go_at_call 52; refine HL.out.mono ?_; rintro e V4 ⟨rfl, hS⟩; have HS := Lib.hid hS; clear hS HL))
        go_ret3
        exact ⟨⟨q, true, 0, rfl, rfl, rfl, rfl⟩, HS.out⟩

end Go.Proofs.Ytdbanlifneomgaa
