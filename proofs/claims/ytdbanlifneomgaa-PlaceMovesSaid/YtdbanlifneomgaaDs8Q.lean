import Derived.Test.YtdbanlifneomgaaCf8Q
/- Package tree's descend: the way from the root to the leaf of a key. -/
set_option linter.unusedVariables false
namespace Go.Proofs.Ytdbanlifneomgaa
open Go.RowKit

/-- A step: a node, and which of its pairs a change is about. -/
structure Stp where
  lv : Nat
  ps : Pairs
  fr : Nat
  to : Nat
deriving Inhabited

/-- The node of a page. -/
def nodeOf (N : List Nd) (p : Nat) : Option Nd := if p = 0 then none else N[p - 1]?
theorem nodeOf_at {N : List Nd} {p : Nat} {nd : Nd} (h : nodeOf N p = some nd) : ∃ i, ∃ hi : i < N.length, i + 1 = p ∧ N[i] = nd := by
  unfold nodeOf at h
  split at h
  · cases h
  · obtain ⟨hi, e⟩ := List.getElem?_eq_some_iff.1 h
    exact ⟨p - 1, hi, by omega, e⟩

/-- The way of a key down from a lead. -/
def WayG (N : List Nd) (k : Nat) : List Stp → Bool → Int → Nat → Nat → Nat → Prop
  | [], _, _, _, _, _ => False
  | [s], root, lv, lo, hi, p => nodeOf N p = some (0, s.ps) ∧ s.lv = 0 ∧ FitOk root lv lo hi 0 s.ps ∧ s.fr = belowK s.ps k ∧ s.to = toOf s.ps k
  | s :: t :: r, root, lv, lo, hi, p => nodeOf N p = some (s.lv, s.ps) ∧ 0 < s.lv ∧ FitOk root lv lo hi s.lv s.ps ∧ s.fr = kidOf s.ps k ∧ s.to = s.fr + 1 ∧ WayG N k (t :: r) false ((s.lv : Int) - 1) (keyAt s.ps s.fr) (highOf s.ps s.fr hi) (valAt s.ps s.fr)

/-- A slice's room. -/
def CapOk (a : Option Addr) (n cap : Nat) : Prop := n ≤ cap ∧ cap ≤ maxLen ∧ (a = none → cap = 0) ∧ ∀ p, a = some p → ∃ g, p = ⟨g, 0, none⟩
theorem cap_some {g n cap : Nat} (h1 : n ≤ cap) (h2 : cap ≤ maxLen) : CapOk (some ⟨g, 0, none⟩) n cap := ⟨h1, h2, (fun e => by cases e), fun p e => by cases e; exact ⟨g, rfl⟩⟩
/-- The cells of steps: each one's pairs lie at B0 or beyond. -/
def WayC (W : World) (B0 : Nat) : List Value → List Stp → Prop
  | xs, [] => xs = []
  | xs, s :: r => ∃ a cap xs', xs = .int .i64 (s.lv : Int) :: .slice a s.ps.length cap :: .int .i64 (s.fr : Int) :: .int .i64 (s.to : Int) :: xs' ∧ IsPs W a s.ps ∧ (∀ p, a = some p → B0 ≤ p.block ∧ TyP W p.block) ∧ CapOk a s.ps.length cap ∧ WayC W B0 xs' r
theorem WayC.snoc {W : World} {B0 : Nat} : ∀ {ws : List Stp} {xs : List Value} {s : Stp} {a : Option Addr} {cap : Nat}, WayC W B0 xs ws → IsPs W a s.ps → (∀ p, a = some p → B0 ≤ p.block ∧ TyP W p.block) → CapOk a s.ps.length cap →
    WayC W B0 (xs ++ [.int .i64 (s.lv : Int), .slice a s.ps.length cap, .int .i64 (s.fr : Int), .int .i64 (s.to : Int)]) (ws ++ [s]) := by
  intro ws
  induction ws with
  | nil =>
    intro xs s a cap h h1 h2 h3
    obtain rfl : xs = [] := h
    exact ⟨a, cap, [], rfl, h1, h2, h3, rfl⟩
  | cons t r ih =>
    intro xs s a cap h h1 h2 h3
    obtain ⟨a', cap', xs', rfl, k1, k2, k4, k3⟩ := h
    exact ⟨a', cap', _, rfl, k1, k2, k4, ih k3 h1 h2 h3⟩
theorem WayC.kept {W W' : World} {B0 : Nat} {X : Nat → Prop} (hk : KeptIn X W W') (hX : ∀ k, B0 ≤ k → TyP W k → X k) : ∀ {ws : List Stp} {xs : List Value}, WayC W B0 xs ws → WayC W' B0 xs ws := by
  intro ws
  induction ws with
  | nil => intro xs h; exact h
  | cons t r ih =>
    intro xs h
    obtain ⟨a', cap', xs', rfl, k1, k2, k4, k3⟩ := h
    exact ⟨a', cap', xs', rfl, psAt k1 hk (fun p e => hX _ (k2 p e).1 (k2 p e).2), fun p e => ⟨(k2 p e).1, (k2 p e).2.kept (hk.block _ (hX _ (k2 p e).1 (k2 p e).2))⟩, k4, ih k3⟩
theorem WayC.old {W W' : World} {B0 : Nat} {ws : List Stp} {xs : List Value} (h : WayC W B0 xs ws) (hk : KeptIn (· < W.heap.size) W W') : WayC W' B0 xs ws := h.kept hk fun _ _ h => h.lt
theorem WayC.grown {W V w1 : World} {B0 B1 n : Nat} {v : Value} {ys : List Value} {ws : List Stp} {xs : List Value} (h : WayC W B0 xs ws) (hk : KeptIn (· < W.heap.size) W V) (hr : V.ownsRow B1 109 4 v n ys) (hg : V.grownBy w1 v.ownBlock) : WayC w1 B0 xs ws :=
  (h.old hk).kept (X := fun k => TyP V k) ⟨hg.os, hg.tape, hg.output, hg.size, fun k hT => hg.block k hT.lt fun e => by
    obtain ⟨cs, fr, hc⟩ := hT
    exact rowS_ne hr hc (by decide) e.symm⟩ fun _ _ h => h
theorem WayC.length {W : World} {B0 : Nat} : ∀ {ws : List Stp} {xs : List Value}, WayC W B0 xs ws → xs.length = ws.length * 4 := by
  intro ws
  induction ws with
  | nil => intro xs h; obtain rfl : xs = [] := h; rfl
  | cons t r ih =>
    intro xs h
    obtain ⟨a', cap', xs', rfl, _, _, _, k3⟩ := h
    simp [ih k3]; omega

/-- A way in memory, a row of a call's own. -/
def WayR (W : World) (B0 : Nat) (v : Value) (ws : List Stp) : Prop := ∃ xs, W.ownsRow B0 109 4 v ws.length xs ∧ WayC W B0 xs ws

/-- What descend hands back. -/
def DescS (w : World) (ws : List Stp) (e : Ending) (w' : World) : Prop := ∃ v, e = .returned (.tuple #[v, .int .i64 0]) ∧ WayR w' w.heap.size v ws ∧ KeptIn (· < w.heap.size) w w'

def slLen : Value → Nat
  | .slice _ n _ => n
  | _ => 0

theorem infoStep : (Try.prog.info? 109).map (fun i => (i.zero, i.size, i.bytes)) = some (some (.agg #[.int .i64 0, .slice none 0 0, .int .i64 0, .int .i64 0]), 4, 48) := by kernel_rfl

theorem trDescendNil (s : Nat) (k : Nat) (w : World) :
    Calls Try.prog 34 #[pgV s, .int .i64 0, .int .u64 (k : Int)] w (DescS w [⟨0, [], 0, 0⟩]) := by
  unfold pgV
  go_enter Try.func34, Try.ntmps34
  go_wp2_with fail
  go_ret2
  refine ⟨_, rfl, ⟨[.int .i64 0, .slice none 0 0, .int .i64 0, .int .i64 0], ⟨rfl, .inr ⟨w.heap.size, 1, #[.int .i64 0, .slice none 0 0, .int .i64 0, .int .i64 0], rfl, Nat.le_refl _, heap_alloc_new _ _, Nat.le_refl _, by decide, rfl, rfl⟩⟩, ⟨none, 0, [], rfl, IsPs.none _ _, (fun p e => by cases e), ⟨Nat.le_refl _, Nat.zero_le _, (fun _ => rfl), fun p e => by cases e⟩, rfl⟩⟩, (KeptIn.refl _ w).alloc (fun _ h => h) _⟩

theorem WayC.weaken {W : World} {B0 B1 : Nat} (hb : B0 ≤ B1) : ∀ {ws : List Stp} {xs : List Value}, WayC W B1 xs ws → WayC W B0 xs ws := by
  intro ws
  induction ws with
  | nil => intro xs h; exact h
  | cons t r ih =>
    intro xs h
    obtain ⟨a', cap', xs', rfl, k1, k2, k4, k3⟩ := h
    exact ⟨a', cap', xs', rfl, k1, fun p e => ⟨Nat.le_trans hb (k2 p e).1, (k2 p e).2⟩, k4, ih k3⟩
theorem fit_good {root : Bool} {lv : Int} {lo hi L : Nat} {ps : Pairs} (h : FitOk root lv lo hi L ps) : goodN (L : Int) ps = true ∧ 0 < ps.length := by
  cases root with
  | true => exact ⟨h.1, h.2.1⟩
  | false => exact ⟨h.1, h.2.1⟩
theorem good_rises {L : Int} {ps : Pairs} (h : goodN L ps = true) : rises ps = true := by
  unfold goodN at h
  simp only [Bool.and_eq_true] at h
  exact h.1.2
theorem good_vals {L : Int} {ps : Pairs} (h : goodN L ps = true) (h0 : ¬ L = 0) : ∀ i, i < ps.length → 1 ≤ valAt ps i ∧ valAt ps i ≤ 511 := by
  unfold goodN at h
  simp only [Bool.and_eq_true, Bool.or_eq_true, decide_eq_true_eq] at h
  exact (pagesOk_iff ps).1 (h.2.resolve_left h0)

/-- Between two rounds: what is done of the way, the lead to the rest. -/
def DsI (w : World) (N : List Nd) (k B : Nat) (full : List Stp) (v : Value) (W : World) : Prop :=
  ∃ done rest root lv lo hi p xs, full = done ++ rest ∧ WayG N k rest root lv lo hi p ∧ BoxD B p root lv lo hi W ∧ W.ownsRow w.heap.size 109 4 v done.length xs ∧ WayC W (B + 1) xs done ∧ KeptIn (· < w.heap.size) w W ∧ hi < 18446744073709551616

theorem way_pos {N : List Nd} {k : Nat} {ws : List Stp} {root : Bool} {lv : Int} {lo hi p : Nat} (h : WayG N k ws root lv lo hi p) : 0 < p := by
  have : ∃ nd, nodeOf N p = some nd := by
    cases ws with
    | nil => exact h.elim
    | cons s r =>
      cases r with
      | nil => exact ⟨_, h.1⟩
      | cons t r => exact ⟨_, h.1⟩
  obtain ⟨nd, e⟩ := this
  unfold nodeOf at e
  split at e
  · cases e
  · omega

theorem slLen_row {W : World} {B n c : Nat} {T : TypeId} {v : Value} {xs : List Value} (h : W.ownsRow B T c v n xs) : slLen v = n := by
  rcases h.2 with ⟨rfl, rfl⟩ | ⟨g1, cap1, cur, rfl, _⟩ <;> rfl
theorem uptoK_le (ps : Pairs) (k : Nat) : uptoK ps k ≤ ps.length := List.countP_le_length
theorem kidOf_lt (ps : Pairs) (k : Nat) (h : 0 < ps.length) : kidOf ps k < ps.length := by
  have := uptoK_le ps k
  unfold kidOf; omega
theorem highOf_lt (ps : Pairs) (i hi : Nat) (hf : Fits ps) (h : hi < 18446744073709551616) : highOf ps i hi < 18446744073709551616 := by
  unfold highOf
  split
  · rename_i hl
    have := (hf.at hl).1
    omega
  · exact h
theorem ds_meas (nn dn : Nat) (h : dn < nn) : nn - (dn + 1) < nn - dn := by omega
/-- A lead's box, stored to: all else stands. -/
theorem leadSet {V : World} {B page : Nat} {lv : Int} {low high : Nat} : KeptIn (fun k => k ≠ B) V (((((V.setCell ⟨B, 0, none⟩ (.int .i64 (page : Int))).setCell ⟨B, 1, none⟩ (.bool false)).setCell ⟨B, 2, none⟩ (.int .i64 lv)).setCell ⟨B, 3, none⟩ (.int .u64 (low : Int))).setCell ⟨B, 4, none⟩ (.int .u64 (high : Int))) :=
  (((((KeptIn.refl _ V).setCell (p := ⟨B, 0, none⟩) (by simp) _).setCell (p := ⟨B, 1, none⟩) (by simp) _).setCell (p := ⟨B, 2, none⟩) (by simp) _).setCell (p := ⟨B, 3, none⟩) (by simp) _).setCell (p := ⟨B, 4, none⟩) (by simp) _

/-- One step more. -/
theorem way_more {W V w8 : World} {B0 B1 n g cg : Nat} {v : Value} {ys xs : List Value} {done : List Stp} {st : Stp} (hwc : WayC W B0 xs done) (hk : KeptIn (· < W.heap.size) W V) (hr : V.ownsRow B1 109 4 v n ys) (hg : V.grownBy w8 v.ownBlock)
    (hps : IsPs V (some ⟨g, 0, none⟩) st.ps) (hty : TyC V g st.ps.length cg) (hge : B0 ≤ g) : WayC w8 B0 (xs ++ [.int .i64 (st.lv : Int), .slice (some ⟨g, 0, none⟩) st.ps.length cg, .int .i64 (st.fr : Int), .int .i64 (st.to : Int)]) (done ++ [st]) :=
  ((hwc.old hk).snoc (s := st) (a := some ⟨g, 0, none⟩) (cap := cg) hps (fun p e => by cases e; exact ⟨hge, hty.1⟩) (cap_some hty.2.1 hty.2.2)).grown (KeptIn.refl _ V) hr hg

set_option maxHeartbeats 2000000 in
set_option maxRecDepth 100000 in
theorem trDescend {w : World} {s room : Nat} {N : List Nd} {D : Nat → Prop} (h : IsSh w s room N D) (k : Nat) (hk : k < 18446744073709551616) (ws : List Stp) (p : Nat) (hw : WayG N k ws true 0 0 18446744073709551615 p) (hlen : ws.length ≤ 1000) :
    Calls Try.prog 34 #[pgV s, .int .i64 (p : Int), .int .u64 (k : Int)] w (DescS w ws) := by
  have hp := way_pos hw
  have p0 : ((p : Int) == 0) = false := by rw [beq_eq_false_iff_ne]; omega
  have p1 : ¬ ((p : Int) = 0) := by omega
  have HS := Lib.hid h
  have HW := Lib.hid hw
  unfold pgV
  clear hw h hp
  go_enter Try.func34, Try.ntmps34
  go_wp2_with (go_at_call 42; refine (trToRoot p _).mono ?_)
  rintro e V ⟨rfl, k1⟩
  have HK1 := Lib.hid k1
  clear k1
  unfold leadV
  obtain ⟨W1, hW1⟩ : ∃ W1, V.alloc (.cells #[.int .i64 (p : Int), .bool true, .int .i64 0, .int .u64 0, .int .u64 18446744073709551615] 118) = W1 := ⟨_, rfl⟩
  have hb1 : BoxD V.heap.size p true 0 0 18446744073709551615 W1 := by rw [← hW1]; exact BoxD.new V p true 0 0 18446744073709551615
  have hkV1 : KeptIn (· < w.heap.size) w W1 := by rw [← hW1]; exact HK1.out.go ((KeptIn.refl _ V).alloc (fun _ h => h) _)
  obtain ⟨B, hB⟩ : ∃ B, V.heap.size = B := ⟨_, rfl⟩
  rw [hB] at hb1
  have HBB : Hid (w.heap.size ≤ B) := Lib.hid (by rw [← hB]; exact HK1.out.size)
  have HI0 : Hid (DsI w N k B ws (.slice none 0 0) W1) := Lib.hid ⟨[], ws, true, 0, 0, 18446744073709551615, p, [], rfl, HW.out, hb1, ⟨rfl, .inl ⟨rfl, rfl⟩⟩, rfl, hkV1, by decide⟩
  clear hb1 hkV1 HW
  go_wp2_with fail
  obtain ⟨ii, hii, hz0, hz1, hz2⟩ := info_parts infoStep
  obtain ⟨nn, hnn⟩ : ∃ nn, ws.length = nn := ⟨_, rfl⟩
  have HNN := Lib.hid hnn
  clear hnn HK1 hW1 hB p0 p1
  go_loopw [8] (fun v wr => ∃ (W : World) (v0 : Value), W = wr ∧ v0 = v ∧ Hid (DsI w N k B ws v0 W)) (fun v _ => nn - slLen v)
  case atStart => exact ⟨_, _, rfl, rfl, HI0⟩
  case round =>
    obtain ⟨W, v0, rfl, rfl, HJ⟩ := hrel
    clear HI0
    obtain ⟨done, rest, root, lv, lo, hi, q, xs, hfull, hway, hbd, hrow, hwc, hkw, hhi⟩ := HJ.out
    cases rest with
    | nil => exact hway.elim
    | cons st r =>
      have hnode : ∃ L : Nat, nodeOf N q = some (L, st.ps) ∧ FitOk root lv lo hi L st.ps ∧ L = st.lv := by
        cases r with
        | nil => exact ⟨0, hway.1, hway.2.2.1, hway.2.1.symm⟩
        | cons t r => exact ⟨st.lv, hway.1, hway.2.2.1, rfl⟩
      obtain ⟨L, hnd, hfit, hL⟩ := hnode
      obtain ⟨ix, hix, hqi, hni⟩ := nodeOf_at hnd
      have CL := trLeadRead (HS.out.old hkw) ix hix root lv lo hi (by rw [hni]; exact hfit)
      rw [hqi, hni] at CL
      subst hL
      have HCL := Lib.hid CL
      have d0 := hbd.c0
      have d1 := hbd.c1
      have d2 := hbd.c2
      have d3 := hbd.c3
      have d4 := hbd.c4
      have HD := Lib.hid (And.intro hfull (And.intro hway (And.intro hbd (And.intro hrow (And.intro hwc (And.intro hkw (And.intro hhi hfit)))))))
      clear hfull hway hbd hrow hwc hkw hhi hfit CL hnd hix hqi hni HJ
      unfold leadV pgV at HCL
      go_wp2_with (go_at_call 48; refine HCL.out.mono ?_)
      rintro e V2 ⟨g, cg, rfl, hps, hg, hk2, hty⟩
      unfold leafV
      obtain ⟨m, hm⟩ : ∃ m, st.ps.length = m := ⟨_, rfl⟩
      rw [hm]
      obtain ⟨U, hU⟩ : ∃ U, V2.alloc (.cells #[.int .i64 (st.lv : Int), .slice (some ⟨g, 0, none⟩) m cg] 27) = U := ⟨_, rfl⟩
      obtain ⟨y, hy⟩ : ∃ y, V2.heap.size = y := ⟨_, rfl⟩
      have hkU : KeptIn (· < V2.heap.size) V2 U := by rw [← hU]; exact (KeptIn.refl _ V2).alloc (fun _ h => h) _
      have hby : BoxL y (st.lv : Int) (some ⟨g, 0, none⟩) m cg U := by rw [← hU, ← hy]; exact BoxL.new V2 _ _ _ _
      have hkWU : KeptIn (· < W.heap.size) W U := hk2.go hkU
      have hpsU := hps.old hkU
      have q0 := hby.c0
      have q1 := hby.c1
      have HM := Lib.hid hm
      have HTY := Lib.hid (hty.old hkU)
      have HU := Lib.hid (And.intro hby (And.intro hkWU (And.intro hpsU hg)))
      clear d0 d1 d2 d3 d4 hps hg hk2 hkU hby hkWU hpsU HCL hm hty
      cases r with
      | nil =>
        have hl0 : st.lv = 0 := HD.out.2.1.2.1
        have z0 : ((st.lv : Int) == 0) = true := by rw [hl0]; rfl
        have CI := trInLeaf (st.lv : Int) (some ⟨g, 0, none⟩) cg st.ps k U HU.out.2.2.1 (good_rises (fit_good HD.out.2.2.2.2.2.2.2).1) hk (Nat.le_trans (good_parts (fit_good HD.out.2.2.2.2.2.2.2).1).2.2 (by decide))
        rw [HM.out] at CI
        unfold leafV stepV at CI
        have HCI := Lib.hid CI
        generalize hLV : (st.lv : Int) = LV at *
        have HLV := Lib.hid hLV
        clear CI hl0 hLV
        go_wp2_with (go_at_call 49; refine HCI.out.mono ?_)
        rintro e V3 ⟨rfl, hk3⟩
        obtain ⟨dn, hdn⟩ : ∃ dn, done.length = dn := ⟨_, rfl⟩
        have hdl : dn + 1 ≤ 1000 := by
          have h1 : ws.length = done.length + 1 := by rw [HD.out.1]; simp
          rw [← hdn, ← h1]; exact hlen
        have hk3W : KeptIn (· < W.heap.size) W V3 := HU.out.2.1.go hk3
        have hrow3 : V3.ownsRow w.heap.size 109 4 v0 dn xs := by
          rw [← hdn]
          exact rowS_block HD.out.2.2.2.1 fun g' e => hk3W.block g' (rowS_lt HD.out.2.2.2.1 g' e).2
        have HROW := Lib.hid hrow3
        have HB3 := Lib.hid (And.intro hdn (And.intro hdl (And.intro hk3W hk3)))
        have hb3 : w.heap.size ≤ V3.heap.size := Nat.le_trans HD.out.2.2.2.2.2.1.size hk3W.size
        have hmx : dn + 1 ≤ maxLen := by unfold maxLen; omega
        have hby3 : (dn + 1) * 48 ≤ 140737488355328 := by omega
        generalize hbk : (belowK st.ps k : Int) = bk
        generalize htk : (toOf st.ps k : Int) = tk
        have HBT := Lib.hid (And.intro hbk htk)
        clear hdn hk3W hk3 hrow3 HCI q0 q1 hbk htk hdl
        go_wp2_with (at_builtin; refine wpList_append_own _ rfl _ _ 105 rfl w.heap.size 109 ii _ 4 48 Try.underlying105 hii hz0 hz1 hz2 rfl (by decide) _ _ _ rfl (HROW.out.alloc _) ⟨V3.heap.size, 0, none⟩ 1 1 [.int .i64 LV, .slice (some ⟨g, 0, none⟩) m cg, .int .i64 bk, .int .i64 tk] rfl rfl (World.news_of_block (cs := #[.int .i64 LV, .slice (some ⟨g, 0, none⟩) m cg, .int .i64 bk, .int .i64 tk]) (t := 109) (fr := (0, 0)) (heap_alloc_new V3 _)) (by simp [Value.oneCell']) hmx hby3 (by rw [World.size_alloc]; exact Nat.le_succ_of_le hb3) ?_)
        intro v' w8 hown' hgrow _
        have hka : KeptIn (· < V3.heap.size) V3 (V3.alloc (.cells #[.int .i64 LV, .slice (some ⟨g, 0, none⟩) m cg, .int .i64 bk, .int .i64 tk] 109)) := (KeptIn.refl _ V3).alloc (fun _ h => h) _
        have hkB : KeptIn (· < U.heap.size) U (V3.alloc (.cells #[.int .i64 LV, .slice (some ⟨g, 0, none⟩) m cg, .int .i64 bk, .int .i64 tk] 109)) := HB3.out.2.2.2.go hka
        have hra : (V3.alloc (.cells #[.int .i64 LV, .slice (some ⟨g, 0, none⟩) m cg, .int .i64 bk, .int .i64 tk] 109)).ownsRow w.heap.size 109 4 v0 dn xs := HROW.out.alloc _
        have hfr : st.fr = belowK st.ps k := HD.out.2.1.2.2.2.1
        have hto : st.to = toOf st.ps k := HD.out.2.1.2.2.2.2
        have hw8 := way_more (cg := cg) (st := st) HD.out.2.2.2.2.1 (HB3.out.2.2.1.go hka) hra hgrow (HU.out.2.2.1.old hkB) (HTY.out.old hkB) (Nat.lt_of_lt_of_le HD.out.2.2.1.lt HU.out.2.2.2)
        rw [HLV.out, HM.out, hfr, hto, HBT.out.1, HBT.out.2] at hw8
        have hkF : KeptIn (· < w.heap.size) w w8 := (HD.out.2.2.2.2.2.1.go (HB3.out.2.2.1.go hka)).grown (fun _ h => h) hgrow fun g' e => Nat.not_lt.2 (rowS_lt hra g' e).1
        have hws : ws = done ++ [st] := HD.out.1
        have hdn := HB3.out.1
        have HF := Lib.hid (And.intro hw8 (And.intro hkF (And.intro hws hdn)))
        have HO := Lib.hid hown'
        clear hra hka hkB hfr hto hw8 hkF hws hdn hgrow hown' HROW HB3 HU HD HTY
        go_wp2_with fail
        go_ret2
        refine ⟨v', rfl, ⟨xs ++ [.int .i64 LV, .slice (some ⟨g, 0, none⟩) m cg, .int .i64 bk, .int .i64 tk], ?_, ?_⟩, HF.out.2.1⟩
        · rw [HF.out.2.2.1, List.length_append, HF.out.2.2.2]; exact HO.out
        · rw [HF.out.2.2.1]; exact HF.out.1.weaken (Nat.le_succ_of_le HBB.out)
      | cons t r =>
        have hl0 : 0 < st.lv := HD.out.2.1.2.1
        have hgood := (fit_good HD.out.2.2.2.2.2.2.2).1
        have hpos := (fit_good HD.out.2.2.2.2.2.2.2).2
        obtain ⟨_, hlv7, hl15⟩ := good_parts hgood
        have z0 : ((st.lv : Int) == 0) = false := by rw [beq_eq_false_iff_ne]; omega
        have hkid := kidOf_lt st.ps k hpos
        have hval := good_vals hgood (by omega) _ hkid
        have CC := trChildFor (st.lv : Int) (some ⟨g, 0, none⟩) cg st.ps k U HU.out.2.2.1 (good_rises hgood)
        obtain ⟨ki, hki⟩ : ∃ ki, kidOf st.ps k = ki := ⟨_, rfl⟩
        obtain ⟨kj, hkj⟩ : ∃ kj, ki + 1 = kj := ⟨_, rfl⟩
        rw [HM.out, hki] at CC
        rw [hki] at hkid hval
        obtain ⟨n1, n2⟩ := il_nums ki kj hkj (Nat.le_trans (Nat.le_of_lt hkid) (Nat.le_trans hl15 (by decide)))
        have CT := Lib.hid fun (X : World) (hX : IsPs X (some ⟨g, 0, none⟩) st.ps) => trToChild st.lv (some ⟨g, 0, none⟩) cg st.ps ki hi X hX (good_rises hgood) hkid (Nat.le_trans hl15 (by decide)) ⟨hl0, by omega⟩ hval.2
        have HG := Lib.hid (And.intro hkid (And.intro hki hkj))
        unfold leafV at CC CT
        rw [HM.out] at CT
        have HCC := Lib.hid CC
        generalize hLV : (st.lv : Int) = LV at *
        have HLV := Lib.hid hLV
        clear CC hl0 hLV hgood hpos hlv7 hl15 hkid hval hki hkj
        go_wp2_with (go_at_call 50; refine HCC.out.mono ?_)
        rintro e V3 ⟨rfl, hk3⟩
        have hby3 := HU.out.1.kept hk3 HU.out.1.lt
        have q0 := hby3.c0
        have q1 := hby3.c1
        obtain ⟨dn, hdn⟩ : ∃ dn, done.length = dn := ⟨_, rfl⟩
        have hdl : dn + 1 < ws.length := by
          have h1 : ws.length = done.length + (r.length + 2) := by rw [HD.out.1]; simp
          omega
        have hk3W : KeptIn (· < W.heap.size) W V3 := HU.out.2.1.go hk3
        have hrow3 : V3.ownsRow w.heap.size 109 4 v0 dn xs := by
          rw [← hdn]
          exact rowS_block HD.out.2.2.2.1 fun g' e => hk3W.block g' (rowS_lt HD.out.2.2.2.1 g' e).2
        have HROW := Lib.hid hrow3
        have HB3 := Lib.hid (And.intro hdn (And.intro hdl (And.intro hk3W (And.intro hk3 hby3))))
        have hb3 : w.heap.size ≤ V3.heap.size := Nat.le_trans HD.out.2.2.2.2.2.1.size hk3W.size
        have hmx : dn + 1 ≤ maxLen := by unfold maxLen; omega
        have hb48 : (dn + 1) * 48 ≤ 140737488355328 := by omega
        clear hdn hk3W hk3 hrow3 HCC hdl hby3
        go_wp2_with (at_builtin; refine wpList_append_own _ rfl _ _ 105 rfl w.heap.size 109 ii _ 4 48 Try.underlying105 hii hz0 hz1 hz2 rfl (by decide) _ _ _ rfl (HROW.out.alloc _) ⟨V3.heap.size, 0, none⟩ 1 1 [.int .i64 LV, .slice (some ⟨g, 0, none⟩) m cg, .int .i64 (ki : Int), .int .i64 (kj : Int)] rfl rfl (World.news_of_block (cs := #[.int .i64 LV, .slice (some ⟨g, 0, none⟩) m cg, .int .i64 (ki : Int), .int .i64 (kj : Int)]) (t := 109) (fr := (0, 0)) (heap_alloc_new V3 _)) (by simp [Value.oneCell']) hmx hb48 (by rw [World.size_alloc]; exact Nat.le_succ_of_le hb3) ?_)
        intro v' w8 hown' hgrow _
        have hka : KeptIn (· < V3.heap.size) V3 (V3.alloc (.cells #[.int .i64 LV, .slice (some ⟨g, 0, none⟩) m cg, .int .i64 (ki : Int), .int .i64 (kj : Int)] 109)) := (KeptIn.refl _ V3).alloc (fun _ h => h) _
        have hkB : KeptIn (· < U.heap.size) U (V3.alloc (.cells #[.int .i64 LV, .slice (some ⟨g, 0, none⟩) m cg, .int .i64 (ki : Int), .int .i64 (kj : Int)] 109)) := HB3.out.2.2.2.1.go hka
        have hra : (V3.alloc (.cells #[.int .i64 LV, .slice (some ⟨g, 0, none⟩) m cg, .int .i64 (ki : Int), .int .i64 (kj : Int)] 109)).ownsRow w.heap.size 109 4 v0 dn xs := HROW.out.alloc _
        have hfr : st.fr = ki := HD.out.2.1.2.2.2.1.trans HG.out.2.1
        have hto : st.to = kj := by rw [HD.out.2.1.2.2.2.2.1, hfr]; exact HG.out.2.2
        have hw8 := way_more (cg := cg) (st := st) HD.out.2.2.2.2.1 (HB3.out.2.2.1.go hka) hra hgrow (HU.out.2.2.1.old hkB) (HTY.out.old hkB) (Nat.lt_of_lt_of_le HD.out.2.2.1.lt HU.out.2.2.2)
        rw [HLV.out, HM.out, hfr, hto] at hw8
        have hkF : KeptIn (· < w.heap.size) w w8 := (HD.out.2.2.2.2.2.1.go (HB3.out.2.2.1.go hka)).grown (fun _ h => h) hgrow fun g' e => Nat.not_lt.2 (rowS_lt hra g' e).1
        have hkT : KeptIn (fun k => TyP (V3.alloc (.cells #[.int .i64 LV, .slice (some ⟨g, 0, none⟩) m cg, .int .i64 (ki : Int), .int .i64 (kj : Int)] 109)) k) (V3.alloc (.cells #[.int .i64 LV, .slice (some ⟨g, 0, none⟩) m cg, .int .i64 (ki : Int), .int .i64 (kj : Int)] 109)) w8 := ⟨hgrow.os, hgrow.tape, hgrow.output, hgrow.size, fun k hT => hgrow.block k hT.lt fun e => by
          obtain ⟨cs, fr, hc⟩ := hT
          exact rowS_ne hra hc (by decide) e.symm⟩
        have hps8 : IsPs w8 (some ⟨g, 0, none⟩) st.ps := psAt (HU.out.2.2.1.old hkB) hkT fun p e => by cases e; exact (HTY.out.old hkB).1
        have hbyA := HB3.out.2.2.2.2.kept hka HB3.out.2.2.2.2.lt
        have hby8 : BoxL y LV (some ⟨g, 0, none⟩) m cg w8 := (hgrow.block y hbyA.lt fun e => rowS_ne hra hbyA (by decide) e.symm).trans hbyA
        have hbdA := HD.out.2.2.1.kept (HB3.out.2.2.1.go hka) HD.out.2.2.1.lt
        have hbd8 : BoxD B q root lv lo hi w8 := (hgrow.block B hbdA.lt fun e => rowS_ne hra hbdA (by decide) e.symm).trans hbdA
        have c0 := hby8.c0
        have c1 := hby8.c1
        have c4 := hbd8.c4
        have HCT := Lib.hid (CT.out w8 hps8)
        have HF5 := Lib.hid hps8.fits
        have HF := Lib.hid (And.intro hw8 (And.intro hkF (And.intro hbd8 (And.intro hown' hfr))))
        clear hra hka hkB hfr hto hw8 hkF hkT hps8 hbyA hby8 hbdA hbd8 hown' hgrow HROW CT HU HTY q0 q1
        go_wp2_with (go_at_call 51; refine HCT.out.mono ?_)
        rintro e V4 ⟨rfl, hk4⟩
        obtain ⟨vv, hvv⟩ : ∃ vv, valAt st.ps ki = vv := ⟨_, rfl⟩
        obtain ⟨kk, hkk⟩ : ∃ kk, keyAt st.ps ki = kk := ⟨_, rfl⟩
        obtain ⟨hh, hhh⟩ : ∃ hh, highOf st.ps ki hi = hh := ⟨_, rfl⟩
        rw [hvv, hkk, hhh]
        unfold leadV
        have hbd4 := HF.out.2.2.1.kept hk4 HF.out.2.2.1.lt
        have e0 := hbd4.c0
        have e1 := hbd4.c1
        have e2 := hbd4.c2
        have e3 := hbd4.c3
        have e4 := hbd4.c4
        have f0 := hbd4.f0
        have f1 := hbd4.f1
        have f2 := hbd4.f2
        have f3 := hbd4.f3
        have f4 := hbd4.f4
        have hway : WayG N k (t :: r) false (LV - 1) kk hh vv := by
          have := HD.out.2.1.2.2.2.2.2
          rw [HLV.out, HF.out.2.2.2.2, hkk, hhh, hvv] at this
          exact this
        have hrw := HF.out.2.2.2.1
        have hHI : hh < 18446744073709551616 := by
          rw [← hhh]
          exact highOf_lt _ _ _ HF5.out HD.out.2.2.2.2.2.2.1
        have HJ2 : Hid (DsI w N k B ws v' (((((V4.setCell ⟨B, 0, none⟩ (.int .i64 (vv : Int))).setCell ⟨B, 1, none⟩ (.bool false)).setCell ⟨B, 2, none⟩ (.int .i64 (LV - 1))).setCell ⟨B, 3, none⟩ (.int .u64 (kk : Int))).setCell ⟨B, 4, none⟩ (.int .u64 (hh : Int)))) := Lib.hid (by
          refine ⟨done ++ [st], t :: r, false, LV - 1, kk, hh, vv, _, by rw [HD.out.1]; simp, hway, hbd4.set, ?_, ((HF.out.1.old hk4).kept leadSet fun k h1 _ => Nat.ne_of_gt h1), ?_, hHI⟩
          · rw [List.length_append, HB3.out.1]
            exact rowS_block hrw fun g' e => (leadSet.block g' fun e5 => rowS_ne hrw HF.out.2.2.1 (by decide) (by rw [← e5]; exact e)).trans (hk4.block g' (rowS_lt hrw g' e).2)
          · exact (HF.out.2.1.go hk4).trans (leadSet.mono fun k h1 e => by rw [e] at h1; exact absurd h1 (Nat.not_lt.2 HBB.out)))
        have hsl := slLen_row hrw
        have hs0 : slLen v0 = dn := by rw [← HB3.out.1]; exact slLen_row HD.out.2.2.2.1
        have hdn : dn < nn := by rw [← HNN.out]; exact Nat.lt_of_succ_lt HB3.out.2.1
        clear hway hrw hHI hbd4 hk4 HF HD HB3 c0 c1 c4 hvv hkk hhh HCT
        go_wp2_with fail
        go_roundw
        case rel => exact ⟨_, _, rfl, rfl, HJ2⟩
        case measure =>
          rw [hsl, hs0]
          exact ds_meas nn dn hdn

end Go.Proofs.Ytdbanlifneomgaa
