import Derived.Test.YtdbohcdjamhdjaaRow5W
import Derived.Deep.RegionWith
import Derived.Deep.RegionLaw
import Derived.Handy
import Derived.Deep.DeepMust
/- Copies of pairs and of nodes (package tree's copyOf). -/
set_option linter.unusedVariables false
namespace Go.Proofs.Ytdbohcdjamhdjaa
open Go.RowKit

theorem psAt {X : Nat → Prop} {W W' : World} {a : Option Addr} {ps : Pairs} (h : IsPs W a ps) (hk : KeptIn X W W') (hX : ∀ p, a = some p → X p.block) : IsPs W' a ps :=
  ⟨h.len, h.fits, fun hp => by
    obtain ⟨b, off, e, hb, hc⟩ := h.cells hp
    have hb' := hX _ e
    exact ⟨b, off, e, Nat.lt_of_lt_of_le hb hk.size, fun i hi => ⟨(World.cell?_of_block (a := ⟨b, off + i * 2, none⟩) (hk.block b hb')).trans (hc i hi).1, (World.cell?_of_block (a := ⟨b, off + i * 2 + 1, none⟩) (hk.block b hb')).trans (hc i hi).2⟩⟩⟩

theorem addr_add (b off j : Nat) : (⟨b, off, none⟩ : Addr).add j = ⟨b, off + j, none⟩ := by unfold Addr.add; split <;> simp_all
/-- What is appended of a row of pairs. -/
theorem psNews {W : World} {ad : Addr} {ps : Pairs} (h : IsPs W (some ad) ps) (h0 : 0 < ps.length) : ∀ j u, (cellsP ps)[j]? = some u → W.cell? (ad.add j) = some u := by
  obtain ⟨b, off, e, hb, hc⟩ := h.cells h0
  obtain rfl := Option.some.inj e
  intro j u hu
  have hj : j < ps.length * 2 := by rw [← cellsP_length]; exact (List.getElem?_eq_some_iff.1 hu).1
  have hq : j / 2 < ps.length := by omega
  obtain ⟨c1, c2⟩ := cellsP_at ps _ hq
  obtain ⟨d1, d2⟩ := hc _ hq
  rcases Nat.mod_two_eq_zero_or_one j with e | e
  · have : j / 2 * 2 = j := by omega
    rw [this] at c1 d1
    rw [c1] at hu
    rw [← Option.some.inj hu]
    rw [addr_add]
    exact d1
  · have : j / 2 * 2 + 1 = j := by omega
    rw [this] at c2
    rw [Nat.add_assoc, this] at d2
    rw [c2] at hu
    rw [← Option.some.inj hu]
    rw [addr_add]
    exact d2
theorem cellsP_one (ps : Pairs) : ∀ u ∈ cellsP ps, u.oneCell' = true := by
  induction ps with
  | nil => intro u h; cases h
  | cons p r ih =>
    intro u h
    rcases List.mem_cons.1 h with rfl | h
    · rfl
    rcases List.mem_cons.1 h with rfl | h
    · rfl
    exact ih u h
theorem psSome {W : World} {a : Option Addr} {ps : Pairs} (h : IsPs W a ps) (h0 : 0 < ps.length) : ∃ b off, a = some ⟨b, off, none⟩ ∧ b < W.heap.size := by
  obtain ⟨b, off, e, hb, _⟩ := h.cells h0
  exact ⟨b, off, e, hb⟩

/-- A copy of a row of pairs. -/
def CloneS (w : World) (ps : Pairs) (e : Ending) (w' : World) : Prop :=
  ∃ g cap, e = .returned (.slice (some ⟨g, 0, none⟩) ps.length cap) ∧ w'.ownsRow w.heap.size 82 2 (.slice (some ⟨g, 0, none⟩) ps.length cap) ps.length (cellsP ps) ∧ KeptIn (· < w.heap.size) w w'

set_option maxRecDepth 100000 in
theorem pClone (a : Option Addr) (cap : Nat) (ps : Pairs) (w : World) (h : IsPs w a ps) (h0 : 0 < ps.length) (hl : ps.length ≤ 1000000) :
    Calls Try.prog 78 #[.slice a ps.length cap] w (CloneS w ps) := by
  obtain ⟨b, off, rfl, hb⟩ := psSome h h0
  obtain ⟨n, hn⟩ : ∃ n, ps.length = n := ⟨_, rfl⟩
  have HN := Lib.hid hn
  have H := Lib.hid h
  have hn0 : 0 < n := by omega
  have hm : n ≤ 1000000 := by omega
  rw [hn]
  clear h hn h0 hl
  obtain ⟨i, hi, hz0, hz1, hz2⟩ := info_parts infoPair
  have heq : ∀ V : World, Sem.run Try.prog (binOp .eql 25 (.slice (some ⟨b, off, none⟩) n cap) (.slice none 0 0)) V = .ok (.bool false) V := fun _ => by rfl
  obtain ⟨W, hW⟩ : ∃ W, w.alloc (.cells #[] 82) = W := ⟨_, rfl⟩
  have k1 : KeptIn (· < w.heap.size) w W := by rw [← hW]; exact (KeptIn.refl _ w).alloc (fun _ h => h) _
  have hr : W.ownsRow w.heap.size 82 2 (.slice (some ⟨w.heap.size, 0, none⟩) 0 0) 0 [] := ⟨rfl, .inr ⟨w.heap.size, 0, #[], rfl, Nat.le_refl _, by rw [← hW]; exact heap_alloc_new w _, Nat.le_refl _, Nat.zero_le _, rfl, rfl⟩⟩
  have HK := Lib.hid k1
  have HW := Lib.hid hW
  have hsz : w.heap.size ≤ W.heap.size := k1.size
  have hnl : (cellsP ps).length = n * 2 := by rw [cellsP_length, HN.out]
  have hnews := psNews (H.out.old HK.out) (by rw [HN.out]; exact hn0)
  have HC := Lib.hid hnews
  have HL := Lib.hid hnl
  have HR := Lib.hid hr
  clear hnews hnl hr k1 hW
  go_enter Try.func78, Try.ntmps78
  go_wp2_with (at_builtin; rw [HW.out]; refine wpList_append_lies _ rfl _ _ 25 rfl w.heap.size 82 i _ 2 16 Try.underlying25 hi hz0 hz1 hz2 rfl (by decide) _ 0 [] rfl HR.out ⟨b, off, none⟩ n cap (cellsP ps) rfl HL.out HC.out (cellsP_one ps) hn0 (by unfold maxLen; omega) (by omega) hsz _ rfl ?_)
  intro g cap' w' hown hgrow _ _
  have HOWN := Lib.hid hown
  have HG := Lib.hid (HK.out.grown (fun _ h => h) hgrow (fun g' e => by
    have := (rowS_lt HR.out g' e).1
    omega))
  clear hown hgrow
  go_wp2_with fail
  go_ret
  exact ⟨g, cap', by rw [HN.out]; simp, by rw [HN.out]; simpa using HOWN.out, HG.out⟩

theorem KeptIn.go {a b c : World} (h : KeptIn (· < a.heap.size) a b) (k : KeptIn (· < b.heap.size) b c) : KeptIn (· < a.heap.size) a c := h.trans (k.mono fun _ hk => Nat.lt_of_lt_of_le hk h.size)
theorem results_leaf1 {fn : Func} {p : Tmp} (h : fn.results = #[.cell p 27]) (tmps : Array Value) (w : World) (x : Nat) (lv : Int) (a : Option Addr) (n cap : Nat)
    (hp : tmps.getD p undef = .pointer (some ⟨x, 0, none⟩)) (hb : BoxL x lv a n cap w) : (results fn tmps).run Try.prog w = .ok (leafV lv a n cap) w := by
  have hr := run_loadVar_row (P := Try.prog) w x 27 27 _ _ _ hb Try.underlying27 rfl (by kernel_rfl)
  have hp' : tmps[p]?.getD undef = .pointer (some ⟨x, 0, none⟩) := by simpa using hp
  simp [results, h, hp', asAddr, hr, leafV]

/-- A block of pairs. -/
def TyP (W : World) (g : Nat) : Prop := ∃ cs fr, W.heap[g]? = some (.cells cs 82 fr)
theorem TyP.kept {W W' : World} {g : Nat} (h : TyP W g) (e : W'.heap[g]? = W.heap[g]?) : TyP W' g := by
  obtain ⟨cs, fr, h⟩ := h
  exact ⟨cs, fr, e.trans h⟩
theorem TyP.lt {W : World} {g : Nat} (h : TyP W g) : g < W.heap.size := by
  obtain ⟨cs, fr, h⟩ := h
  exact (Array.getElem?_eq_some_iff.1 h).1
theorem TyP.old {W W' : World} {g : Nat} (h : TyP W g) (hk : KeptIn (· < W.heap.size) W W') : TyP W' g := h.kept (hk.block g h.lt)
theorem TyP.set {W : World} {g : Nat} (h : TyP W g) (q : Addr) (v : Value) (hq : g ≠ q.block) : TyP (W.setCell q v) g := h.kept (heap_setCell_other _ _ _ _ (by simpa using hq))
theorem row_TyP {W : World} {B g n cap : Nat} {xs : List Value} (h : W.ownsRow B 82 2 (.slice (some ⟨g, 0, none⟩) n cap) n xs) : TyP W g := by
  rcases h.2 with ⟨e, _⟩ | ⟨g1, cap1, cur, e, _, hc, _⟩
  · cases e
  · simp only [Value.slice.injEq, Option.some.injEq, Addr.mk.injEq, and_true, true_and] at e
    obtain ⟨rfl, rfl⟩ := e
    exact ⟨_, _, hc⟩

theorem row_cap {W : World} {B g n cap : Nat} {xs : List Value} (h : W.ownsRow B 82 2 (.slice (some ⟨g, 0, none⟩) n cap) n xs) : n ≤ cap ∧ cap ≤ maxLen := by
  rcases h.2 with ⟨e, _⟩ | ⟨g1, cap1, cur, e, _, _, h1, h2, _⟩
  · cases e
  · simp only [Value.slice.injEq, Option.some.injEq, Addr.mk.injEq, and_true, true_and] at e
    obtain ⟨rfl, rfl⟩ := e
    exact ⟨h1, h2⟩
/-- A block of pairs, with room for so many. -/
def TyC (W : World) (g n cap : Nat) : Prop := TyP W g ∧ n ≤ cap ∧ cap ≤ maxLen
theorem TyC.old {W W' : World} {g n cap : Nat} (h : TyC W g n cap) (hk : KeptIn (· < W.heap.size) W W') : TyC W' g n cap := ⟨h.1.old hk, h.2⟩
theorem TyC.set {W : World} {g n cap : Nat} (h : TyC W g n cap) (q : Addr) (v : Value) (hq : g ≠ q.block) : TyC (W.setCell q v) g n cap := ⟨h.1.set q v hq, h.2⟩

/-- A copy of a node. -/
def CopyS (w : World) (lv : Int) (ps : Pairs) (e : Ending) (w' : World) : Prop :=
  ∃ g cap, e = .returned (leafV lv (some ⟨g, 0, none⟩) ps.length cap) ∧ IsPs w' (some ⟨g, 0, none⟩) ps ∧ w.heap.size ≤ g ∧ KeptIn (· < w.heap.size) w w' ∧ TyC w' g ps.length cap

set_option maxRecDepth 100000 in
theorem trCopy (lv : Int) (a : Option Addr) (cap : Nat) (ps : Pairs) (w : World) (h : IsPs w a ps) (h0 : 0 < ps.length) (hl : ps.length ≤ 1000000) :
    Calls Try.prog 120 #[leafV lv a ps.length cap] w (CopyS w lv ps) := by
  have CC := Lib.hid fun V (hk : KeptIn (· < w.heap.size) w V) => pClone a cap ps V (h.old hk) h0 hl
  obtain ⟨n, hn⟩ : ∃ n, ps.length = n := ⟨_, rfl⟩
  have HN := Lib.hid hn
  have HF := Lib.hid h.fits
  obtain ⟨W, hW⟩ : ∃ W, (w.alloc (.cells #[.int .i64 lv, .slice a n cap] 27)).alloc (.cells #[.int .i64 0, .slice none 0 0] 27) = W := ⟨_, rfl⟩
  have hb : BoxL w.heap.size lv a n cap W := by rw [← hW]; exact (BoxL.new w lv a n cap).kept ((KeptIn.refl _ _).alloc (fun _ h => h) _) (by simp)
  obtain ⟨x, hx⟩ : ∃ x, w.heap.size = x := ⟨_, rfl⟩
  have hr : BoxL (x + 1) 0 none 0 0 W := by rw [← hW, ← hx, show w.heap.size + 1 = (w.alloc (.cells #[.int .i64 lv, .slice a n cap] 27)).heap.size by simp]; exact BoxL.new _ 0 none 0 0
  have hk : KeptIn (· < w.heap.size) w W := by rw [← hW]; exact ((KeptIn.refl _ w).alloc (fun _ h => h) _).alloc (fun _ h => h) _
  unfold leafV at *
  rw [hn] at CC ⊢
  have HW := Lib.hid hW
  have HX := Lib.hid hx
  have HQ := Lib.hid (And.intro hb (And.intro hr hk))
  clear h hn h0 hl hW hx hb hr hk
  go_enter Try.func120, Try.ntmps120
  go_wp2_with fail
  rw [HW.out, HX.out]
  have hxl : x < W.heap.size := by have := HQ.out.1.lt; rw [HX.out] at this; exact this
  have HB : Hid (∀ V, KeptIn (· < W.heap.size) W V → (V.cell? ⟨x, 0, none⟩ = some (.int .i64 lv) ∧ V.cell? ⟨x, 1, none⟩ = some (.slice a n cap)) ∧ BoxL (x + 1) 0 none 0 0 V ∧ KeptIn (· < w.heap.size) w V) := Lib.hid fun V hV => by
    have h1 := HQ.out.1.kept hV HQ.out.1.lt
    rw [HX.out] at h1
    exact ⟨⟨h1.c0, h1.c1⟩, HQ.out.2.1.kept hV HQ.out.2.1.lt, HQ.out.2.2.trans (hV.mono fun k hk => Nat.lt_of_lt_of_le hk HQ.out.2.2.size)⟩
  have hk0 : KeptIn (· < W.heap.size) W W.drew := (KeptIn.refl _ _).drew
  obtain ⟨⟨c0, c1⟩, hr0, _⟩ := HB.out _ hk0
  have c3 := hr0.c0
  have f3 := hr0.f0
  have c4 := hr0.c1
  have f4 := hr0.f1
  clear hr0
  go_region_with (go_at_call 78; refine (CC.out _ (HB.out _ hk0).2.2).mono ?_; rintro e V ⟨g, cap', rfl, hrow, hk⟩; obtain ⟨⟨d0, d1⟩, hr1, hk1⟩ := HB.out _ (hk0.go hk); have d3 := hr1.c0; have e3 := hr1.f0; have d4 := hr1.c1; have e4 := hr1.f1)
  all_goals
    have hset := BoxL.set (lv' := lv) (a' := some ⟨g, 0, none⟩) (n' := ps.length) (cap' := cap') hr1
    have hkx := (hk1.setCell (p := ⟨x + 1, 0, none⟩) (by rw [HX.out]; simp) (.int .i64 lv)).setCell (p := ⟨x + 1, 1, none⟩) (by rw [HX.out]; simp) (.slice (some ⟨g, 0, none⟩) ps.length cap')
    have hg1 := (rowS_lt hrow g rfl).1
    obtain ⟨V2, hV2⟩ : ∃ V2, (V.setCell ⟨x + 1, 0, none⟩ (.int .i64 lv)).setCell ⟨x + 1, 1, none⟩ (.slice (some ⟨g, 0, none⟩) ps.length cap') = V2 := ⟨_, rfl⟩
    have hrow2 : V2.ownsRow W.drew.heap.size 82 2 (.slice (some ⟨g, 0, none⟩) ps.length cap') ps.length (cellsP ps) := by
      rw [← hV2]
      exact rowS_block hrow fun g' e => by
        obtain rfl : g = g' := by simpa [Value.ownBlock] using e
        have : x + 1 < g := Nat.lt_of_lt_of_le HQ.out.2.1.lt (Nat.le_trans hk0.size hg1)
        exact (heap_setCell_other _ _ _ _ (by simp; omega)).trans (heap_setCell_other _ _ _ _ (by simp; omega))
    have hps : IsPs V2 (some ⟨g, 0, none⟩) ps := row_IsPs hrow2 HF.out
    have hge : w.heap.size ≤ g := Nat.le_trans (Nat.le_trans HQ.out.2.2.size hk0.size) hg1
    rw [hV2] at hset hkx ⊢
    clear hV2
    go_wp2_with fail
    refine bodyPost_ret (results_leaf1 rfl _ _ (x + 1) _ _ _ _ rfl hset) rfl ?_
    exact ⟨g, cap', rfl, hps, hge, hkx, row_TyP hrow2, row_cap hrow2⟩

end Go.Proofs.Ytdbohcdjamhdjaa
/- Pages in memory: package tree's Shelf: Read. -/
set_option linter.unusedVariables false
namespace Go.Proofs.Ytdbohcdjamhdjaa
open Go.RowKit

/-- A node: its level, its pairs. -/
abbrev Nd := Nat × Pairs

/-- A node in memory, its pairs in a block of D. -/
def NodeAt (W : World) (D : Nat → Prop) (b off : Nat) (nd : Nd) : Prop :=
  ∃ a cap, W.cell? ⟨b, off, none⟩ = some (.int .i64 (nd.1 : Int)) ∧ W.cell? ⟨b, off + 1, none⟩ = some (.slice a nd.2.length cap) ∧ IsPs W a nd.2 ∧ ∀ p, a = some p → D p.block
theorem NodeAt.kept {W W' : World} {D D' : Nat → Prop} {b off : Nat} {nd : Nd} (h : NodeAt W D b off nd) (hk : KeptIn D W W') (hb : D b) (hD : ∀ k, D k → D' k) : NodeAt W' D' b off nd := by
  obtain ⟨a, cap, h1, h2, h3, h4⟩ := h
  exact ⟨a, cap, (World.cell?_of_block (a := ⟨b, off, none⟩) (hk.block b hb)).trans h1, (World.cell?_of_block (a := ⟨b, off + 1, none⟩) (hk.block b hb)).trans h2, psAt h3 hk h4, fun p e => hD _ (h4 p e)⟩

/-- The Shelf at block s: nodes N, room for so many; all that it is made of lies in D. -/
structure IsSh (W : World) (s room : Nat) (N : List Nd) (D : Nat → Prop) : Prop where
  ds : D s
  lt : ∀ k, D k → k < W.heap.size
  len : N.length ≤ 511
  rm : room ≤ 1000000
  pos : ∀ i (h : i < N.length), 0 < N[i].2.length ∧ N[i].2.length ≤ 1000
  mem : ∃ la cap, W.heap[s]? = some (.cells #[.slice la N.length cap, .int .i64 (room : Int)] 30 (0, 0)) ∧ (N.length = 0 → la = none ∧ cap = 0) ∧
    (0 < N.length → ∃ b, la = some ⟨b, 0, none⟩ ∧ D b ∧ b ≠ s ∧ N.length ≤ cap ∧ cap ≤ maxLen ∧ ∀ i (h : i < N.length), NodeAt W (fun k => D k ∧ k ≠ s) b (i * 2) N[i])

theorem IsSh.kept {W W' : World} {s room : Nat} {N : List Nd} {D : Nat → Prop} (h : IsSh W s room N D) (hk : KeptIn D W W') : IsSh W' s room N D := by
  obtain ⟨la, cap, h1, h0, h2⟩ := h.mem
  refine ⟨h.ds, fun k hD => Nat.lt_of_lt_of_le (h.lt k hD) hk.size, h.len, h.rm, h.pos, la, cap, (hk.block s h.ds).trans h1, h0, fun hp => ?_⟩
  obtain ⟨b, e, hb, hne, hc, hm, hi⟩ := h2 hp
  exact ⟨b, e, hb, hne, hc, hm, fun i hl => (hi i hl).kept (hk.mono fun _ h => h.1) ⟨hb, hne⟩ fun _ h => h⟩
theorem IsSh.old {W W' : World} {s room : Nat} {N : List Nd} {D : Nat → Prop} (h : IsSh W s room N D) (hk : KeptIn (· < W.heap.size) W W') : IsSh W' s room N D := h.kept (hk.mono h.lt)

theorem psSet {V : World} {a : Option Addr} {ps : Pairs} (h : IsPs V a ps) (q : Addr) (v : Value) (hq : ∀ p, a = some p → p.block ≠ q.block) : IsPs (V.setCell q v) a ps :=
  psAt (X := fun k => k ≠ q.block) h ((KeptIn.refl _ V).setCell (by simp) v) hq

/-- A node that was read: a copy of its own. -/
def RdS (w : World) (lv : Int) (ps : Pairs) (e : Ending) (w' : World) : Prop :=
  ∃ g cap, e = .returned (.tuple #[leafV lv (some ⟨g, 0, none⟩) ps.length cap, .int .i64 0]) ∧ IsPs w' (some ⟨g, 0, none⟩) ps ∧ w.heap.size ≤ g ∧ KeptIn (· < w.heap.size) w w' ∧ TyC w' g ps.length cap

theorem sh_nums (i p n : Nat) (hp : i + 1 = p) (hi : i < n) (hn : n ≤ 511) : (1 : Int) ≤ (p : Int) ∧ (p : Int) ≤ (n : Int) ∧ wrap64 ((p : Int) - 1) = (i : Int) ∧ (0 : Int) ≤ (i : Int) ∧ (i : Int) < (n : Int) ∧ (p : Int) - 1 = (i : Int) ∧ wrap64 (i : Int) = (i : Int) ∧ ¬ n < p := by
  refine ⟨by omega, by omega, ?_, by omega, by omega, by omega, ?_, by omega⟩ <;> unfold wrap64 <;> omega

set_option maxRecDepth 100000 in
theorem shRead {w : World} {s room : Nat} {N : List Nd} {D : Nat → Prop} (h : IsSh w s room N D) (i : Nat) (hi : i < N.length) :
    Calls Try.prog 118 #[.pointer (some ⟨s, 0, none⟩), .int .i64 ((i + 1 : Nat) : Int)] w (RdS w (N[i].1 : Int) N[i].2) := by
  obtain ⟨la, cap, h1, _, h2⟩ := h.mem
  obtain ⟨b, rfl, hb, _, _, _, hn⟩ := h2 (by omega)
  obtain ⟨a, capn, e1, e2, hps, ha⟩ := hn i hi
  obtain ⟨hp0, hp1⟩ := h.pos i hi
  have hl := h.len
  have hsl : s < w.heap.size := h.lt s h.ds
  have hbl : b < w.heap.size := h.lt b hb
  clear h2 hn
  obtain ⟨lv, hlv⟩ : ∃ lv, N[i].1 = lv := ⟨_, rfl⟩
  obtain ⟨ps, hpe⟩ : ∃ ps, N[i].2 = ps := ⟨_, rfl⟩
  rw [hlv] at e1
  rw [hpe] at e2 hps hp0 hp1
  rw [hlv, hpe]
  clear hlv hpe
  obtain ⟨n, hnl⟩ : ∃ n, N.length = n := ⟨_, rfl⟩
  rw [hnl] at h1 hi hl
  obtain ⟨p, hp⟩ : ∃ p, i + 1 = p := ⟨_, rfl⟩
  rw [hp]
  have CC := Lib.hid fun V (hk : KeptIn (· < w.heap.size) w V) => trCopy (lv : Int) a capn ps V (hps.old hk) hp0 (Nat.le_trans hp1 (by decide))
  obtain ⟨p0, p1, p2, i0, i1, p3, p4, p5⟩ := sh_nums i p n hp hi hl
  obtain ⟨W, hW⟩ : ∃ W, w.alloc (.cells #[.int .i64 0, .slice none 0 0] 27) = W := ⟨_, rfl⟩
  have hk : KeptIn (· < w.heap.size) w W := by rw [← hW]; exact (KeptIn.refl _ w).alloc (fun _ h => h) _
  have hr : BoxL w.heap.size 0 none 0 0 W := by rw [← hW]; exact BoxL.new w 0 none 0 0
  obtain ⟨x, hx⟩ : ∃ x, w.heap.size = x := ⟨_, rfl⟩
  have hsb := (hk.block s hsl).trans h1
  have c0 : W.cell? ⟨s, 0, none⟩ = some (.slice (some ⟨b, 0, none⟩) n cap) := by simp [World.cell?, hsb]
  have d1 := (World.cell?_of_block (a := ⟨b, i * 2, none⟩) (hk.block b hbl)).trans e1
  have d2 := (World.cell?_of_block (a := ⟨b, i * 2 + 1, none⟩) (hk.block b hbl)).trans e2
  have HC := Lib.hid (CC.out W hk)
  have HQ := Lib.hid (And.intro hr hk)
  rw [hx] at HQ
  obtain ⟨m, hm⟩ : ∃ m, ps.length = m := ⟨_, rfl⟩
  unfold leafV at HC
  rw [hm] at HC d2
  have HM := Lib.hid hm
  clear CC hps ha hp hp0 hp1 e1 e2 h1 hb hl hnl hi h hr hk hsb hm hbl hsl
  go_enter Try.func118, Try.ntmps118
  go_wp2_with (go_at_call 120; refine HC.out.mono ?_)
  rintro e V ⟨g, cg, rfl, hps, hg, hk, hty⟩
  have hrb := HQ.out.1.kept hk HQ.out.1.lt
  have c3 := hrb.c0
  have f3 := hrb.f0
  have c4 := hrb.c1
  have f4 := hrb.f1
  have hwx : x ≤ W.heap.size := by rw [← hx]; exact HQ.out.2.size
  have hg' : x ≤ g := Nat.le_trans hwx hg
  have hxg : x < g := Nat.lt_of_lt_of_le HQ.out.1.lt hg
  have hkx : KeptIn (· < x) w V := HQ.out.2.trans (hk.mono fun k h => Nat.lt_of_lt_of_le h hwx)
  have HB := Lib.hid hrb
  have HK := Lib.hid hkx
  have HTY := Lib.hid hty
  clear hty
  have HP := Lib.hid (And.intro hps (And.intro hg' hxg))
  clear hrb hk hps hg hg' hxg hkx hwx
  unfold leafV at *
  rw [HM.out]
  go_wp2_with fail
  have hset := BoxL.set (lv' := (lv : Int)) (a' := some ⟨g, 0, none⟩) (n' := m) (cap' := cg) HB.out
  have hps := psSet (psSet HP.out.1 ⟨x, 0, none⟩ (.int .i64 (lv : Int)) (fun p e => by cases e; exact Nat.ne_of_gt HP.out.2.2)) ⟨x, 1, none⟩ (.slice (some ⟨g, 0, none⟩) m cg) (fun p e => by cases e; exact Nat.ne_of_gt HP.out.2.2)
  have hkx := (HK.out.setCell (p := ⟨x, 0, none⟩) (by simp) (.int .i64 (lv : Int))).setCell (p := ⟨x, 1, none⟩) (by simp) (.slice (some ⟨g, 0, none⟩) m cg)
  refine bodyPost_ret (results_leaf rfl _ _ x _ _ _ _ rfl hset) rfl ?_
  exact ⟨g, cg, by rw [HM.out]; rfl, hps, by rw [hx]; exact HP.out.2.1, by rw [hx]; exact hkx, (HTY.out.set _ _ (Nat.ne_of_gt HP.out.2.2)).set _ _ (Nat.ne_of_gt HP.out.2.2)⟩

end Go.Proofs.Ytdbohcdjamhdjaa
/- A copy of a row of pairs that may be empty; of a node that may have no pairs. -/
set_option linter.unusedVariables false
namespace Go.Proofs.Ytdbohcdjamhdjaa
open Go.RowKit

theorem psNone {W : World} {a : Option Addr} {ps : Pairs} (h : ps.length = 0) : IsPs W a ps :=
  ⟨by rw [h]; exact Nat.zero_le _, (fun p hp => by rw [List.length_eq_zero_iff.1 h] at hp; cases hp), (fun hp => by omega)⟩

/-- A copy of pairs, as it came: a block of its own, where there are any. -/
def NewP (B : Nat) (a : Option Addr) (cap : Nat) (ps : Pairs) (W : World) : Prop := IsPs W a ps ∧ (0 < ps.length → ∃ g, a = some ⟨g, 0, none⟩ ∧ B ≤ g ∧ TyC W g ps.length cap)
theorem NewP.set {B cap : Nat} {a : Option Addr} {ps : Pairs} {W : World} (h : NewP B a cap ps W) (q : Addr) (v : Value) (hq : q.block < B) : NewP B a cap ps (W.setCell q v) := by
  by_cases h0 : ps.length = 0
  · exact ⟨psNone h0, fun hp => by omega⟩
  · obtain ⟨g, rfl, hg, ht⟩ := h.2 (by omega)
    exact ⟨psSet h.1 q v (fun p e => by cases e; show g ≠ q.block; omega), fun _ => ⟨g, rfl, hg, ht.set q v (by omega)⟩⟩
theorem NewP.mono {B B' cap : Nat} {a : Option Addr} {ps : Pairs} {W : World} (h : NewP B a cap ps W) (hB : B' ≤ B) : NewP B' a cap ps W :=
  ⟨h.1, fun hp => by
    obtain ⟨g, e, hg, ht⟩ := h.2 hp
    exact ⟨g, e, Nat.le_trans hB hg, ht⟩⟩

def CloneA (w : World) (ps : Pairs) (e : Ending) (w' : World) : Prop := ∃ a cap, e = .returned (.slice a ps.length cap) ∧ NewP w.heap.size a cap ps w' ∧ KeptIn (· < w.heap.size) w w'

set_option maxRecDepth 100000 in
theorem pCloneE (a : Option Addr) (cap : Nat) (w : World) : Calls Try.prog 78 #[.slice a 0 cap] w fun e w' => ∃ a cap, e = .returned (.slice a 0 cap) ∧ KeptIn (· < w.heap.size) w w' := by
  cases a with
  | none =>
    have heq : ∀ V : World, Sem.run Try.prog (binOp .eql 25 (.slice none 0 cap) (.slice none 0 0)) V = .ok (.bool true) V := fun _ => by rfl
    go_enter Try.func78, Try.ntmps78
    go_wp2_with fail
    go_ret
    exact ⟨none, 0, rfl, KeptIn.refl _ _⟩
  | some ad =>
    have heq : ∀ V : World, Sem.run Try.prog (binOp .eql 25 (.slice (some ad) 0 cap) (.slice none 0 0)) V = .ok (.bool false) V := fun _ => by rfl
    go_enter Try.func78, Try.ntmps78
    go_wp2_with fail
    go_ret
    exact ⟨_, _, rfl, (KeptIn.refl _ w).alloc (fun _ h => h) _⟩
theorem pCloneA (a : Option Addr) (cap : Nat) (ps : Pairs) (w : World) (h : IsPs w a ps) (hl : ps.length ≤ 1000000) : Calls Try.prog 78 #[.slice a ps.length cap] w (CloneA w ps) := by
  by_cases h0 : ps.length = 0
  · rw [h0]
    refine (pCloneE a cap w).mono ?_
    rintro e w' ⟨a', cap', rfl, hk⟩
    exact ⟨a', cap', by rw [h0], ⟨psNone h0, fun hp => by omega⟩, hk⟩
  · refine (pClone a cap ps w h (by omega) hl).mono ?_
    rintro e w' ⟨g, cap', rfl, hrow, hk⟩
    exact ⟨_, cap', rfl, ⟨row_IsPs hrow h.fits, fun _ => ⟨g, rfl, (rowS_lt hrow g rfl).1, row_TyP hrow, row_cap hrow⟩⟩, hk⟩

/-- A copy of a node. -/
def CopyA (w : World) (lv : Int) (ps : Pairs) (e : Ending) (w' : World) : Prop := ∃ a cap, e = .returned (leafV lv a ps.length cap) ∧ NewP w.heap.size a cap ps w' ∧ KeptIn (· < w.heap.size) w w'

set_option maxRecDepth 100000 in
theorem trCopyA (lv : Int) (a : Option Addr) (cap : Nat) (ps : Pairs) (w : World) (h : IsPs w a ps) (hl : ps.length ≤ 1000000) :
    Calls Try.prog 120 #[leafV lv a ps.length cap] w (CopyA w lv ps) := by
  have CC := Lib.hid fun V (hk : KeptIn (· < w.heap.size) w V) => pCloneA a cap ps V (h.old hk) hl
  obtain ⟨n, hn⟩ : ∃ n, ps.length = n := ⟨_, rfl⟩
  have HN := Lib.hid hn
  obtain ⟨W, hW⟩ : ∃ W, (w.alloc (.cells #[.int .i64 lv, .slice a n cap] 27)).alloc (.cells #[.int .i64 0, .slice none 0 0] 27) = W := ⟨_, rfl⟩
  have hb : BoxL w.heap.size lv a n cap W := by rw [← hW]; exact (BoxL.new w lv a n cap).kept ((KeptIn.refl _ _).alloc (fun _ h => h) _) (by simp)
  obtain ⟨x, hx⟩ : ∃ x, w.heap.size = x := ⟨_, rfl⟩
  have hr : BoxL (x + 1) 0 none 0 0 W := by rw [← hW, ← hx, show w.heap.size + 1 = (w.alloc (.cells #[.int .i64 lv, .slice a n cap] 27)).heap.size by simp]; exact BoxL.new _ 0 none 0 0
  have hk : KeptIn (· < w.heap.size) w W := by rw [← hW]; exact ((KeptIn.refl _ w).alloc (fun _ h => h) _).alloc (fun _ h => h) _
  unfold leafV at *
  rw [hn] at CC ⊢
  have HW := Lib.hid hW
  have HX := Lib.hid hx
  have HQ := Lib.hid (And.intro hb (And.intro hr hk))
  clear h hn hl hW hx hb hr hk
  go_enter Try.func120, Try.ntmps120
  go_wp2_with fail
  rw [HW.out, HX.out]
  have hxl : x < W.heap.size := by have := HQ.out.1.lt; rw [HX.out] at this; exact this
  have HB : Hid (∀ V, KeptIn (· < W.heap.size) W V → (V.cell? ⟨x, 0, none⟩ = some (.int .i64 lv) ∧ V.cell? ⟨x, 1, none⟩ = some (.slice a n cap)) ∧ BoxL (x + 1) 0 none 0 0 V ∧ KeptIn (· < w.heap.size) w V) := Lib.hid fun V hV => by
    have h1 := HQ.out.1.kept hV HQ.out.1.lt
    rw [HX.out] at h1
    exact ⟨⟨h1.c0, h1.c1⟩, HQ.out.2.1.kept hV HQ.out.2.1.lt, HQ.out.2.2.trans (hV.mono fun k hk => Nat.lt_of_lt_of_le hk HQ.out.2.2.size)⟩
  have hk0 : KeptIn (· < W.heap.size) W W.drew := (KeptIn.refl _ _).drew
  obtain ⟨⟨c0, c1⟩, hr0, _⟩ := HB.out _ hk0
  have c3 := hr0.c0
  have f3 := hr0.f0
  have c4 := hr0.c1
  have f4 := hr0.f1
  clear hr0
  go_region_with (go_at_call 78; refine (CC.out _ (HB.out _ hk0).2.2).mono ?_; rintro e V ⟨g, cap', rfl, hrow, hk⟩; obtain ⟨⟨d0, d1⟩, hr1, hk1⟩ := HB.out _ (hk0.go hk); have d3 := hr1.c0; have e3 := hr1.f0; have d4 := hr1.c1; have e4 := hr1.f1)
  all_goals
    have hset := BoxL.set (lv' := lv) (a' := g) (n' := ps.length) (cap' := cap') hr1
    have hkx := (hk1.setCell (p := ⟨x + 1, 0, none⟩) (by rw [HX.out]; simp) (.int .i64 lv)).setCell (p := ⟨x + 1, 1, none⟩) (by rw [HX.out]; simp) (.slice g ps.length cap')
    have hxd : x + 1 < W.drew.heap.size := Nat.lt_of_lt_of_le HQ.out.2.1.lt hk0.size
    have hnew := ((hrow.set ⟨x + 1, 0, none⟩ (.int .i64 lv) hxd).set ⟨x + 1, 1, none⟩ (.slice g ps.length cap') hxd).mono (Nat.le_trans HQ.out.2.2.size hk0.size)
    obtain ⟨V2, hV2⟩ : ∃ V2, (V.setCell ⟨x + 1, 0, none⟩ (.int .i64 lv)).setCell ⟨x + 1, 1, none⟩ (.slice g ps.length cap') = V2 := ⟨_, rfl⟩
    rw [hV2] at hset hkx hnew ⊢
    clear hV2
    go_wp2_with fail
    refine bodyPost_ret (results_leaf1 rfl _ _ (x + 1) _ _ _ _ rfl hset) rfl ?_
    exact ⟨g, cap', rfl, hnew, hkx⟩

end Go.Proofs.Ytdbohcdjamhdjaa
