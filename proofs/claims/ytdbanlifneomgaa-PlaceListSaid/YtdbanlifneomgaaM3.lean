import Derived.Test.YtdbanlifneomgaaRow5L
import Derived.Deep.RegionWith
import Derived.Deep.RegionLaw
import Derived.Handy
import Derived.Deep.DeepMust
import Derived.Test.YtdbanlifneomgaaM2
import Derived.Deep.RegionHeld3
import Derived.BigRegion
import Derived.BigQuiet
/- Copies of pairs and of nodes (package tree's copyOf). -/
set_option linter.unusedVariables false
namespace Go.Proofs.Ytdbanlifneomgaa
open Go.RowKit

theorem psAt {X : Nat → Prop} {W W' : World} {a : Option Addr} {ps : Pairs} (h : IsPs W a ps) (hk : KeptIn X W W') (hX : ∀ p, a = some p → X p.block) : IsPs W' a ps :=
  ⟨h.len, h.fits, fun hp => by
    obtain ⟨b, off, e, hb, hc⟩ := h.cells hp
    have hb' := hX _ e
    exact ⟨b, off, e, Nat.lt_of_lt_of_le hb hk.size, fun i hi => ⟨(World.cell?_of_block (a := ⟨b, off + i * 2, none⟩) (hk.block b hb')).trans (hc i hi).1, (World.cell?_of_block (a := ⟨b, off + i * 2 + 1, none⟩) (hk.block b hb')).trans (hc i hi).2⟩⟩⟩

theorem addr_add (b off j : Nat) : (⟨b, off, none⟩ : Addr).add j = ⟨b, off + j, none⟩ := by unfold Addr.add; split <;> simp_all
/-- What is appended of a row of pairs. -/
theorem psNews {W : World} {ad : Addr} {ps : Pairs} (h : IsPs W (some ad) ps) (h0 : 0 < ps.length) : ∀ j u, (cellsP ps)[j]? = some u → W.cell? (ad.add j) = some u := by
  obtain ⟨b, off, e, hb, hc⟩ := h.cells h0
  obtain rfl := Option.some.inj e
  intro j u hu
  have hj : j < ps.length * 2 := by rw [← cellsP_length]; exact (List.getElem?_eq_some_iff.1 hu).1
  have hq : j / 2 < ps.length := by omega
  obtain ⟨c1, c2⟩ := cellsP_at ps _ hq
  obtain ⟨d1, d2⟩ := hc _ hq
  rcases Nat.mod_two_eq_zero_or_one j with e | e
  · have : j / 2 * 2 = j := by omega
    rw [this] at c1 d1
    rw [c1] at hu
    rw [← Option.some.inj hu]
    rw [addr_add]
    exact d1
  · have : j / 2 * 2 + 1 = j := by omega
    rw [this] at c2
    rw [Nat.add_assoc, this] at d2
    rw [c2] at hu
    rw [← Option.some.inj hu]
    rw [addr_add]
    exact d2
theorem cellsP_one (ps : Pairs) : ∀ u ∈ cellsP ps, u.oneCell' = true := by
  induction ps with
  | nil => intro u h; cases h
  | cons p r ih =>
    intro u h
    rcases List.mem_cons.1 h with rfl | h
    · rfl
    rcases List.mem_cons.1 h with rfl | h
    · rfl
    exact ih u h
theorem psSome {W : World} {a : Option Addr} {ps : Pairs} (h : IsPs W a ps) (h0 : 0 < ps.length) : ∃ b off, a = some ⟨b, off, none⟩ ∧ b < W.heap.size := by
  obtain ⟨b, off, e, hb, _⟩ := h.cells h0
  exact ⟨b, off, e, hb⟩

/-- A copy of a row of pairs. -/
def CloneS (w : World) (ps : Pairs) (e : Ending) (w' : World) : Prop :=
  ∃ g cap, e = .returned (.slice (some ⟨g, 0, none⟩) ps.length cap) ∧ w'.ownsRow w.heap.size 50 2 (.slice (some ⟨g, 0, none⟩) ps.length cap) ps.length (cellsP ps) ∧ KeptIn (· < w.heap.size) w w'

set_option maxRecDepth 100000 in
theorem pClone (a : Option Addr) (cap : Nat) (ps : Pairs) (w : World) (h : IsPs w a ps) (h0 : 0 < ps.length) (hl : ps.length ≤ 1000000) :
    Calls Try.prog 73 #[.slice a ps.length cap] w (CloneS w ps) := by
  obtain ⟨b, off, rfl, hb⟩ := psSome h h0
  obtain ⟨n, hn⟩ : ∃ n, ps.length = n := ⟨_, rfl⟩
  have HN := Lib.hid hn
  have H := Lib.hid h
  have hn0 : 0 < n := by omega
  have hm : n ≤ 1000000 := by omega
  rw [hn]
  clear h hn h0 hl
  obtain ⟨i, hi, hz0, hz1, hz2⟩ := info_parts infoPair
  have heq : ∀ V : World, Sem.run Try.prog (binOp .eql 25 (.slice (some ⟨b, off, none⟩) n cap) (.slice none 0 0)) V = .ok (.bool false) V := fun _ => by rfl
  obtain ⟨W, hW⟩ : ∃ W, w.alloc (.cells #[] 50) = W := ⟨_, rfl⟩
  have k1 : KeptIn (· < w.heap.size) w W := by rw [← hW]; exact (KeptIn.refl _ w).alloc (fun _ h => h) _
  have hr : W.ownsRow w.heap.size 50 2 (.slice (some ⟨w.heap.size, 0, none⟩) 0 0) 0 [] := ⟨rfl, .inr ⟨w.heap.size, 0, #[], rfl, Nat.le_refl _, by rw [← hW]; exact heap_alloc_new w _, Nat.le_refl _, Nat.zero_le _, rfl, rfl⟩⟩
  have HK := Lib.hid k1
  have HW := Lib.hid hW
  have hsz : w.heap.size ≤ W.heap.size := k1.size
  have hnl : (cellsP ps).length = n * 2 := by rw [cellsP_length, HN.out]
  have hnews := psNews (H.out.old HK.out) (by rw [HN.out]; exact hn0)
  have HC := Lib.hid hnews
  have HL := Lib.hid hnl
  have HR := Lib.hid hr
  clear hnews hnl hr k1 hW
  go_enter Try.func73, Try.ntmps73
  go_wp2_with (at_builtin; rw [HW.out]; refine wpList_append_lies _ rfl _ _ 25 rfl w.heap.size 50 i _ 2 16 Try.underlying25 hi hz0 hz1 hz2 rfl (by decide) _ 0 [] rfl HR.out ⟨b, off, none⟩ n cap (cellsP ps) rfl HL.out HC.out (cellsP_one ps) hn0 (by unfold maxLen; omega) (by omega) hsz _ rfl ?_)
  intro g cap' w' hown hgrow _ _
  have HOWN := Lib.hid hown
  have HG := Lib.hid (HK.out.grown (fun _ h => h) hgrow (fun g' e => by
    have := (rowS_lt HR.out g' e).1
    omega))
  clear hown hgrow
  go_wp2_with fail
  go_ret
  exact ⟨g, cap', by rw [HN.out]; simp, by rw [HN.out]; simpa using HOWN.out, HG.out⟩

theorem KeptIn.go {a b c : World} (h : KeptIn (· < a.heap.size) a b) (k : KeptIn (· < b.heap.size) b c) : KeptIn (· < a.heap.size) a c := h.trans (k.mono fun _ hk => Nat.lt_of_lt_of_le hk h.size)
theorem results_leaf1 {fn : Func} {p : Tmp} (h : fn.results = #[.cell p 27]) (tmps : Array Value) (w : World) (x : Nat) (lv : Int) (a : Option Addr) (n cap : Nat)
    (hp : tmps.getD p undef = .pointer (some ⟨x, 0, none⟩)) (hb : BoxL x lv a n cap w) : (results fn tmps).run Try.prog w = .ok (leafV lv a n cap) w := by
  have hr := run_loadVar_row (P := Try.prog) w x 27 27 _ _ _ hb Try.underlying27 rfl (by kernel_rfl)
  have hp' : tmps[p]?.getD undef = .pointer (some ⟨x, 0, none⟩) := by simpa using hp
  simp [results, h, hp', asAddr, hr, leafV]

/-- A block of pairs. -/
def TyP (W : World) (g : Nat) : Prop := ∃ cs fr, W.heap[g]? = some (.cells cs 50 fr)
theorem TyP.kept {W W' : World} {g : Nat} (h : TyP W g) (e : W'.heap[g]? = W.heap[g]?) : TyP W' g := by
  obtain ⟨cs, fr, h⟩ := h
  exact ⟨cs, fr, e.trans h⟩
theorem TyP.lt {W : World} {g : Nat} (h : TyP W g) : g < W.heap.size := by
  obtain ⟨cs, fr, h⟩ := h
  exact (Array.getElem?_eq_some_iff.1 h).1
theorem TyP.old {W W' : World} {g : Nat} (h : TyP W g) (hk : KeptIn (· < W.heap.size) W W') : TyP W' g := h.kept (hk.block g h.lt)
theorem TyP.set {W : World} {g : Nat} (h : TyP W g) (q : Addr) (v : Value) (hq : g ≠ q.block) : TyP (W.setCell q v) g := h.kept (heap_setCell_other _ _ _ _ (by simpa using hq))
theorem row_TyP {W : World} {B g n cap : Nat} {xs : List Value} (h : W.ownsRow B 50 2 (.slice (some ⟨g, 0, none⟩) n cap) n xs) : TyP W g := by
  rcases h.2 with ⟨e, _⟩ | ⟨g1, cap1, cur, e, _, hc, _⟩
  · cases e
  · simp only [Value.slice.injEq, Option.some.injEq, Addr.mk.injEq, and_true, true_and] at e
    obtain ⟨rfl, rfl⟩ := e
    exact ⟨_, _, hc⟩

theorem row_cap {W : World} {B g n cap : Nat} {xs : List Value} (h : W.ownsRow B 50 2 (.slice (some ⟨g, 0, none⟩) n cap) n xs) : n ≤ cap ∧ cap ≤ maxLen := by
  rcases h.2 with ⟨e, _⟩ | ⟨g1, cap1, cur, e, _, _, h1, h2, _⟩
  · cases e
  · simp only [Value.slice.injEq, Option.some.injEq, Addr.mk.injEq, and_true, true_and] at e
    obtain ⟨rfl, rfl⟩ := e
    exact ⟨h1, h2⟩
/-- A block of pairs, with room for so many. -/
def TyC (W : World) (g n cap : Nat) : Prop := TyP W g ∧ n ≤ cap ∧ cap ≤ maxLen
theorem TyC.old {W W' : World} {g n cap : Nat} (h : TyC W g n cap) (hk : KeptIn (· < W.heap.size) W W') : TyC W' g n cap := ⟨h.1.old hk, h.2⟩
theorem TyC.set {W : World} {g n cap : Nat} (h : TyC W g n cap) (q : Addr) (v : Value) (hq : g ≠ q.block) : TyC (W.setCell q v) g n cap := ⟨h.1.set q v hq, h.2⟩

/-- A copy of a node. -/
def CopyS (w : World) (lv : Int) (ps : Pairs) (e : Ending) (w' : World) : Prop :=
  ∃ g cap, e = .returned (leafV lv (some ⟨g, 0, none⟩) ps.length cap) ∧ IsPs w' (some ⟨g, 0, none⟩) ps ∧ w.heap.size ≤ g ∧ KeptIn (· < w.heap.size) w w' ∧ TyC w' g ps.length cap

set_option maxRecDepth 100000 in
theorem trCopy (lv : Int) (a : Option Addr) (cap : Nat) (ps : Pairs) (w : World) (h : IsPs w a ps) (h0 : 0 < ps.length) (hl : ps.length ≤ 1000000) :
    Calls Try.prog 127 #[leafV lv a ps.length cap] w (CopyS w lv ps) := by
  have CC := Lib.hid fun V (hk : KeptIn (· < w.heap.size) w V) => pClone a cap ps V (h.old hk) h0 hl
  obtain ⟨n, hn⟩ : ∃ n, ps.length = n := ⟨_, rfl⟩
  have HN := Lib.hid hn
  have HF := Lib.hid h.fits
  obtain ⟨W, hW⟩ : ∃ W, (w.alloc (.cells #[.int .i64 lv, .slice a n cap] 27)).alloc (.cells #[.int .i64 0, .slice none 0 0] 27) = W := ⟨_, rfl⟩
  have hb : BoxL w.heap.size lv a n cap W := by rw [← hW]; exact (BoxL.new w lv a n cap).kept ((KeptIn.refl _ _).alloc (fun _ h => h) _) (by simp)
  obtain ⟨x, hx⟩ : ∃ x, w.heap.size = x := ⟨_, rfl⟩
  have hr : BoxL (x + 1) 0 none 0 0 W := by rw [← hW, ← hx, show w.heap.size + 1 = (w.alloc (.cells #[.int .i64 lv, .slice a n cap] 27)).heap.size by simp]; exact BoxL.new _ 0 none 0 0
  have hk : KeptIn (· < w.heap.size) w W := by rw [← hW]; exact ((KeptIn.refl _ w).alloc (fun _ h => h) _).alloc (fun _ h => h) _
  unfold leafV at *
  rw [hn] at CC ⊢
  have HW := Lib.hid hW
  have HX := Lib.hid hx
  have HQ := Lib.hid (And.intro hb (And.intro hr hk))
  clear h hn h0 hl hW hx hb hr hk
  go_enter Try.func127, Try.ntmps127
  go_wp2_with fail
  rw [HW.out, HX.out]
  have hxl : x < W.heap.size := by have := HQ.out.1.lt; rw [HX.out] at this; exact this
  have HB : Hid (∀ V, KeptIn (· < W.heap.size) W V → (V.cell? ⟨x, 0, none⟩ = some (.int .i64 lv) ∧ V.cell? ⟨x, 1, none⟩ = some (.slice a n cap)) ∧ BoxL (x + 1) 0 none 0 0 V ∧ KeptIn (· < w.heap.size) w V) := Lib.hid fun V hV => by
    have h1 := HQ.out.1.kept hV HQ.out.1.lt
    rw [HX.out] at h1
    exact ⟨⟨h1.c0, h1.c1⟩, HQ.out.2.1.kept hV HQ.out.2.1.lt, HQ.out.2.2.trans (hV.mono fun k hk => Nat.lt_of_lt_of_le hk HQ.out.2.2.size)⟩
  have hk0 : KeptIn (· < W.heap.size) W W.drew := (KeptIn.refl _ _).drew
  obtain ⟨⟨c0, c1⟩, hr0, _⟩ := HB.out _ hk0
  have c3 := hr0.c0
  have f3 := hr0.f0
  have c4 := hr0.c1
  have f4 := hr0.f1
  clear hr0
  go_region_with (go_at_call 73; refine (CC.out _ (HB.out _ hk0).2.2).mono ?_; rintro e V ⟨g, cap', rfl, hrow, hk⟩; obtain ⟨⟨d0, d1⟩, hr1, hk1⟩ := HB.out _ (hk0.go hk); have d3 := hr1.c0; have e3 := hr1.f0; have d4 := hr1.c1; have e4 := hr1.f1)
  all_goals
    have hset := BoxL.set (lv' := lv) (a' := some ⟨g, 0, none⟩) (n' := ps.length) (cap' := cap') hr1
    have hkx := (hk1.setCell (p := ⟨x + 1, 0, none⟩) (by rw [HX.out]; simp) (.int .i64 lv)).setCell (p := ⟨x + 1, 1, none⟩) (by rw [HX.out]; simp) (.slice (some ⟨g, 0, none⟩) ps.length cap')
    have hg1 := (rowS_lt hrow g rfl).1
    obtain ⟨V2, hV2⟩ : ∃ V2, (V.setCell ⟨x + 1, 0, none⟩ (.int .i64 lv)).setCell ⟨x + 1, 1, none⟩ (.slice (some ⟨g, 0, none⟩) ps.length cap') = V2 := ⟨_, rfl⟩
    have hrow2 : V2.ownsRow W.drew.heap.size 50 2 (.slice (some ⟨g, 0, none⟩) ps.length cap') ps.length (cellsP ps) := by
      rw [← hV2]
      exact rowS_block hrow fun g' e => by
        obtain rfl : g = g' := by simpa [Value.ownBlock] using e
        have : x + 1 < g := Nat.lt_of_lt_of_le HQ.out.2.1.lt (Nat.le_trans hk0.size hg1)
        exact (heap_setCell_other _ _ _ _ (by simp; omega)).trans (heap_setCell_other _ _ _ _ (by simp; omega))
    have hps : IsPs V2 (some ⟨g, 0, none⟩) ps := row_IsPs hrow2 HF.out
    have hge : w.heap.size ≤ g := Nat.le_trans (Nat.le_trans HQ.out.2.2.size hk0.size) hg1
    rw [hV2] at hset hkx ⊢
    clear hV2
    go_wp2_with fail
    refine bodyPost_ret (results_leaf1 rfl _ _ (x + 1) _ _ _ _ rfl hset) rfl ?_
    exact ⟨g, cap', rfl, hps, hge, hkx, row_TyP hrow2, row_cap hrow2⟩

end Go.Proofs.Ytdbanlifneomgaa
/- A pair in a box; functions that answer one. -/
set_option linter.unusedVariables false
namespace Go.Proofs.Ytdbanlifneomgaa
open Go.RowKit

/-- A pair, boxed. -/
def BoxP (x k v : Nat) (W : World) : Prop := W.heap[x]? = some (.cells #[.int .u64 (k : Int), .int .u64 (v : Int)] 50 (0, 0))
section
variable {x k v : Nat} {W W' : World}
theorem BoxP.c0 (h : BoxP x k v W) : W.cell? ⟨x, 0, none⟩ = some (.int .u64 (k : Int)) := by simp [World.cell?, show W.heap[x]? = _ from h]
theorem BoxP.c1 (h : BoxP x k v W) : W.cell? ⟨x, 1, none⟩ = some (.int .u64 (v : Int)) := by simp [World.cell?, show W.heap[x]? = _ from h]
theorem BoxP.f0 (h : BoxP x k v W) : W.frozen? ⟨x, 0, none⟩ = false := by simp [World.frozen?, show W.heap[x]? = _ from h]
theorem BoxP.f1 (h : BoxP x k v W) : W.frozen? ⟨x, 1, none⟩ = false := by simp [World.frozen?, show W.heap[x]? = _ from h]
theorem BoxP.lt (h : BoxP x k v W) : x < W.heap.size := (Array.getElem?_eq_some_iff.1 h).1
theorem BoxP.kept {X : Nat → Prop} (h : BoxP x k v W) (hk : KeptIn X W W') (hX : X x) : BoxP x k v W' := (hk.block x hX).trans h
theorem BoxP.new (w : World) (k v : Nat) : BoxP w.heap.size k v (w.alloc (.cells #[.int .u64 (k : Int), .int .u64 (v : Int)] 50)) := heap_alloc_new w _
theorem BoxP.set (h : BoxP x k v W) (k' v' : Nat) : BoxP x k' v' ((W.setCell ⟨x, 0, none⟩ (.int .u64 (k' : Int))).setCell ⟨x, 1, none⟩ (.int .u64 (v' : Int))) := by
  have h1 : (W.setCell ⟨x, 0, none⟩ (.int .u64 (k' : Int))).heap[x]? = _ := heap_setCell_same _ _ _ _ _ _ h
  have h2 : ((W.setCell ⟨x, 0, none⟩ (.int .u64 (k' : Int))).setCell ⟨x, 1, none⟩ (.int .u64 (v' : Int))).heap[x]? = _ := heap_setCell_same _ _ _ _ _ _ h1
  exact h2.trans rfl
end
theorem results_pair_tmp {fn : Func} {p u : Tmp} (h : fn.results = #[.cell p 50, .tmp u]) (tmps : Array Value) (w : World) (x k v : Nat)
    (hp : tmps.getD p undef = .pointer (some ⟨x, 0, none⟩)) (hb : BoxP x k v w) : (results fn tmps).run Try.prog w = .ok (.tuple #[pairV (k, v), tmps.getD u undef]) w := by
  have hr := run_loadVar_row (P := Try.prog) w x 50 50 _ _ _ hb Try.underlying50 rfl (by kernel_rfl)
  rw [results_cell_tmp h, hp]
  simp [asAddr, hr, pairV]
theorem results_pair {fn : Func} {p : Tmp} (h : fn.results = #[.cell p 50]) (tmps : Array Value) (w : World) (x k v : Nat)
    (hp : tmps.getD p undef = .pointer (some ⟨x, 0, none⟩)) (hb : BoxP x k v w) : (results fn tmps).run Try.prog w = .ok (pairV (k, v)) w := by
  have hr := run_loadVar_row (P := Try.prog) w x 50 50 _ _ _ hb Try.underlying50 rfl (by kernel_rfl)
  have hp' : tmps[p]?.getD undef = .pointer (some ⟨x, 0, none⟩) := by simpa using hp
  simp [results, h, hp', asAddr, hr, pairV]

end Go.Proofs.Ytdbanlifneomgaa
/- Places (layer 14): whether one can be: the program's and the document's. -/
set_option linter.unusedVariables false
namespace Go.Proofs.Ytdbanlifneomgaa
open Go.RowKit

/-- A place. -/
structure Pla where
  ch : Int
  tier : Int
  slot : Int
  deriving DecidableEq

def plaV (x : Pla) : Value := .agg #[.int .i64 x.ch, .int .i64 x.tier, .int .i64 x.slot]
def spotV (t s : Int) : Value := .agg #[.int .i64 t, .int .i64 s]
def GoodP (x : Pla) : Prop := 1 ≤ x.ch ∧ x.ch ≤ 1023 ∧ (x.tier = 0 ∨ x.tier = 1) ∧ 0 ≤ x.slot ∧ x.slot ≤ 255
instance (x : Pla) : Decidable (GoodP x) := by unfold GoodP; infer_instance


set_option maxHeartbeats 1000000 in
theorem plCan (x : Pla) (w : World) : Calls Try.prog 32 #[plaV x] w fun e w' => e = .returned (.bool (decide (GoodP x))) ∧ KeptIn (· < w.heap.size) w w' := by
  obtain ⟨ch, tier, slot⟩ := x
  unfold plaV
  simp only
  by_cases h1 : (1 : Int) ≤ ch
  · by_cases h2 : ch ≤ 1023
    · by_cases t0 : tier = 0
      · subst t0
        by_cases h4 : (0 : Int) ≤ slot
        · by_cases h5 : slot ≤ 255
          · have hg : decide (GoodP ⟨ch, 0, slot⟩) = true := decide_eq_true ⟨h1, h2, by simp, h4, h5⟩
            rw [hg]
            clear hg
            have h5' : slot < 256 := by omega
            go_enter Try.func32, Try.ntmps32
            go_wp2_with fail
            go_ret
            exact ⟨rfl, (KeptIn.refl _ _).alloc (fun _ h => h) _⟩
          · have h5' : ¬ slot < 256 := by omega
            have hg : decide (GoodP ⟨ch, 0, slot⟩) = false := decide_eq_false (fun h => by obtain ⟨g1, g2, g3, g4, g5⟩ := h; simp only at g1 g2 g3 g4 g5; omega)
            rw [hg]
            clear hg
            go_enter Try.func32, Try.ntmps32
            go_wp2_with fail
            go_ret
            exact ⟨rfl, (KeptIn.refl _ _).alloc (fun _ h => h) _⟩
        · have hg : decide (GoodP ⟨ch, 0, slot⟩) = false := decide_eq_false (fun h => by obtain ⟨g1, g2, g3, g4, g5⟩ := h; simp only at g1 g2 g3 g4 g5; omega)
          rw [hg]
          clear hg
          go_enter Try.func32, Try.ntmps32
          go_wp2_with fail
          go_ret
          exact ⟨rfl, (KeptIn.refl _ _).alloc (fun _ h => h) _⟩
      · by_cases t1 : tier = 1
        · subst t1
          by_cases h4 : (0 : Int) ≤ slot
          · by_cases h5 : slot ≤ 255
            · have hg : decide (GoodP ⟨ch, 1, slot⟩) = true := decide_eq_true ⟨h1, h2, by simp, h4, h5⟩
              rw [hg]
              clear hg
              have h5' : slot < 256 := by omega
              go_enter Try.func32, Try.ntmps32
              go_wp2_with fail
              go_ret
              exact ⟨rfl, (KeptIn.refl _ _).alloc (fun _ h => h) _⟩
            · have h5' : ¬ slot < 256 := by omega
              have hg : decide (GoodP ⟨ch, 1, slot⟩) = false := decide_eq_false (fun h => by obtain ⟨g1, g2, g3, g4, g5⟩ := h; simp only at g1 g2 g3 g4 g5; omega)
              rw [hg]
              clear hg
              go_enter Try.func32, Try.ntmps32
              go_wp2_with fail
              go_ret
              exact ⟨rfl, (KeptIn.refl _ _).alloc (fun _ h => h) _⟩
          · have hg : decide (GoodP ⟨ch, 1, slot⟩) = false := decide_eq_false (fun h => by obtain ⟨g1, g2, g3, g4, g5⟩ := h; simp only at g1 g2 g3 g4 g5; omega)
            rw [hg]
            clear hg
            go_enter Try.func32, Try.ntmps32
            go_wp2_with fail
            go_ret
            exact ⟨rfl, (KeptIn.refl _ _).alloc (fun _ h => h) _⟩
        · have b0 : (tier == 0) = false := by rw [beq_eq_false_iff_ne]; exact t0
          have b1 : (tier == 1) = false := by rw [beq_eq_false_iff_ne]; exact t1
          have hg : decide (GoodP ⟨ch, tier, slot⟩) = false := decide_eq_false (fun h => by obtain ⟨g1, g2, g3, g4, g5⟩ := h; simp only at g1 g2 g3 g4 g5; omega)
          rw [hg]
          clear hg
          go_enter Try.func32, Try.ntmps32
          go_wp2_with fail
          go_ret
          exact ⟨rfl, (KeptIn.refl _ _).alloc (fun _ h => h) _⟩
    · have hg : decide (GoodP ⟨ch, tier, slot⟩) = false := decide_eq_false (fun h => by obtain ⟨g1, g2, g3, g4, g5⟩ := h; simp only at g1 g2 g3 g4 g5; omega)
      rw [hg]
      clear hg
      go_enter Try.func32, Try.ntmps32
      go_wp2_with fail
      go_ret
      exact ⟨rfl, (KeptIn.refl _ _).alloc (fun _ h => h) _⟩
  · have hg : decide (GoodP ⟨ch, tier, slot⟩) = false := decide_eq_false (fun h => by obtain ⟨g1, g2, g3, g4, g5⟩ := h; simp only at g1 g2 g3 g4 g5; omega)
    rw [hg]
    clear hg
    go_enter Try.func32, Try.ntmps32
    go_wp2_with fail
    go_ret
    exact ⟨rfl, (KeptIn.refl _ _).alloc (fun _ h => h) _⟩

set_option maxHeartbeats 1000000 in
theorem r14Can (x : Pla) (w : World) : Calls Try.prog 13 #[.int .i64 x.ch, spotV x.tier x.slot] w fun e w' => e = .returned (.bool (decide (GoodP x))) ∧ KeptIn (· < w.heap.size) w w' := by
  obtain ⟨ch, tier, slot⟩ := x
  unfold spotV
  simp only
  by_cases h1 : (1 : Int) ≤ ch
  · by_cases h2 : ch ≤ 1023
    · by_cases t0 : tier = 0
      · subst t0
        by_cases h4 : (0 : Int) ≤ slot
        · by_cases h5 : slot ≤ 255
          · have hg : decide (GoodP ⟨ch, 0, slot⟩) = true := decide_eq_true ⟨h1, h2, by simp, h4, h5⟩
            rw [hg]
            clear hg
            have h5' : slot < 256 := by omega
            go_enter Try.func13, Try.ntmps13
            go_wp2_with fail
            go_ret
            exact ⟨rfl, (KeptIn.refl _ _).alloc (fun _ h => h) _⟩
          · have h5' : ¬ slot < 256 := by omega
            have hg : decide (GoodP ⟨ch, 0, slot⟩) = false := decide_eq_false (fun h => by obtain ⟨g1, g2, g3, g4, g5⟩ := h; simp only at g1 g2 g3 g4 g5; omega)
            rw [hg]
            clear hg
            go_enter Try.func13, Try.ntmps13
            go_wp2_with fail
            go_ret
            exact ⟨rfl, (KeptIn.refl _ _).alloc (fun _ h => h) _⟩
        · have hg : decide (GoodP ⟨ch, 0, slot⟩) = false := decide_eq_false (fun h => by obtain ⟨g1, g2, g3, g4, g5⟩ := h; simp only at g1 g2 g3 g4 g5; omega)
          rw [hg]
          clear hg
          go_enter Try.func13, Try.ntmps13
          go_wp2_with fail
          go_ret
          exact ⟨rfl, (KeptIn.refl _ _).alloc (fun _ h => h) _⟩
      · by_cases t1 : tier = 1
        · subst t1
          by_cases h4 : (0 : Int) ≤ slot
          · by_cases h5 : slot ≤ 255
            · have hg : decide (GoodP ⟨ch, 1, slot⟩) = true := decide_eq_true ⟨h1, h2, by simp, h4, h5⟩
              rw [hg]
              clear hg
              have h5' : slot < 256 := by omega
              go_enter Try.func13, Try.ntmps13
              go_wp2_with fail
              go_ret
              exact ⟨rfl, (KeptIn.refl _ _).alloc (fun _ h => h) _⟩
            · have h5' : ¬ slot < 256 := by omega
              have hg : decide (GoodP ⟨ch, 1, slot⟩) = false := decide_eq_false (fun h => by obtain ⟨g1, g2, g3, g4, g5⟩ := h; simp only at g1 g2 g3 g4 g5; omega)
              rw [hg]
              clear hg
              go_enter Try.func13, Try.ntmps13
              go_wp2_with fail
              go_ret
              exact ⟨rfl, (KeptIn.refl _ _).alloc (fun _ h => h) _⟩
          · have hg : decide (GoodP ⟨ch, 1, slot⟩) = false := decide_eq_false (fun h => by obtain ⟨g1, g2, g3, g4, g5⟩ := h; simp only at g1 g2 g3 g4 g5; omega)
            rw [hg]
            clear hg
            go_enter Try.func13, Try.ntmps13
            go_wp2_with fail
            go_ret
            exact ⟨rfl, (KeptIn.refl _ _).alloc (fun _ h => h) _⟩
        · have b0 : (tier == 0) = false := by rw [beq_eq_false_iff_ne]; exact t0
          have b1 : (tier == 1) = false := by rw [beq_eq_false_iff_ne]; exact t1
          have hg : decide (GoodP ⟨ch, tier, slot⟩) = false := decide_eq_false (fun h => by obtain ⟨g1, g2, g3, g4, g5⟩ := h; simp only at g1 g2 g3 g4 g5; omega)
          rw [hg]
          clear hg
          go_enter Try.func13, Try.ntmps13
          go_wp2_with fail
          go_ret
          exact ⟨rfl, (KeptIn.refl _ _).alloc (fun _ h => h) _⟩
    · have hg : decide (GoodP ⟨ch, tier, slot⟩) = false := decide_eq_false (fun h => by obtain ⟨g1, g2, g3, g4, g5⟩ := h; simp only at g1 g2 g3 g4 g5; omega)
      rw [hg]
      clear hg
      go_enter Try.func13, Try.ntmps13
      go_wp2_with fail
      go_ret
      exact ⟨rfl, (KeptIn.refl _ _).alloc (fun _ h => h) _⟩
  · have hg : decide (GoodP ⟨ch, tier, slot⟩) = false := decide_eq_false (fun h => by obtain ⟨g1, g2, g3, g4, g5⟩ := h; simp only at g1 g2 g3 g4 g5; omega)
    rw [hg]
    clear hg
    go_enter Try.func13, Try.ntmps13
    go_wp2_with fail
    go_ret
    exact ⟨rfl, (KeptIn.refl _ _).alloc (fun _ h => h) _⟩

end Go.Proofs.Ytdbanlifneomgaa
/- Places: the pair of a place. -/
set_option linter.unusedVariables false
namespace Go.Proofs.Ytdbanlifneomgaa
open Go.RowKit

def keyP (x : Pla) : Nat := 8589934592 + x.ch.toNat
def valP (x : Pla) : Nat := x.tier.toNat + x.slot.toNat * 256

/-- A place, boxed. -/
def BoxPl (y : Nat) (x : Pla) (W : World) : Prop := W.heap[y]? = some (.cells #[.int .i64 x.ch, .int .i64 x.tier, .int .i64 x.slot] 47 (0, 0))
/-- A spot, boxed. -/
def BoxSp (y : Nat) (t s : Int) (W : World) : Prop := W.heap[y]? = some (.cells #[.int .i64 t, .int .i64 s] 45 (0, 0))
section
variable {y : Nat} {x : Pla} {t s : Int} {W W' : World}
theorem BoxPl.c0 (h : BoxPl y x W) : W.cell? ⟨y, 0, none⟩ = some (.int .i64 x.ch) := by simp [World.cell?, show W.heap[y]? = _ from h]
theorem BoxPl.c1 (h : BoxPl y x W) : W.cell? ⟨y, 1, none⟩ = some (.int .i64 x.tier) := by simp [World.cell?, show W.heap[y]? = _ from h]
theorem BoxPl.c2 (h : BoxPl y x W) : W.cell? ⟨y, 2, none⟩ = some (.int .i64 x.slot) := by simp [World.cell?, show W.heap[y]? = _ from h]
theorem BoxPl.fr (h : BoxPl y x W) (i : Nat) : W.frozen? ⟨y, i, none⟩ = false := by simp [World.frozen?, show W.heap[y]? = _ from h]
theorem BoxPl.lt (h : BoxPl y x W) : y < W.heap.size := (Array.getElem?_eq_some_iff.1 h).1
theorem BoxPl.kept {X : Nat → Prop} (h : BoxPl y x W) (hk : KeptIn X W W') (hX : X y) : BoxPl y x W' := (hk.block y hX).trans h
theorem BoxPl.new (w : World) (x : Pla) : BoxPl w.heap.size x (w.alloc (.cells #[.int .i64 x.ch, .int .i64 x.tier, .int .i64 x.slot] 47)) := heap_alloc_new w _
theorem BoxPl.set (h : BoxPl y x W) (u : Pla) : BoxPl y u (((W.setCell ⟨y, 0, none⟩ (.int .i64 u.ch)).setCell ⟨y, 1, none⟩ (.int .i64 u.tier)).setCell ⟨y, 2, none⟩ (.int .i64 u.slot)) := by
  have h1 : (W.setCell ⟨y, 0, none⟩ (.int .i64 u.ch)).heap[y]? = _ := heap_setCell_same _ _ _ _ _ _ h
  have h2 : ((W.setCell ⟨y, 0, none⟩ (.int .i64 u.ch)).setCell ⟨y, 1, none⟩ (.int .i64 u.tier)).heap[y]? = _ := heap_setCell_same _ _ _ _ _ _ h1
  have h3 : (((W.setCell ⟨y, 0, none⟩ (.int .i64 u.ch)).setCell ⟨y, 1, none⟩ (.int .i64 u.tier)).setCell ⟨y, 2, none⟩ (.int .i64 u.slot)).heap[y]? = _ := heap_setCell_same _ _ _ _ _ _ h2
  exact h3.trans rfl
theorem BoxSp.c0 (h : BoxSp y t s W) : W.cell? ⟨y, 0, none⟩ = some (.int .i64 t) := by simp [World.cell?, show W.heap[y]? = _ from h]
theorem BoxSp.c1 (h : BoxSp y t s W) : W.cell? ⟨y, 1, none⟩ = some (.int .i64 s) := by simp [World.cell?, show W.heap[y]? = _ from h]
theorem BoxSp.fr (h : BoxSp y t s W) (i : Nat) : W.frozen? ⟨y, i, none⟩ = false := by simp [World.frozen?, show W.heap[y]? = _ from h]
theorem BoxSp.lt (h : BoxSp y t s W) : y < W.heap.size := (Array.getElem?_eq_some_iff.1 h).1
theorem BoxSp.kept {X : Nat → Prop} (h : BoxSp y t s W) (hk : KeptIn X W W') (hX : X y) : BoxSp y t s W' := (hk.block y hX).trans h
theorem BoxSp.new (w : World) (t s : Int) : BoxSp w.heap.size t s (w.alloc (.cells #[.int .i64 t, .int .i64 s] 45)) := heap_alloc_new w _
theorem BoxSp.set (h : BoxSp y t s W) (t' s' : Int) : BoxSp y t' s' ((W.setCell ⟨y, 0, none⟩ (.int .i64 t')).setCell ⟨y, 1, none⟩ (.int .i64 s')) := by
  have h1 : (W.setCell ⟨y, 0, none⟩ (.int .i64 t')).heap[y]? = _ := heap_setCell_same _ _ _ _ _ _ h
  have h2 : ((W.setCell ⟨y, 0, none⟩ (.int .i64 t')).setCell ⟨y, 1, none⟩ (.int .i64 s')).heap[y]? = _ := heap_setCell_same _ _ _ _ _ _ h1
  exact h2.trans rfl
end
theorem results_pla_tmp {fn : Func} {p u : Tmp} (h : fn.results = #[.cell p 47, .tmp u]) (tmps : Array Value) (w : World) (y : Nat) (x : Pla)
    (hp : tmps.getD p undef = .pointer (some ⟨y, 0, none⟩)) (hb : BoxPl y x w) : (results fn tmps).run Try.prog w = .ok (.tuple #[plaV x, tmps.getD u undef]) w := by
  have hr := run_loadVar_row (P := Try.prog) w y 47 47 _ _ _ hb Try.underlying47 rfl (by kernel_rfl)
  rw [results_cell_tmp h, hp]
  simp [asAddr, hr, plaV]

theorem plKey (ch : Int) (w : World) : Calls Try.prog 33 #[.int .i64 ch] w fun e w' => e = .returned (.int .u64 (IntKind.u64.wrap (8589934592 + ch))) ∧ w' = w := by
  go_enter Try.func33, Try.ntmps33
  go_wp2_with fail
  go_ret
  refine ⟨?_, rfl⟩
  have : IntKind.u64.wrap (8589934592 + IntKind.u64.wrap ch) = IntKind.u64.wrap (8589934592 + ch) := by
    simp only [IntKind.wrap_u64]
    omega
  exact congrArg (fun x => Ending.returned (Value.int .u64 x)) this

/-- A good place's parts are numbers. -/
theorem goodP_nats {x : Pla} (h : GoodP x) : ∃ a b c : Nat, x = ⟨(a : Int), (b : Int), (c : Int)⟩ ∧ 1 ≤ a ∧ a ≤ 1023 ∧ b ≤ 1 ∧ c ≤ 255 := by
  obtain ⟨ch, tier, slot⟩ := x
  obtain ⟨g1, g2, g3, g4, g5⟩ := h
  simp only at g1 g2 g3 g4 g5
  refine ⟨ch.toNat, tier.toNat, slot.toNat, ?_, by omega, by omega, by omega, by omega⟩
  rw [Int.toNat_of_nonneg (by omega), Int.toNat_of_nonneg (by omega), Int.toNat_of_nonneg g4]
theorem pla_num (a b c : Nat) : ((keyP ⟨(a : Int), (b : Int), (c : Int)⟩ : Nat) : Int) = 8589934592 + (a : Int) ∧ ((valP ⟨(a : Int), (b : Int), (c : Int)⟩ : Nat) : Int) = (b : Int) + (c : Int) * 256 := by
  refine ⟨by unfold keyP; simp only; omega, ?_⟩
  unfold valP
  simp only
  omega

def PairP (w : World) (x : Pla) (e : Ending) (w' : World) : Prop :=
  e = .returned (if GoodP x then .tuple #[pairV (keyP x, valP x), .int .i64 0] else .tuple #[pairV (0, 0), .int .i64 1]) ∧ KeptIn (· < w.heap.size) w w'

theorem pl_start (w : World) (x : Pla) : ∀ V, KeptIn (· < ((w.alloc (.cells #[.int .i64 x.ch, .int .i64 x.tier, .int .i64 x.slot] 47)).alloc (.cells #[.int .u64 0, .int .u64 0] 50)).heap.size) ((w.alloc (.cells #[.int .i64 x.ch, .int .i64 x.tier, .int .i64 x.slot] 47)).alloc (.cells #[.int .u64 0, .int .u64 0] 50)) V → BoxPl w.heap.size x V ∧ BoxP (w.heap.size + 1) 0 0 V ∧ KeptIn (· < w.heap.size) w V := by
  intro V hk
  have h1 := BoxPl.new w x
  obtain ⟨W1, hW1⟩ : ∃ W1, w.alloc (.cells #[.int .i64 x.ch, .int .i64 x.tier, .int .i64 x.slot] 47) = W1 := ⟨_, rfl⟩
  have hk1 : KeptIn (· < w.heap.size) w W1 := by rw [← hW1]; exact (KeptIn.refl _ w).alloc (fun _ h => h) _
  have hs : W1.heap.size = w.heap.size + 1 := by rw [← hW1]; simp
  rw [hW1] at h1 hk
  have h2 : BoxP W1.heap.size 0 0 (W1.alloc (.cells #[.int .u64 0, .int .u64 0] 50)) := BoxP.new W1 0 0
  have hk2 : KeptIn (· < W1.heap.size) W1 (W1.alloc (.cells #[.int .u64 0, .int .u64 0] 50)) := (KeptIn.refl _ W1).alloc (fun _ h => h) _
  rw [hs] at h2
  have hk3 := hk2.go hk
  exact ⟨h1.kept hk3 h1.lt, h2.kept hk h2.lt, hk1.go hk3⟩

set_option maxHeartbeats 1000000 in
theorem plPair (x : Pla) (w : World) : Calls Try.prog 12 #[plaV x] w (PairP w x) := by
  unfold PairP
  by_cases hg : GoodP x
  · rw [if_pos hg]
    obtain ⟨a, b, c, hv, ha1, ha, hb, hc⟩ := goodP_nats hg
    subst hv
    obtain ⟨hk1, hx1⟩ := pla_num a b c
    obtain ⟨K, hK⟩ : ∃ K, keyP ⟨(a : Int), (b : Int), (c : Int)⟩ = K := ⟨_, rfl⟩
    obtain ⟨X, hX⟩ : ∃ X, valP ⟨(a : Int), (b : Int), (c : Int)⟩ = X := ⟨_, rfl⟩
    rw [hK] at hk1 ⊢
    rw [hX] at hx1 ⊢
    have HKX := Lib.hid (And.intro hk1 hx1)
    clear hk1 hx1 hK hX
    have HG := Lib.hid fun W => plCan ⟨(a : Int), (b : Int), (c : Int)⟩ W
    rw [decide_eq_true hg] at HG
    have HK := Lib.hid fun W => plKey (a : Int) W
    unfold plaV at HG ⊢
    simp only at HG ⊢
    have HS := Lib.hid (pl_start w ⟨(a : Int), (b : Int), (c : Int)⟩)
    simp only at HS
    clear hg
    go_enter Try.func12, Try.ntmps12
    go_wp2_with (first
      | (go_at_call 32; refine (HG.out _).mono ?_; rintro e V ⟨rfl, hk⟩; obtain ⟨b1, b2, b3⟩ := HS.out V hk; have y0 := b1.c0; have y1 := b1.c1; have y2 := b1.c2; have q0 := b2.c0; have q1 := b2.c1; have r0 := b2.f0; have r1 := b2.f1; have HB := Lib.hid (And.intro b1 (And.intro b2 b3)); clear b1 b2 b3 hk)
      | (go_at_call 33; refine (HK.out _).mono ?_; rintro e V2 ⟨rfl, rfl⟩))
    have e1 := HKX.out.1
    have e2 := HKX.out.2
    have hx := HB.out.2.1.set K X
    rw [e1, e2] at hx
    refine bodyPost_ret (results_pair_tmp rfl _ _ (w.heap.size + 1) _ _ rfl hx) rfl ?_
    exact ⟨rfl, (HB.out.2.2.setCell (p := ⟨w.heap.size + 1, 0, none⟩) (by simp) _).setCell (p := ⟨w.heap.size + 1, 1, none⟩) (by simp) _⟩
  · rw [if_neg hg]
    have HG := Lib.hid fun W => plCan x W
    rw [decide_eq_false hg] at HG
    obtain ⟨ch, tier, slot⟩ := x
    unfold plaV at HG ⊢
    simp only at HG ⊢
    have HS := Lib.hid (pl_start w ⟨ch, tier, slot⟩)
    simp only at HS
    clear hg
    go_enter Try.func12, Try.ntmps12
    go_wp2_with (go_at_call 32; refine (HG.out _).mono ?_; rintro e V ⟨rfl, hk⟩; obtain ⟨b1, b2, b3⟩ := HS.out V hk; have q0 := b2.c0; have q1 := b2.c1; have r0 := b2.f0; have r1 := b2.f1; have HB := Lib.hid (And.intro b1 (And.intro b2 b3)); clear b1 b2 b3 hk)
    refine bodyPost_ret (results_pair_tmp rfl _ _ (w.heap.size + 1) 0 0 rfl (HB.out.2.1.set 0 0)) rfl ?_
    exact ⟨rfl, (HB.out.2.2.setCell (p := ⟨w.heap.size + 1, 0, none⟩) (by simp) _).setCell (p := ⟨w.heap.size + 1, 1, none⟩) (by simp) _⟩

theorem pl_start2 (w : World) (t s : Int) (K X : Nat) : BoxP (w.heap.size + 1) K X ((w.alloc (.cells #[.int .i64 t, .int .i64 s] 45)).alloc (.cells #[.int .u64 (K : Int), .int .u64 (X : Int)] 50)) ∧ KeptIn (· < w.heap.size) w ((w.alloc (.cells #[.int .i64 t, .int .i64 s] 45)).alloc (.cells #[.int .u64 (K : Int), .int .u64 (X : Int)] 50)) := by
  obtain ⟨W1, hW1⟩ : ∃ W1, w.alloc (.cells #[.int .i64 t, .int .i64 s] 45) = W1 := ⟨_, rfl⟩
  have hk1 : KeptIn (· < w.heap.size) w W1 := by rw [← hW1]; exact (KeptIn.refl _ w).alloc (fun _ h => h) _
  have hs : W1.heap.size = w.heap.size + 1 := by rw [← hW1]; simp
  rw [hW1]
  have h2 := BoxP.new W1 K X
  rw [hs] at h2
  exact ⟨h2, hk1.go ((KeptIn.refl _ W1).alloc (fun _ h => h) _)⟩

/-- What the document's pair is. -/
theorem r14Pair (x : Pla) (hg : GoodP x) (w : World) : Calls Try.prog 15 #[.int .i64 x.ch, spotV x.tier x.slot] w fun e w' => e = .returned (pairV (keyP x, valP x)) ∧ KeptIn (· < w.heap.size) w w' := by
  obtain ⟨a, b, c, hv, ha1, ha, hb, hc⟩ := goodP_nats hg
  subst hv
  obtain ⟨hk1, hx1⟩ := pla_num a b c
  obtain ⟨K, hK⟩ : ∃ K, keyP ⟨(a : Int), (b : Int), (c : Int)⟩ = K := ⟨_, rfl⟩
  obtain ⟨X, hX⟩ : ∃ X, valP ⟨(a : Int), (b : Int), (c : Int)⟩ = X := ⟨_, rfl⟩
  rw [hK] at hk1 ⊢
  rw [hX, Int.mul_comm] at hx1
  rw [hX]
  have HKX := Lib.hid (And.intro hk1 hx1)
  clear hk1 hx1 hK hX
  unfold spotV
  simp only
  have HS := Lib.hid (pl_start2 w (b : Int) (c : Int) K X)
  clear hg
  go_enter Try.func15, Try.ntmps15
  go_wp2_with fail
  have e1 := HKX.out.1
  have e2 := HKX.out.2
  obtain ⟨hx, hk9⟩ := HS.out
  rw [e1, e2] at hx hk9
  exact bodyPost_ret (results_pair rfl _ _ (w.heap.size + 1) _ _ rfl hx) rfl ⟨rfl, hk9⟩

end Go.Proofs.Ytdbanlifneomgaa
/- Places: the place of a pair. -/
set_option linter.unusedVariables false
namespace Go.Proofs.Ytdbanlifneomgaa
open Go.RowKit

/-- What a pair says: the program's way. -/
def decL (k x : Nat) : Pla := ⟨wrap64 (((k : Int) - 8589934592) % 18446744073709551616), ((x % 256 : Nat) : Int), ((x / 256 : Nat) : Int)⟩
/-- The document's way. -/
def decM (k x : Nat) : Pla := ⟨((k % 4294967296 : Nat) : Int), ((x % 256 : Nat) : Int), ((x / 256 % 1024 : Nat) : Int)⟩
def IsPl (k x : Nat) (v : Pla) : Prop := GoodP v ∧ keyP v = k ∧ valP v = x
instance (k x : Nat) (v : Pla) : Decidable (IsPl k x v) := by unfold IsPl; infer_instance
/-- The place of a pair, if there is one. -/
def readPl (k x : Nat) : Option Pla := if IsPl k x (decL k x) then some (decL k x) else none

theorem decL_of {k x : Nat} {v : Pla} (h : IsPl k x v) : decL k x = v ∧ decM k x = v := by
  obtain ⟨hg, rfl, rfl⟩ := h
  obtain ⟨a, b, c, hv, ha1, ha, hb, hc⟩ := goodP_nats hg
  subst hv
  have hk : keyP ⟨(a : Int), (b : Int), (c : Int)⟩ = 8589934592 + a := by unfold keyP; simp only; omega
  have hx : valP ⟨(a : Int), (b : Int), (c : Int)⟩ = b + c * 256 := by unfold valP; simp only; omega
  rw [hk, hx]
  have h1 : (8589934592 + a) % 4294967296 = a := by omega
  have h2 : (b + c * 256) % 256 = b := by omega
  have h3 : (b + c * 256) / 256 = c := by omega
  have h4 : c % 1024 = c := by omega
  have h5 : (((8589934592 + a : Nat) : Int) - 8589934592) % 18446744073709551616 = (a : Int) := by omega
  have h6 : wrap64 (a : Int) = (a : Int) := by unfold wrap64; omega
  unfold decL decM
  rw [h1, h2, h3, h4, h5, h6]
  exact ⟨rfl, rfl⟩

theorem readPl_of {k x : Nat} {v : Pla} (h : IsPl k x v) : readPl k x = some v := by
  unfold readPl
  rw [(decL_of h).1, if_pos h]
theorem readPl_iff {k x : Nat} {v : Pla} : readPl k x = some v ↔ IsPl k x v := by
  refine ⟨fun h => ?_, readPl_of⟩
  unfold readPl at h
  split at h
  · rename_i hi
    cases h
    exact hi
  · cases h
theorem readPl_pair {v : Pla} (h : GoodP v) : readPl (keyP v) (valP v) = some v := readPl_of ⟨h, rfl, rfl⟩
theorem readPl_no {k x : Nat} (h : ¬ IsPl k x (decL k x)) : readPl k x = none := by
  unfold readPl
  rw [if_neg h]
theorem readPl_no' {k x : Nat} (h : ¬ IsPl k x (decM k x)) : readPl k x = none := by
  cases hr : readPl k x with
  | none => rfl
  | some v =>
    have hi := readPl_iff.1 hr
    rw [(decL_of hi).2] at h
    exact absurd hi h

def pla0 : Pla := ⟨0, 0, 0⟩
def ReadP (w : World) (o : Option Pla) (e : Ending) (w' : World) : Prop :=
  e = .returned (.tuple #[plaV (o.getD pla0), .bool o.isSome]) ∧ KeptIn (· < w.heap.size) w w'
def ReadM (w : World) (o : Option Pla) (e : Ending) (w' : World) : Prop :=
  e = .returned (.tuple #[.int .i64 (o.getD pla0).ch, spotV (o.getD pla0).tier (o.getD pla0).slot, .bool o.isSome]) ∧ KeptIn (· < w.heap.size) w w'
theorem results_spot3 {fn : Func} {p u v : Tmp} (h : fn.results = #[.tmp u, .cell p 45, .tmp v]) (tmps : Array Value) (w : World) (y : Nat) (t s : Int)
    (hp : tmps.getD p undef = .pointer (some ⟨y, 0, none⟩)) (hb : BoxSp y t s w) : (results fn tmps).run Try.prog w = .ok (.tuple #[tmps.getD u undef, spotV t s, tmps.getD v undef]) w := by
  have hr := run_loadVar_row (P := Try.prog) w y 45 45 _ _ _ hb Try.underlying45 rfl (by kernel_rfl)
  have hp' : tmps[p]?.getD undef = .pointer (some ⟨y, 0, none⟩) := by simpa using hp
  simp [results, h, hp', asAddr, hr, spotV]

/-- The three boxes of Read. -/
theorem plr_boxes (w : World) (k x : Nat) (v : Pla) : ∀ V, KeptIn (· < (((w.alloc (.cells #[.int .u64 (k : Int), .int .u64 (x : Int)] 50)).alloc (.cells #[.int .i64 0, .int .i64 0, .int .i64 0] 47)).alloc (.cells #[.int .i64 v.ch, .int .i64 v.tier, .int .i64 v.slot] 47)).heap.size) (((w.alloc (.cells #[.int .u64 (k : Int), .int .u64 (x : Int)] 50)).alloc (.cells #[.int .i64 0, .int .i64 0, .int .i64 0] 47)).alloc (.cells #[.int .i64 v.ch, .int .i64 v.tier, .int .i64 v.slot] 47)) V →
    BoxP w.heap.size k x V ∧ BoxPl (w.heap.size + 1) pla0 V ∧ BoxPl (w.heap.size + 1 + 1) v V ∧ KeptIn (· < w.heap.size) w V ∧ w.heap.size + 1 + 1 + 1 ≤ V.heap.size := by
  intro V hk
  have h1 := BoxP.new w k x
  obtain ⟨W1, hW1⟩ : ∃ W1, w.alloc (.cells #[.int .u64 (k : Int), .int .u64 (x : Int)] 50) = W1 := ⟨_, rfl⟩
  have hk1 : KeptIn (· < w.heap.size) w W1 := by rw [← hW1]; exact (KeptIn.refl _ w).alloc (fun _ h => h) _
  have hs1 : W1.heap.size = w.heap.size + 1 := by rw [← hW1]; simp
  rw [hW1] at h1 hk
  have h2 : BoxPl W1.heap.size pla0 (W1.alloc (.cells #[.int .i64 0, .int .i64 0, .int .i64 0] 47)) := BoxPl.new W1 pla0
  obtain ⟨W2, hW2⟩ : ∃ W2, W1.alloc (.cells #[.int .i64 0, .int .i64 0, .int .i64 0] 47) = W2 := ⟨_, rfl⟩
  have hk2 : KeptIn (· < W1.heap.size) W1 W2 := by rw [← hW2]; exact (KeptIn.refl _ W1).alloc (fun _ h => h) _
  have hs2 : W2.heap.size = w.heap.size + 1 + 1 := by rw [← hW2, World.size_alloc, hs1]
  rw [hW2] at h2 hk
  have h3 := BoxPl.new W2 v
  obtain ⟨W3, hW3⟩ : ∃ W3, W2.alloc (.cells #[.int .i64 v.ch, .int .i64 v.tier, .int .i64 v.slot] 47) = W3 := ⟨_, rfl⟩
  have hk3 : KeptIn (· < W2.heap.size) W2 W3 := by rw [← hW3]; exact (KeptIn.refl _ W2).alloc (fun _ h => h) _
  have hs3 : W3.heap.size = w.heap.size + 1 + 1 + 1 := by rw [← hW3, World.size_alloc, hs2]
  rw [hW3] at h3 hk
  have k3 := hk3.go hk
  have k2 := hk2.go k3
  rw [hs2] at h3
  rw [hs1] at h2
  exact ⟨h1.kept k2 h1.lt, h2.kept k3 h2.lt, h3.kept hk h3.lt, hk1.go k2, by rw [← hs3]; exact hk.size⟩

theorem decL_nats (k x : Nat) (hk : k < 18446744073709551616) (hx : x < 18446744073709551616) : ∃ (y b c : Nat) (ch : Int), decL k x = ⟨ch, (b : Int), (c : Int)⟩ ∧
    IntKind.u64.wrap ((k : Int) - 8589934592) = (y : Int) ∧ wrap64 (y : Int) = ch ∧ (x : Int) % 256 = (b : Int) ∧ (x : Int) / 256 = (c : Int) ∧ (b : Int) ≤ 255 ∧ (c : Int) ≤ 72057594037927935 := by
  have e : ((((k : Int) - 8589934592) % 18446744073709551616).toNat : Int) = ((k : Int) - 8589934592) % 18446744073709551616 := Int.toNat_of_nonneg (Int.emod_nonneg _ (by decide))
  refine ⟨(((k : Int) - 8589934592) % 18446744073709551616).toNat, x % 256, x / 256, wrap64 (((k : Int) - 8589934592) % 18446744073709551616), rfl, ?_, by rw [e], by omega, by omega, by omega, by omega⟩
  rw [IntKind.wrap_u64]
  omega


set_option maxHeartbeats 1000000 in
theorem plRead (k x : Nat) (hk : k < 18446744073709551616) (hx : x < 18446744073709551616) (w : World) : Calls Try.prog 14 #[pairV (k, x)] w (ReadP w (readPl k x)) := by
  unfold pairV ReadP
  simp only
  obtain ⟨y, b, c, ch, hdp, e1, e2, e3, e4, l1, l2⟩ := decL_nats k x hk hx
  have HB := Lib.hid (plr_boxes w k x ⟨ch, (b : Int), (c : Int)⟩)
  have HP := Lib.hid fun W => plPair ⟨ch, (b : Int), (c : Int)⟩ W
  unfold plaV PairP at HP
  simp only at HP HB
  by_cases hi : IsPl k x ⟨ch, (b : Int), (c : Int)⟩
  · rw [readPl_of hi]
    have hg := hi.1
    have hkk := hi.2.1
    have hxx := hi.2.2
    rw [if_pos hg, hkk, hxx] at HP
    clear hi hg hkk hxx hdp
    unfold pairV at HP
    simp only [Option.getD_some, Option.isSome_some]
    go_enter Try.func14, Try.ntmps14
    go_wp2_with (go_at_call 12; refine (HP.out _).mono ?_; rintro e V ⟨rfl, hk9⟩; obtain ⟨b1, b2, b3, b4, b5⟩ := HB.out (V.alloc (.cells #[.int .u64 k, .int .u64 x] 50)) (hk9.alloc (fun _ h => h) _); have y0 := b1.c0; have y1 := b1.c1; have z0 := b3.c0; have z1 := b3.c1; have z2 := b3.c2; have q0 := b2.c0; have q1 := b2.c1; have q2 := b2.c2; have r0 := b2.fr 0; have r1 := b2.fr 1; have r2 := b2.fr 2; have HBB := Lib.hid (And.intro b1 (And.intro b2 (And.intro b3 (And.intro b4 b5)))); clear b1 b2 b3 b4 b5 hk9)
    refine bodyPost_ret (results_pla_tmp rfl _ _ (w.heap.size + 1) _ rfl (HBB.out.2.1.set ⟨ch, (b : Int), (c : Int)⟩)) rfl ?_
    exact ⟨rfl, ((HBB.out.2.2.2.1.setCell (p := ⟨w.heap.size + 1, 0, none⟩) (by simp) _).setCell (p := ⟨w.heap.size + 1, 1, none⟩) (by simp) _).setCell (p := ⟨w.heap.size + 1, 2, none⟩) (by simp) _⟩
  · rw [readPl_no (by rw [hdp]; exact hi)]
    simp only [Option.getD_none, Option.isSome_none]
    by_cases hg : GoodP ⟨ch, (b : Int), (c : Int)⟩
    · rw [if_pos hg] at HP
      obtain ⟨K, hK⟩ : ∃ K, keyP ⟨ch, (b : Int), (c : Int)⟩ = K := ⟨_, rfl⟩
      obtain ⟨X, hX⟩ : ∃ X, valP ⟨ch, (b : Int), (c : Int)⟩ = X := ⟨_, rfl⟩
      rw [hK, hX] at HP
      have hne : ¬ (K = k ∧ X = x) := fun h => hi ⟨hg, hK.trans h.1, hX.trans h.2⟩
      unfold pairV at HP
      clear hi hg hdp hK hX
      by_cases hKk : K = k
      · subst hKk
        have hXx : ¬ X = x := fun h => hne ⟨rfl, h⟩
        have n1 : ((X : Int) == (x : Int)) = false := by rw [beq_eq_false_iff_ne]; omega
        have n2 : (X == x) = false := by rw [beq_eq_false_iff_ne]; exact hXx
        have n3 : ¬ (X : Int) = (x : Int) := by omega
        clear hne
        go_enter Try.func14, Try.ntmps14
        go_wp2_with (go_at_call 12; refine (HP.out _).mono ?_; rintro e V ⟨rfl, hk9⟩; obtain ⟨b1, b2, b3, b4, b5⟩ := HB.out (V.alloc (.cells #[.int .u64 K, .int .u64 X] 50)) (hk9.alloc (fun _ h => h) _); have y0 := b1.c0; have y1 := b1.c1; have z0 := b3.c0; have z1 := b3.c1; have z2 := b3.c2; have q0 := b2.c0; have q1 := b2.c1; have q2 := b2.c2; have r0 := b2.fr 0; have r1 := b2.fr 1; have r2 := b2.fr 2; have HBB := Lib.hid (And.intro b1 (And.intro b2 (And.intro b3 (And.intro b4 b5)))); clear b1 b2 b3 b4 b5 hk9)
        refine bodyPost_ret (results_pla_tmp rfl _ _ (w.heap.size + 1) _ rfl (HBB.out.2.1.set pla0)) rfl ?_
        exact ⟨rfl, ((HBB.out.2.2.2.1.setCell (p := ⟨w.heap.size + 1, 0, none⟩) (by simp) _).setCell (p := ⟨w.heap.size + 1, 1, none⟩) (by simp) _).setCell (p := ⟨w.heap.size + 1, 2, none⟩) (by simp) _⟩
      · have n1 : ((K : Int) == (k : Int)) = false := by rw [beq_eq_false_iff_ne]; omega
        have n2 : (K == k) = false := by rw [beq_eq_false_iff_ne]; exact hKk
        have n3 : ¬ (K : Int) = (k : Int) := by omega
        clear hne
        go_enter Try.func14, Try.ntmps14
        go_wp2_with (go_at_call 12; refine (HP.out _).mono ?_; rintro e V ⟨rfl, hk9⟩; obtain ⟨b1, b2, b3, b4, b5⟩ := HB.out (V.alloc (.cells #[.int .u64 K, .int .u64 X] 50)) (hk9.alloc (fun _ h => h) _); have y0 := b1.c0; have y1 := b1.c1; have z0 := b3.c0; have z1 := b3.c1; have z2 := b3.c2; have q0 := b2.c0; have q1 := b2.c1; have q2 := b2.c2; have r0 := b2.fr 0; have r1 := b2.fr 1; have r2 := b2.fr 2; have HBB := Lib.hid (And.intro b1 (And.intro b2 (And.intro b3 (And.intro b4 b5)))); clear b1 b2 b3 b4 b5 hk9)
        refine bodyPost_ret (results_pla_tmp rfl _ _ (w.heap.size + 1) _ rfl (HBB.out.2.1.set pla0)) rfl ?_
        exact ⟨rfl, ((HBB.out.2.2.2.1.setCell (p := ⟨w.heap.size + 1, 0, none⟩) (by simp) _).setCell (p := ⟨w.heap.size + 1, 1, none⟩) (by simp) _).setCell (p := ⟨w.heap.size + 1, 2, none⟩) (by simp) _⟩
    · rw [if_neg hg] at HP
      unfold pairV at HP
      clear hi hg hdp
      go_enter Try.func14, Try.ntmps14
      go_wp2_with (go_at_call 12; refine (HP.out _).mono ?_; rintro e V ⟨rfl, hk9⟩; obtain ⟨b1, b2, b3, b4, b5⟩ := HB.out (V.alloc (.cells #[.int .u64 0, .int .u64 0] 50)) (hk9.alloc (fun _ h => h) _); have y0 := b1.c0; have y1 := b1.c1; have z0 := b3.c0; have z1 := b3.c1; have z2 := b3.c2; have q0 := b2.c0; have q1 := b2.c1; have q2 := b2.c2; have r0 := b2.fr 0; have r1 := b2.fr 1; have r2 := b2.fr 2; have HBB := Lib.hid (And.intro b1 (And.intro b2 (And.intro b3 (And.intro b4 b5)))); clear b1 b2 b3 b4 b5 hk9)
      refine bodyPost_ret (results_pla_tmp rfl _ _ (w.heap.size + 1) _ rfl (HBB.out.2.1.set pla0)) rfl ?_
      exact ⟨rfl, ((HBB.out.2.2.2.1.setCell (p := ⟨w.heap.size + 1, 0, none⟩) (by simp) _).setCell (p := ⟨w.heap.size + 1, 1, none⟩) (by simp) _).setCell (p := ⟨w.heap.size + 1, 2, none⟩) (by simp) _⟩

end Go.Proofs.Ytdbanlifneomgaa
/- Places: the document's place of a pair. -/
set_option linter.unusedVariables false
namespace Go.Proofs.Ytdbanlifneomgaa
open Go.RowKit

/-- The three boxes of the document's Read. -/
theorem plm_boxes (w : World) (k x : Nat) (t s : Int) : ∀ V, KeptIn (· < (((w.alloc (.cells #[.int .u64 (k : Int), .int .u64 (x : Int)] 50)).alloc (.cells #[.int .i64 0, .int .i64 0] 45)).alloc (.cells #[.int .i64 t, .int .i64 s] 45)).heap.size) (((w.alloc (.cells #[.int .u64 (k : Int), .int .u64 (x : Int)] 50)).alloc (.cells #[.int .i64 0, .int .i64 0] 45)).alloc (.cells #[.int .i64 t, .int .i64 s] 45)) V →
    BoxP w.heap.size k x V ∧ BoxSp (w.heap.size + 1) 0 0 V ∧ BoxSp (w.heap.size + 1 + 1) t s V ∧ KeptIn (· < w.heap.size) w V := by
  intro V hk
  have h1 := BoxP.new w k x
  obtain ⟨W1, hW1⟩ : ∃ W1, w.alloc (.cells #[.int .u64 (k : Int), .int .u64 (x : Int)] 50) = W1 := ⟨_, rfl⟩
  have hk1 : KeptIn (· < w.heap.size) w W1 := by rw [← hW1]; exact (KeptIn.refl _ w).alloc (fun _ h => h) _
  have hs1 : W1.heap.size = w.heap.size + 1 := by rw [← hW1]; simp
  rw [hW1] at h1 hk
  have h2 := BoxSp.new W1 0 0
  obtain ⟨W2, hW2⟩ : ∃ W2, W1.alloc (.cells #[.int .i64 0, .int .i64 0] 45) = W2 := ⟨_, rfl⟩
  have hk2 : KeptIn (· < W1.heap.size) W1 W2 := by rw [← hW2]; exact (KeptIn.refl _ W1).alloc (fun _ h => h) _
  have hs2 : W2.heap.size = w.heap.size + 1 + 1 := by rw [← hW2, World.size_alloc, hs1]
  rw [hW2] at h2 hk
  have h3 := BoxSp.new W2 t s
  obtain ⟨W3, hW3⟩ : ∃ W3, W2.alloc (.cells #[.int .i64 t, .int .i64 s] 45) = W3 := ⟨_, rfl⟩
  have hk3 : KeptIn (· < W2.heap.size) W2 W3 := by rw [← hW3]; exact (KeptIn.refl _ W2).alloc (fun _ h => h) _
  rw [hW3] at h3 hk
  have k3 := hk3.go hk
  have k2 := hk2.go k3
  rw [hs2] at h3
  rw [hs1] at h2
  exact ⟨h1.kept k2 h1.lt, h2.kept k3 h2.lt, h3.kept hk h3.lt, hk1.go k2⟩

theorem decM_nats (k x : Nat) (hk : k < 18446744073709551616) (hx : x < 18446744073709551616) : ∃ (a b m c : Nat), decM k x = ⟨(a : Int), (b : Int), (c : Int)⟩ ∧
    (k : Int) % 4294967296 = (a : Int) ∧ (x : Int) % 256 = (b : Int) ∧ (x : Int) / 256 = (m : Int) ∧ (m : Int) % 1024 = (c : Int) ∧ (a : Int) ≤ 4294967295 ∧ (b : Int) ≤ 255 ∧ (m : Int) ≤ 72057594037927935 ∧ (c : Int) ≤ 1023 := by
  refine ⟨k % 4294967296, x % 256, x / 256, x / 256 % 1024, rfl, by omega, by omega, by omega, by omega, by omega, by omega, by omega, by omega⟩


theorem plm_facts (w : World) (k x b c : Nat) (V : World) (h : BoxP w.heap.size k x V ∧ BoxSp (w.heap.size + 1) 0 0 V ∧ BoxSp (w.heap.size + 1 + 1) (b : Int) (c : Int) V ∧ KeptIn (· < w.heap.size) w V) :
    V.cell? ⟨w.heap.size, 0, none⟩ = some (.int .u64 (k : Int)) ∧ V.cell? ⟨w.heap.size, 1, none⟩ = some (.int .u64 (x : Int)) ∧ V.cell? ⟨w.heap.size + 1 + 1, 0, none⟩ = some (.int .i64 (b : Int)) ∧ V.cell? ⟨w.heap.size + 1 + 1, 1, none⟩ = some (.int .i64 (c : Int)) := by
  obtain ⟨b1, b2, b3, b4⟩ := h
  exact ⟨b1.c0, b1.c1, b3.c0, b3.c1⟩

set_option maxHeartbeats 1000000 in
theorem r14Read (k x : Nat) (hk : k < 18446744073709551616) (hx : x < 18446744073709551616) (w : World) : Calls Try.prog 16 #[pairV (k, x)] w (ReadM w (readPl k x)) := by
  unfold pairV ReadM
  simp only
  obtain ⟨a, b, m, c, hdp, e1, e2, e3, e4, l1, l2, l3, l4⟩ := decM_nats k x hk hx
  have HB := Lib.hid (plm_boxes w k x (b : Int) (c : Int))
  have HF := Lib.hid fun V h => plm_facts w k x b c V (HB.out V h)
  have HG := Lib.hid fun W => r14Can ⟨(a : Int), (b : Int), (c : Int)⟩ W
  unfold spotV at HG
  simp only at HB HF HG
  by_cases hg : GoodP ⟨(a : Int), (b : Int), (c : Int)⟩
  · have HP := Lib.hid fun W => r14Pair ⟨(a : Int), (b : Int), (c : Int)⟩ hg W
    unfold spotV pairV at HP
    simp only at HP
    rw [decide_eq_true hg] at HG
    by_cases hi : IsPl k x ⟨(a : Int), (b : Int), (c : Int)⟩
    · rw [readPl_of hi]
      have hkk := hi.2.1
      have hxx := hi.2.2
      rw [hkk, hxx] at HP
      clear hi hg hkk hxx hdp
      simp only [Option.getD_some, Option.isSome_some]
      go_enter Try.func16, Try.ntmps16
      go_wp2_with fail
      go_region_held3 (fun w' => w'.cell? ⟨w.heap.size, 0, none⟩ = some (.int .u64 (k : Int)) ∧ w'.cell? ⟨w.heap.size, 1, none⟩ = some (.int .u64 (x : Int)) ∧ w'.cell? ⟨w.heap.size + 1 + 1, 0, none⟩ = some (.int .i64 (b : Int)) ∧ w'.cell? ⟨w.heap.size + 1 + 1, 1, none⟩ = some (.int .i64 (c : Int)))
        (first | exact HF.out _ (KeptIn.refl _ _) | exact HF.out _ (KeptIn.refl _ _).drew | exact HF.out _ ((KeptIn.refl _ _).drew.go hk) | exact HF.out _ (((KeptIn.refl _ _).drew.go hk).go hk2))
        (first | (go_at_call 13; refine (HG.out _).mono ?_; rintro e V ⟨rfl, hk⟩) | (go_at_call 15; refine (HP.out _).mono ?_; rintro e V2 ⟨rfl, hk2⟩))
      obtain ⟨b1, b2, b3, b4⟩ := HB.out V2 ((((KeptIn.refl _ _).drew.go hk).go hk2))
      have z0 := b3.c0
      have z1 := b3.c1
      have q0 := b2.c0
      have q1 := b2.c1
      have r0 := b2.fr 0
      have r1 := b2.fr 1
      have HBB := Lib.hid (And.intro b1 (And.intro b2 (And.intro b3 b4)))
      clear b1 b2 b3 b4 HB HF
      go_wp2_with fail
      go_region
      go_wp2_with fail
      have hx := (HBB.out.2.1.set (b : Int) (c : Int)).kept ((KeptIn.refl (fun _ => True) _).drew) trivial
      refine bodyPost_ret (results_spot3 rfl _ _ (w.heap.size + 1) _ _ rfl hx) rfl ?_
      exact ⟨rfl, ((HBB.out.2.2.2.setCell (p := ⟨w.heap.size + 1, 0, none⟩) (by simp) _).setCell (p := ⟨w.heap.size + 1, 1, none⟩) (by simp) _).drew⟩
    · rw [readPl_no' (by rw [hdp]; exact hi)]
      simp only [Option.getD_none, Option.isSome_none]
      obtain ⟨K, hK⟩ : ∃ K, keyP ⟨(a : Int), (b : Int), (c : Int)⟩ = K := ⟨_, rfl⟩
      obtain ⟨X, hX⟩ : ∃ X, valP ⟨(a : Int), (b : Int), (c : Int)⟩ = X := ⟨_, rfl⟩
      rw [hK, hX] at HP
      have hne : ¬ (K = k ∧ X = x) := fun h => hi ⟨hg, hK.trans h.1, hX.trans h.2⟩
      clear hi hg hdp hK hX
      by_cases hKk : K = k
      · subst hKk
        have hXx : ¬ X = x := fun h => hne ⟨rfl, h⟩
        have n1 : ((X : Int) == (x : Int)) = false := by rw [beq_eq_false_iff_ne]; omega
        have n2 : (X == x) = false := by rw [beq_eq_false_iff_ne]; exact hXx
        have n3 : ¬ (X : Int) = (x : Int) := by omega
        clear hne
        go_enter Try.func16, Try.ntmps16
        go_wp2_with fail
        go_region_held3 (fun w' => w'.cell? ⟨w.heap.size, 0, none⟩ = some (.int .u64 (K : Int)) ∧ w'.cell? ⟨w.heap.size, 1, none⟩ = some (.int .u64 (x : Int)) ∧ w'.cell? ⟨w.heap.size + 1 + 1, 0, none⟩ = some (.int .i64 (b : Int)) ∧ w'.cell? ⟨w.heap.size + 1 + 1, 1, none⟩ = some (.int .i64 (c : Int)))
          (first | exact HF.out _ (KeptIn.refl _ _) | exact HF.out _ (KeptIn.refl _ _).drew | exact HF.out _ ((KeptIn.refl _ _).drew.go hk) | exact HF.out _ (((KeptIn.refl _ _).drew.go hk).go hk2))
          (first | (go_at_call 13; refine (HG.out _).mono ?_; rintro e V ⟨rfl, hk⟩) | (go_at_call 15; refine (HP.out _).mono ?_; rintro e V2 ⟨rfl, hk2⟩))
        obtain ⟨b1, b2, b3, b4⟩ := HB.out V2 ((((KeptIn.refl _ _).drew.go hk).go hk2))
        have z0 := b3.c0
        have z1 := b3.c1
        have q0 := b2.c0
        have q1 := b2.c1
        have r0 := b2.fr 0
        have r1 := b2.fr 1
        have HBB := Lib.hid (And.intro b1 (And.intro b2 (And.intro b3 b4)))
        clear b1 b2 b3 b4 HB HF
        go_wp2_with fail
        refine bodyPost_ret (results_spot3 rfl _ _ (w.heap.size + 1) _ _ rfl (HBB.out.2.1.set 0 0)) rfl ?_
        exact ⟨rfl, (HBB.out.2.2.2.setCell (p := ⟨w.heap.size + 1, 0, none⟩) (by simp) _).setCell (p := ⟨w.heap.size + 1, 1, none⟩) (by simp) _⟩
      · have n1 : ((K : Int) == (k : Int)) = false := by rw [beq_eq_false_iff_ne]; omega
        have n2 : (K == k) = false := by rw [beq_eq_false_iff_ne]; exact hKk
        have n3 : ¬ (K : Int) = (k : Int) := by omega
        clear hne
        go_enter Try.func16, Try.ntmps16
        go_wp2_with fail
        go_region_held3 (fun w' => w'.cell? ⟨w.heap.size, 0, none⟩ = some (.int .u64 (k : Int)) ∧ w'.cell? ⟨w.heap.size, 1, none⟩ = some (.int .u64 (x : Int)) ∧ w'.cell? ⟨w.heap.size + 1 + 1, 0, none⟩ = some (.int .i64 (b : Int)) ∧ w'.cell? ⟨w.heap.size + 1 + 1, 1, none⟩ = some (.int .i64 (c : Int)))
          (first | exact HF.out _ (KeptIn.refl _ _) | exact HF.out _ (KeptIn.refl _ _).drew | exact HF.out _ ((KeptIn.refl _ _).drew.go hk) | exact HF.out _ (((KeptIn.refl _ _).drew.go hk).go hk2))
          (first | (go_at_call 13; refine (HG.out _).mono ?_; rintro e V ⟨rfl, hk⟩) | (go_at_call 15; refine (HP.out _).mono ?_; rintro e V2 ⟨rfl, hk2⟩))
        obtain ⟨b1, b2, b3, b4⟩ := HB.out V2 ((((KeptIn.refl _ _).drew.go hk).go hk2))
        have z0 := b3.c0
        have z1 := b3.c1
        have q0 := b2.c0
        have q1 := b2.c1
        have r0 := b2.fr 0
        have r1 := b2.fr 1
        have HBB := Lib.hid (And.intro b1 (And.intro b2 (And.intro b3 b4)))
        clear b1 b2 b3 b4 HB HF
        go_wp2_with fail
        refine bodyPost_ret (results_spot3 rfl _ _ (w.heap.size + 1) _ _ rfl (HBB.out.2.1.set 0 0)) rfl ?_
        exact ⟨rfl, (HBB.out.2.2.2.setCell (p := ⟨w.heap.size + 1, 0, none⟩) (by simp) _).setCell (p := ⟨w.heap.size + 1, 1, none⟩) (by simp) _⟩
  · rw [readPl_no' (by rw [hdp]; exact fun h => hg h.1)]
    simp only [Option.getD_none, Option.isSome_none]
    rw [decide_eq_false hg] at HG
    clear hg hdp
    go_enter Try.func16, Try.ntmps16
    go_wp2_with fail
    first | go_region_law (first | (go_simp; go_at_call 13; refine (HG.out _).mono ?_; rintro e V ⟨rfl, hk⟩; obtain ⟨b1, b2, b3, b4⟩ := HB.out V ((KeptIn.refl _ _).drew.go hk); have q0 := b2.c0; have q1 := b2.c1; have r0 := b2.fr 0; have r1 := b2.fr 1; have HBB := Lib.hid (And.intro b1 (And.intro b2 (And.intro b3 b4))); clear b1 b2 b3 b4)) | fail
    all_goals
      try go_wp2_with fail
      refine bodyPost_ret (results_spot3 rfl _ _ (w.heap.size + 1) _ _ rfl (HBB.out.2.1.set 0 0)) rfl ?_
      exact ⟨rfl, (HBB.out.2.2.2.setCell (p := ⟨w.heap.size + 1, 0, none⟩) (by simp) _).setCell (p := ⟨w.heap.size + 1, 1, none⟩) (by simp) _⟩

end Go.Proofs.Ytdbanlifneomgaa
/- Places: lists of them in memory; whether a list may be where chunks are. -/
set_option linter.unusedVariables false
namespace Go.Proofs.Ytdbanlifneomgaa
open Go.RowKit

theorem infoPla : (Try.prog.info? 47).map (fun i => (i.zero, i.size, i.bytes)) = some (some (.agg #[.int .i64 0, .int .i64 0, .int .i64 0]), 3, 24) := by kernel_rfl
/-- The cells of places. -/
def cellsL : List Pla → List Value
  | [] => []
  | v :: r => .int .i64 v.ch :: .int .i64 v.tier :: .int .i64 v.slot :: cellsL r
theorem cellsL_append (a b : List Pla) : cellsL (a ++ b) = cellsL a ++ cellsL b := by
  induction a with
  | nil => rfl
  | cons v r ih => rw [List.cons_append, cellsL, ih, cellsL]; rfl
theorem cellsL_length (a : List Pla) : (cellsL a).length = a.length * 3 := by
  induction a with
  | nil => rfl
  | cons v r ih => simp only [cellsL, List.length_cons, ih]; omega
theorem cellsL_at (vs : List Pla) : ∀ i (h : i < vs.length), (cellsL vs)[i * 3]? = some (.int .i64 vs[i].ch) ∧ (cellsL vs)[i * 3 + 1]? = some (.int .i64 vs[i].tier) ∧ (cellsL vs)[i * 3 + 2]? = some (.int .i64 vs[i].slot) := by
  induction vs with
  | nil => intro i h; cases h
  | cons v r ih =>
    intro i h
    cases i with
    | zero => exact ⟨rfl, rfl, rfl⟩
    | succ i =>
      have := ih i (by simpa using h)
      rw [show (i + 1) * 3 = i * 3 + 1 + 1 + 1 by omega]
      exact this

/-- Places in memory. -/
structure IsLs (W : World) (a : Option Addr) (vs : List Pla) : Prop where
  len : vs.length ≤ maxLen
  cells : 0 < vs.length → ∃ b off, a = some ⟨b, off, none⟩ ∧ b < W.heap.size ∧ ∀ i (h : i < vs.length), W.cell? ⟨b, off + i * 3, none⟩ = some (.int .i64 vs[i].ch) ∧ W.cell? ⟨b, off + i * 3 + 1, none⟩ = some (.int .i64 vs[i].tier) ∧ W.cell? ⟨b, off + i * 3 + 2, none⟩ = some (.int .i64 vs[i].slot)
theorem lsAt {X : Nat → Prop} {W W' : World} {a : Option Addr} {vs : List Pla} (h : IsLs W a vs) (hk : KeptIn X W W') (hX : ∀ p, a = some p → p.block < W.heap.size → X p.block) : IsLs W' a vs :=
  ⟨h.len, fun hp => by
    obtain ⟨b, off, e, hb, hc⟩ := h.cells hp
    have hb' := hk.block b (hX _ e hb)
    refine ⟨b, off, e, Nat.lt_of_lt_of_le hb hk.size, fun i hi => ?_⟩
    obtain ⟨h1, h2, h3⟩ := hc i hi
    exact ⟨(World.cell?_of_block (a := ⟨b, off + i * 3, none⟩) hb').trans h1, (World.cell?_of_block (a := ⟨b, off + i * 3 + 1, none⟩) hb').trans h2, (World.cell?_of_block (a := ⟨b, off + i * 3 + 2, none⟩) hb').trans h3⟩⟩
theorem IsLs.old {W W' : World} {a : Option Addr} {vs : List Pla} (h : IsLs W a vs) (hk : KeptIn (· < W.heap.size) W W') : IsLs W' a vs := lsAt h hk fun p _ hp => hp
theorem row_IsLs {W : World} {B cap : Nat} {a : Option Addr} {vs : List Pla} (h : W.ownsRow B 47 3 (.slice a vs.length cap) vs.length (cellsL vs)) : IsLs W a vs := by
  rcases h.2 with ⟨e, h0⟩ | ⟨g, cap', cur, e, hg, hb, hc, hm, hs, ht⟩
  · exact ⟨by rw [h0]; exact Nat.zero_le _, fun hp => by omega⟩
  · simp only [Value.slice.injEq, true_and] at e
    refine ⟨Nat.le_trans hc hm, fun _ => ⟨g, 0, e.1, (Array.getElem?_eq_some_iff.1 hb).1, fun i hi => ?_⟩⟩
    obtain ⟨h1, h2, h3⟩ := cellsL_at vs i hi
    rw [← ht, List.getElem?_take_of_lt (by omega)] at h1 h2 h3
    rw [Nat.zero_add, cell_of_row _ _ _ _ _ _ hb, cell_of_row _ _ _ _ _ _ hb, cell_of_row _ _ _ _ _ _ hb]
    exact ⟨by simpa using h1, by simpa using h2, by simpa using h3⟩
theorem row_sliceL {W : World} {B n : Nat} {v : Value} {xs : List Value} (h : W.ownsRow B 47 3 v n xs) : ∃ a cap, v = .slice a n cap := by
  rcases h.2 with ⟨rfl, rfl⟩ | ⟨g1, cap1, cur, rfl, _⟩
  · exact ⟨none, 0, rfl⟩
  · exact ⟨_, _, rfl⟩

/-- How many slots a tier has. -/
def slotsOf (s0 s1 : Int) (t : Int) : Int := if t = 0 then s0 else s1
/-- What is asked of the place number i. -/
def OkAt (vs : List Pla) (s0 s1 : Int) (i : Nat) : Prop :=
  GoodP (vs.getD i pla0) ∧ (vs.getD i pla0).slot < slotsOf s0 s1 (vs.getD i pla0).tier ∧ (0 < i → (vs.getD (i - 1) pla0).ch < (vs.getD i pla0).ch) ∧
    ∀ k, k < i → ¬ ((vs.getD k pla0).tier = (vs.getD i pla0).tier ∧ (vs.getD k pla0).slot = (vs.getD i pla0).slot)
/-- A list that may be where chunks are. -/
instance (vs : List Pla) (s0 s1 : Int) (i : Nat) : Decidable (OkAt vs s0 s1 i) := by unfold OkAt; infer_instance
def okL (vs : List Pla) (s0 s1 : Int) : Bool := decide (∀ i, i < vs.length → OkAt vs s0 s1 i)
theorem okL_iff {vs : List Pla} {s0 s1 : Int} : okL vs s0 s1 = true ↔ ∀ i, i < vs.length → OkAt vs s0 s1 i := by
  unfold okL
  exact decide_eq_true_iff
theorem okL_no {vs : List Pla} {s0 s1 : Int} {i : Nat} (hi : i < vs.length) (h : ¬ OkAt vs s0 s1 i) : okL vs s0 s1 = false := by
  cases e : okL vs s0 s1 with
  | false => rfl
  | true => exact absurd (okL_iff.1 e i hi) h

end Go.Proofs.Ytdbanlifneomgaa
/- Places: the marks of taken slots; Good. -/
set_option linter.unusedVariables false
namespace Go.Proofs.Ytdbanlifneomgaa
open Go.RowKit

/-- A variable of two rows of 256 bools. -/
def BoxT (g : Nat) (l : List Bool) (W : World) : Prop := W.heap[g]? = some (.cells (l.map Value.bool).toArray 104 (0, 0))
def noT : List Bool := List.replicate 512 false
section
variable {g : Nat} {l : List Bool} {W W' : World}
theorem BoxT.lt (h : BoxT g l W) : g < W.heap.size := (Array.getElem?_eq_some_iff.1 h).1
theorem BoxT.kept {X : Nat → Prop} (h : BoxT g l W) (hk : KeptIn X W W') (hX : X g) : BoxT g l W' := (hk.block g hX).trans h
theorem BoxT.cell (h : BoxT g l W) {i : Nat} {b : Bool} (hi : l[i]? = some b) : W.cell? ⟨g, i, none⟩ = some (.bool b) := by
  unfold BoxT at h
  simp [World.cell?, h, hi]
theorem BoxT.fro (h : BoxT g l W) (i : Nat) : W.frozen? ⟨g, i, none⟩ = false := by
  unfold BoxT at h
  simp [World.frozen?, h]
theorem BoxT.set (h : BoxT g l W) (i : Nat) (b : Bool) : BoxT g (l.set i b) (W.setCell ⟨g, i, none⟩ (.bool b)) := by
  obtain ⟨hlt, hk⟩ := Array.getElem?_eq_some_iff.1 h
  show (W.heap.modify g _)[g]? = _
  rw [Array.getElem?_eq_getElem (by rw [Array.size_modify]; exact hlt), Array.getElem_modify_self, hk]
  simp [List.map_set]
end
theorem run_alloc_T (w : World) : (Instr.alloc 104 true (.tuple #[])).run Try.prog w = .ok (.pointer (some ⟨w.heap.size, 0, none⟩)) (w.alloc (.cells (noT.map Value.bool).toArray 104)) := by kernel_rfl
theorem wpList_alloc_T {ops : Array Oper} {rest : List Oper} {o : Oper} {a : Act} {w : World} {Q : Exit → Act → World → Prop} (hg : o.guard = none) (hop : o.op = Op.alloc 104)
    (h : ∀ w', BoxT w.heap.size noT w' → KeptIn (· < w.heap.size) w w' → w'.heap.size = w.heap.size + 1 → wpList Try.prog ops Q rest (a.put o.dst (.pointer (some ⟨w.heap.size, 0, none⟩))) w') :
    wpList Try.prog ops Q (o :: rest) a w := by
  refine wpList_plain hg fun K hK => ?_
  have hrun := run_alloc_T w
  unfold Oper.wp
  simp only [execOp, hop, Sem.run_bind, hrun, Result.andThen_ok, Sem.run_pure]
  exact hK _ _ (h _ (heap_alloc_new w _) ((KeptIn.refl _ w).alloc (fun _ h => h) _) (by simp))

/-- What the marks say of the first j places. -/
structure MkT (vs : List Pla) (j : Nat) (l : List Bool) : Prop where
  len : l.length = 512
  iff : ∀ t s : Nat, t ≤ 1 → s ≤ 255 → ∃ b, l[t * 256 + s]? = some b ∧ (b = true ↔ ∃ k, k < j ∧ (vs.getD k pla0).tier = (t : Int) ∧ (vs.getD k pla0).slot = (s : Int))
theorem MkT.zero (vs : List Pla) : MkT vs 0 noT := by
  refine ⟨List.length_replicate, fun t s ht hs => ⟨false, ?_, ?_⟩⟩
  · unfold noT
    rw [List.getElem?_replicate, if_pos (by omega)]
  · constructor
    · intro h; cases h
    · rintro ⟨k, hk, _⟩; omega
theorem MkT.next {vs : List Pla} {j : Nat} {l : List Bool} (h : MkT vs j l) {t s : Nat} (ht : t ≤ 1) (hs : s ≤ 255) (e1 : (vs.getD j pla0).tier = (t : Int)) (e2 : (vs.getD j pla0).slot = (s : Int)) : MkT vs (j + 1) (l.set (t * 256 + s) true) := by
  refine ⟨by rw [List.length_set]; exact h.len, fun t' s' ht' hs' => ?_⟩
  obtain ⟨b, hb, hi⟩ := h.iff t' s' ht' hs'
  by_cases e : t * 256 + s = t' * 256 + s'
  · have et : t = t' := by omega
    have es : s = s' := by omega
    subst et es
    refine ⟨true, by rw [List.getElem?_set_self (by rw [h.len]; omega)], fun _ => ⟨j, by omega, e1, e2⟩, fun _ => rfl⟩
  · refine ⟨b, by rw [List.getElem?_set_ne e]; exact hb, fun hbt => ?_, ?_⟩
    · obtain ⟨k, hk, h1⟩ := hi.1 hbt
      exact ⟨k, by omega, h1⟩
    · rintro ⟨k, hk, h1, h2⟩
      by_cases ek : k = j
      · subst ek
        rw [e1] at h1
        rw [e2] at h2
        omega
      · exact hi.2 ⟨k, by omega, h1, h2⟩

/-- Two numbers, boxed. -/
def BoxW2 (y : Nat) (s0 s1 : Int) (W : World) : Prop := W.heap[y]? = some (.cells #[.int .i64 s0, .int .i64 s1] 52 (0, 0))
theorem BoxW2.kept {X : Nat → Prop} {y : Nat} {s0 s1 : Int} {W W' : World} (h : BoxW2 y s0 s1 W) (hk : KeptIn X W W') (hX : X y) : BoxW2 y s0 s1 W' := (hk.block y hX).trans h
theorem BoxW2.lt {y : Nat} {s0 s1 : Int} {W : World} (h : BoxW2 y s0 s1 W) : y < W.heap.size := (Array.getElem?_eq_some_iff.1 h).1
theorem BoxW2.new (w : World) (s0 s1 : Int) : BoxW2 w.heap.size s0 s1 (w.alloc (.cells #[.int .i64 s0, .int .i64 s1] 52)) := heap_alloc_new w _
theorem BoxW2.at {y b : Nat} {s0 s1 : Int} {W : World} (h : BoxW2 y s0 s1 W) (hb : b ≤ 1) : W.cell? ⟨y, b, none⟩ = some (.int .i64 (slotsOf s0 s1 (b : Int))) := by
  have h' : W.heap[y]? = _ := h
  rcases Nat.lt_or_ge b 1 with h1 | h1
  · obtain rfl : b = 0 := by omega
    simp [World.cell?, h', slotsOf]
  · obtain rfl : b = 1 := by omega
    simp [World.cell?, h', slotsOf]

/-- What stands in Good's loop: box of slots at y, marks at g. -/
def Gd14 (w : World) (y g : Nat) (vs : List Pla) (s0 s1 : Int) (j : Nat) (W : World) : Prop :=
  KeptIn (· < w.heap.size) w W ∧ BoxW2 y s0 s1 W ∧ (∀ i, i < j → OkAt vs s0 s1 i) ∧ (∃ l, BoxT g l W ∧ MkT vs j l) ∧ w.heap.size ≤ g ∧ y < g
theorem Gd14.old {w W W' : World} {y g j : Nat} {vs : List Pla} {s0 s1 : Int} (h : Gd14 w y g vs s0 s1 j W) (hk : KeptIn (· < W.heap.size) W W') : Gd14 w y g vs s0 s1 j W' := by
  obtain ⟨h1, h3, h4, ⟨l, h5, h6⟩, h7, h8⟩ := h
  exact ⟨h1.go hk, h3.kept hk h3.lt, h4, ⟨l, h5.kept hk h5.lt, h6⟩, h7, h8⟩
theorem Gd14.mark {w W : World} {y g j t s : Nat} {vs : List Pla} {s0 s1 : Int} (h : Gd14 w y g vs s0 s1 j W) (ht : t ≤ 1) (hs : s ≤ 255) (e1 : (vs.getD j pla0).tier = (t : Int)) (e2 : (vs.getD j pla0).slot = (s : Int)) (hok : OkAt vs s0 s1 j) :
    Gd14 w y g vs s0 s1 (j + 1) (W.setCell ⟨g, t * 256 + s, none⟩ (.bool true)) := by
  obtain ⟨h1, h3, h4, ⟨l, h5, h6⟩, h7, h8⟩ := h
  have hk : KeptIn (· ≠ g) W (W.setCell ⟨g, t * 256 + s, none⟩ (.bool true)) := (KeptIn.refl _ W).setCell (p := ⟨g, t * 256 + s, none⟩) (by simp) _
  refine ⟨h1.trans (hk.mono fun k hk' => by omega), h3.kept hk (by omega), fun i hi => ?_, ⟨_, h5.set (t * 256 + s) true, h6.next ht hs e1 e2⟩, h7, h8⟩
  by_cases e : i = j
  · rw [e]; exact hok
  · exact h4 i (by omega)
theorem gd14_start (w : World) (vs : List Pla) (s0 s1 : Int) (W W' : World) (hW : W = w.alloc (.cells #[.int .i64 s0, .int .i64 s1] 52)) (hb : BoxT W.heap.size noT W') (hk : KeptIn (· < W.heap.size) W W') : Gd14 w w.heap.size W.heap.size vs s0 s1 0 W' := by
  have h1 := BoxW2.new w s0 s1
  rw [← hW] at h1
  have hs : W.heap.size = w.heap.size + 1 := by rw [hW]; simp
  have hk1 : KeptIn (· < w.heap.size) w W := by rw [hW]; exact (KeptIn.refl _ w).alloc (fun _ h => h) _
  exact ⟨hk1.go hk, h1.kept hk h1.lt, fun i hi => absurd hi (Nat.not_lt_zero _), ⟨_, hb, MkT.zero vs⟩, by omega, by omega⟩

end Go.Proofs.Ytdbanlifneomgaa
/- Pages in memory: package tree's Shelf: Read. -/
set_option linter.unusedVariables false
namespace Go.Proofs.Ytdbanlifneomgaa
open Go.RowKit

/-- A node: its level, its pairs. -/
abbrev Nd := Nat × Pairs

/-- A node in memory, its pairs in a block of D. -/
def NodeAt (W : World) (D : Nat → Prop) (b off : Nat) (nd : Nd) : Prop :=
  ∃ a cap, W.cell? ⟨b, off, none⟩ = some (.int .i64 (nd.1 : Int)) ∧ W.cell? ⟨b, off + 1, none⟩ = some (.slice a nd.2.length cap) ∧ IsPs W a nd.2 ∧ ∀ p, a = some p → D p.block
theorem NodeAt.kept {W W' : World} {D D' : Nat → Prop} {b off : Nat} {nd : Nd} (h : NodeAt W D b off nd) (hk : KeptIn D W W') (hb : D b) (hD : ∀ k, D k → D' k) : NodeAt W' D' b off nd := by
  obtain ⟨a, cap, h1, h2, h3, h4⟩ := h
  exact ⟨a, cap, (World.cell?_of_block (a := ⟨b, off, none⟩) (hk.block b hb)).trans h1, (World.cell?_of_block (a := ⟨b, off + 1, none⟩) (hk.block b hb)).trans h2, psAt h3 hk h4, fun p e => hD _ (h4 p e)⟩

/-- The Shelf at block s: nodes N, room for so many; all that it is made of lies in D. -/
structure IsSh (W : World) (s room : Nat) (N : List Nd) (D : Nat → Prop) : Prop where
  ds : D s
  lt : ∀ k, D k → k < W.heap.size
  len : N.length ≤ 511
  rm : room ≤ 1000000
  pos : ∀ i (h : i < N.length), 0 < N[i].2.length ∧ N[i].2.length ≤ 1000
  mem : ∃ la cap, W.heap[s]? = some (.cells #[.slice la N.length cap, .int .i64 (room : Int)] 30 (0, 0)) ∧ (N.length = 0 → la = none ∧ cap = 0) ∧
    (0 < N.length → ∃ b, la = some ⟨b, 0, none⟩ ∧ D b ∧ b ≠ s ∧ N.length ≤ cap ∧ cap ≤ maxLen ∧ ∀ i (h : i < N.length), NodeAt W (fun k => D k ∧ k ≠ s) b (i * 2) N[i])

theorem IsSh.kept {W W' : World} {s room : Nat} {N : List Nd} {D : Nat → Prop} (h : IsSh W s room N D) (hk : KeptIn D W W') : IsSh W' s room N D := by
  obtain ⟨la, cap, h1, h0, h2⟩ := h.mem
  refine ⟨h.ds, fun k hD => Nat.lt_of_lt_of_le (h.lt k hD) hk.size, h.len, h.rm, h.pos, la, cap, (hk.block s h.ds).trans h1, h0, fun hp => ?_⟩
  obtain ⟨b, e, hb, hne, hc, hm, hi⟩ := h2 hp
  exact ⟨b, e, hb, hne, hc, hm, fun i hl => (hi i hl).kept (hk.mono fun _ h => h.1) ⟨hb, hne⟩ fun _ h => h⟩
theorem IsSh.old {W W' : World} {s room : Nat} {N : List Nd} {D : Nat → Prop} (h : IsSh W s room N D) (hk : KeptIn (· < W.heap.size) W W') : IsSh W' s room N D := h.kept (hk.mono h.lt)

theorem psSet {V : World} {a : Option Addr} {ps : Pairs} (h : IsPs V a ps) (q : Addr) (v : Value) (hq : ∀ p, a = some p → p.block ≠ q.block) : IsPs (V.setCell q v) a ps :=
  psAt (X := fun k => k ≠ q.block) h ((KeptIn.refl _ V).setCell (by simp) v) hq

/-- A node that was read: a copy of its own. -/
def RdS (w : World) (lv : Int) (ps : Pairs) (e : Ending) (w' : World) : Prop :=
  ∃ g cap, e = .returned (.tuple #[leafV lv (some ⟨g, 0, none⟩) ps.length cap, .int .i64 0]) ∧ IsPs w' (some ⟨g, 0, none⟩) ps ∧ w.heap.size ≤ g ∧ KeptIn (· < w.heap.size) w w' ∧ TyC w' g ps.length cap

theorem sh_nums (i p n : Nat) (hp : i + 1 = p) (hi : i < n) (hn : n ≤ 511) : (1 : Int) ≤ (p : Int) ∧ (p : Int) ≤ (n : Int) ∧ wrap64 ((p : Int) - 1) = (i : Int) ∧ (0 : Int) ≤ (i : Int) ∧ (i : Int) < (n : Int) ∧ (p : Int) - 1 = (i : Int) ∧ wrap64 (i : Int) = (i : Int) ∧ ¬ n < p := by
  refine ⟨by omega, by omega, ?_, by omega, by omega, by omega, ?_, by omega⟩ <;> unfold wrap64 <;> omega

set_option maxRecDepth 100000 in
theorem shRead {w : World} {s room : Nat} {N : List Nd} {D : Nat → Prop} (h : IsSh w s room N D) (i : Nat) (hi : i < N.length) :
    Calls Try.prog 125 #[.pointer (some ⟨s, 0, none⟩), .int .i64 ((i + 1 : Nat) : Int)] w (RdS w (N[i].1 : Int) N[i].2) := by
  obtain ⟨la, cap, h1, _, h2⟩ := h.mem
  obtain ⟨b, rfl, hb, _, _, _, hn⟩ := h2 (by omega)
  obtain ⟨a, capn, e1, e2, hps, ha⟩ := hn i hi
  obtain ⟨hp0, hp1⟩ := h.pos i hi
  have hl := h.len
  have hsl : s < w.heap.size := h.lt s h.ds
  have hbl : b < w.heap.size := h.lt b hb
  clear h2 hn
  obtain ⟨lv, hlv⟩ : ∃ lv, N[i].1 = lv := ⟨_, rfl⟩
  obtain ⟨ps, hpe⟩ : ∃ ps, N[i].2 = ps := ⟨_, rfl⟩
  rw [hlv] at e1
  rw [hpe] at e2 hps hp0 hp1
  rw [hlv, hpe]
  clear hlv hpe
  obtain ⟨n, hnl⟩ : ∃ n, N.length = n := ⟨_, rfl⟩
  rw [hnl] at h1 hi hl
  obtain ⟨p, hp⟩ : ∃ p, i + 1 = p := ⟨_, rfl⟩
  rw [hp]
  have CC := Lib.hid fun V (hk : KeptIn (· < w.heap.size) w V) => trCopy (lv : Int) a capn ps V (hps.old hk) hp0 (Nat.le_trans hp1 (by decide))
  obtain ⟨p0, p1, p2, i0, i1, p3, p4, p5⟩ := sh_nums i p n hp hi hl
  obtain ⟨W, hW⟩ : ∃ W, w.alloc (.cells #[.int .i64 0, .slice none 0 0] 27) = W := ⟨_, rfl⟩
  have hk : KeptIn (· < w.heap.size) w W := by rw [← hW]; exact (KeptIn.refl _ w).alloc (fun _ h => h) _
  have hr : BoxL w.heap.size 0 none 0 0 W := by rw [← hW]; exact BoxL.new w 0 none 0 0
  obtain ⟨x, hx⟩ : ∃ x, w.heap.size = x := ⟨_, rfl⟩
  have hsb := (hk.block s hsl).trans h1
  have c0 : W.cell? ⟨s, 0, none⟩ = some (.slice (some ⟨b, 0, none⟩) n cap) := by simp [World.cell?, hsb]
  have d1 := (World.cell?_of_block (a := ⟨b, i * 2, none⟩) (hk.block b hbl)).trans e1
  have d2 := (World.cell?_of_block (a := ⟨b, i * 2 + 1, none⟩) (hk.block b hbl)).trans e2
  have HC := Lib.hid (CC.out W hk)
  have HQ := Lib.hid (And.intro hr hk)
  rw [hx] at HQ
  obtain ⟨m, hm⟩ : ∃ m, ps.length = m := ⟨_, rfl⟩
  unfold leafV at HC
  rw [hm] at HC d2
  have HM := Lib.hid hm
  clear CC hps ha hp hp0 hp1 e1 e2 h1 hb hl hnl hi h hr hk hsb hm hbl hsl
  go_enter Try.func125, Try.ntmps125
  go_wp2_with (go_at_call 127; refine HC.out.mono ?_)
  rintro e V ⟨g, cg, rfl, hps, hg, hk, hty⟩
  have hrb := HQ.out.1.kept hk HQ.out.1.lt
  have c3 := hrb.c0
  have f3 := hrb.f0
  have c4 := hrb.c1
  have f4 := hrb.f1
  have hwx : x ≤ W.heap.size := by rw [← hx]; exact HQ.out.2.size
  have hg' : x ≤ g := Nat.le_trans hwx hg
  have hxg : x < g := Nat.lt_of_lt_of_le HQ.out.1.lt hg
  have hkx : KeptIn (· < x) w V := HQ.out.2.trans (hk.mono fun k h => Nat.lt_of_lt_of_le h hwx)
  have HB := Lib.hid hrb
  have HK := Lib.hid hkx
  have HTY := Lib.hid hty
  clear hty
  have HP := Lib.hid (And.intro hps (And.intro hg' hxg))
  clear hrb hk hps hg hg' hxg hkx hwx
  unfold leafV at *
  rw [HM.out]
  go_wp2_with fail
  have hset := BoxL.set (lv' := (lv : Int)) (a' := some ⟨g, 0, none⟩) (n' := m) (cap' := cg) HB.out
  have hps := psSet (psSet HP.out.1 ⟨x, 0, none⟩ (.int .i64 (lv : Int)) (fun p e => by cases e; exact Nat.ne_of_gt HP.out.2.2)) ⟨x, 1, none⟩ (.slice (some ⟨g, 0, none⟩) m cg) (fun p e => by cases e; exact Nat.ne_of_gt HP.out.2.2)
  have hkx := (HK.out.setCell (p := ⟨x, 0, none⟩) (by simp) (.int .i64 (lv : Int))).setCell (p := ⟨x, 1, none⟩) (by simp) (.slice (some ⟨g, 0, none⟩) m cg)
  refine bodyPost_ret (results_leaf rfl _ _ x _ _ _ _ rfl hset) rfl ?_
  exact ⟨g, cg, by rw [HM.out]; rfl, hps, by rw [hx]; exact HP.out.2.1, by rw [hx]; exact hkx, (HTY.out.set _ _ (Nat.ne_of_gt HP.out.2.2)).set _ _ (Nat.ne_of_gt HP.out.2.2)⟩

end Go.Proofs.Ytdbanlifneomgaa
