import Derived.Test.YtjollbaohopmjaaSr9W
import Derived.Deep.Cut
import Derived.Deep.RegionHeld3
/- Package tree's mayBeSound over a memo: over a sound tree it meets all pages, and keeps their nodes. -/
set_option linter.unusedVariables false
namespace Go.Proofs.Ytjollbaohopmjaa
open Go.RowKit


set_option maxRecDepth 100000 in
set_option maxHeartbeats 4000000 in
theorem trSoundM {N : List Nd} (hN : N.length ≤ 511) (hfit : ∀ (i : Nat) (h : i < N.length), Fits N[i].2) (s room xm : Nat) : ∀ {l : Nat} {root : Bool} {lv : Int} {lo hi p : Nat} {ps qs : Pairs} {g0 : List Nat} {w : World} {D : Nat → Prop} {S B0 c : Nat} {v : Value} {ms : List Int} {M : Int → Option (Option Lf9)}, IsSh w s room N D → (∀ k, D k → k < S ∧ k ≠ xm) → SvU w S (mmI s xm) B0 v ms → IsMm w xm c N M → SndL N root lv lo hi l p ps qs g0 → l ≤ 7 → ps.length ≤ 15 → hi < 18446744073709551616 → (ms ++ ofP (p :: g0)).Nodup → ms.length + (1 + g0.length) ≤ 511 → c + (1 + g0.length) ≤ 100000 →
    Calls Try.prog 59 #[.pointer (some ⟨S, 0, none⟩), leadV p root lv lo hi] w (SoQ w S s B0 xm c N M ms (ofP (p :: g0))) := by
  intro l
  induction l with
  | zero =>
    intro root lv lo hi p ps qs g0 w D S B0 c v ms M hsh hD h hmm0 hS hl7 h15 hhi hnd hml hcb
    obtain ⟨hb1, hb2⟩ := hS.body
    subst hb1 hb2
    obtain ⟨ix, hix, hqi, hni⟩ := nodeOf_at hS.node
    obtain ⟨a, cap, rfl⟩ := row_sliceI h.row
    obtain ⟨m, hm⟩ : ∃ m, ms.length = m := ⟨_, rfl⟩
    rw [hm] at h hml
    obtain ⟨W, hW⟩ : ∃ W, w.alloc (.cells #[.int .i64 (p : Int), .bool root, .int .i64 lv, .int .u64 (lo : Int), .int .u64 (hi : Int)] 97) = W := ⟨_, rfl⟩
    have hkW : KeptIn (· < w.heap.size) w W := by rw [← hW]; exact (KeptIn.refl _ w).alloc (fun _ h => h) _
    have hbd : BoxD w.heap.size p root lv lo hi W := by rw [← hW]; exact BoxD.new w p root lv lo hi
    have hsv := h.old hkW
    have hmm := hmm0.old hkW
    have hshW := hsh.old hkW
    have hSW : W.heap[S]? = some (.cells #[mmI s xm, .slice a m cap, .int .i64 0] 126 (0, 0)) := hsv.box
    have c0 : W.cell? ⟨S, 0, none⟩ = some (mmI s xm) := (cell_of_row _ _ 0 _ _ _ hSW).trans rfl
    have c1 : W.cell? ⟨S, 1, none⟩ = some (.slice a m cap) := (cell_of_row _ _ 1 _ _ _ hSW).trans rfl
    have hp : (p : Int) ∉ ms := by
      intro hin
      have := (List.nodup_append.1 hnd).2.2 _ hin _ (List.mem_map.2 ⟨p, List.mem_cons_self, rfl⟩)
      exact this rfl
    have hrowW : W.ownsRow B0 3 1 (.slice a m cap) m (cellsI ms) := by have := hsv.row; rw [hm] at this; exact this
    have hI : IntsL W a ms := by
      have h1 := hrowW
      rw [← hm] at h1
      exact rowIntsL h1 (by unfold maxLen; omega)
    have HQ := Lib.hid fun n => iContQ hI (x := (p : Int)) (cap := cap) hm (decide_eq_false hp) n
    have d0 := hbd.c0
    have d1 := hbd.c1
    have d2 := hbd.c2
    have d3 := hbd.c3
    have d4 := hbd.c4
    obtain ⟨x, hx⟩ : ∃ x, w.heap.size = x := ⟨_, rfl⟩
    have HG : Hid (∀ (nq : Nat) (w1 : World), (((W.drewN nq).drew).alloc (.cells #[.int .i64 (p : Int)] 3)).grownBy w1 (Value.slice a m cap).ownBlock → w1.cell? ⟨S, 1, none⟩ = some (.slice a m cap) ∧ w1.frozen? ⟨S, 1, none⟩ = false) := Lib.hid fun nq w1 hg => by
      have hSlt : S < W.heap.size := Nat.lt_of_lt_of_le hsv.lt hsv.le
      have hn := rowS_ne hrowW hSW (by decide)
      have h1 : w1.heap[S]? = W.heap[S]? := (hg.block _ (by simp; exact Nat.lt_succ_of_lt hSlt) (fun e => hn e.symm)).trans (Lib.alloc_old ((W.drewN nq).drew) _ _ hSlt)
      exact ⟨(World.cell?_of_block (a := ⟨S, 1, none⟩) h1).trans ((cell_of_row _ _ 1 _ _ _ hSW).trans rfl), (World.frozen?_of_block (a := ⟨S, 1, none⟩) h1).trans (by simp [World.frozen?, hSW])⟩
    have HM : Hid (∀ (nq : Nat) (w1 : World) (gg cap' : Nat), (((W.drewN nq).drew).alloc (.cells #[.int .i64 (p : Int)] 3)).grownBy w1 (Value.slice a m cap).ownBlock → w1.ownsRow B0 3 1 (.slice (some ⟨gg, 0, none⟩) (m + 1) cap') (m + 1) (cellsI ms ++ [.int .i64 (p : Int)]) →
        SoM9 w S s B0 xm c x p room N D M root lv lo hi (ms ++ [(p : Int)]) (w1.setCell ⟨S, 1, none⟩ (.slice (some ⟨gg, 0, none⟩) (m + 1) cap'))) := Lib.hid fun nq w1 gg cap' hg hown => by
      refine so_met9 (V := (W.drewN nq).drew) ⟨hsv.box, hsv.row, hsv.lt, hsv.le⟩ ?_ (hshW.old ((KeptIn.refl _ W).drewN nq).drew) hD (sdz_old (hkW.drewN nq).drew) (Nat.le_of_eq hx) (hmm.old ((KeptIn.refl _ W).drewN nq).drew) hm hg hown
      rw [hx] at hbd
      exact hbd
    have hB0 : B0 ≤ W.heap.size := hsv.le
    have hS0 : S < B0 := hsv.lt
    have HROW := Lib.hid hrowW
    have hSx : S ≠ x := by rw [← hx]; have := h.lt; have := h.le; omega
    have HRD : Hid (∀ V, IsMm V xm c N M → IsSh V s room N D → Calls Try.prog 35 #[leadV p root lv lo hi, mmI s xm] V (MmR V xm c N M (p : Int) (0 : Int) ps)) := Lib.hid fun V hV hV2 => by
      have := trLeadReadM hV hV2 (by omega) ix hix (hfit ix hix) root lv lo hi (by rw [hni]; exact hS.fit)
      rw [hqi, hni] at this
      try rw [hLV] at this
      exact this
    have HIX : Hid (∃ (i : Nat) (h : i < N.length), i + 1 = p ∧ N[i].2 = ps) := Lib.hid ⟨ix, hix, hqi, by rw [hni]⟩
    obtain ⟨ip, hip, hp0, hp1, hp2⟩ := info_parts infoInt8
    obtain ⟨n, hn⟩ : ∃ n, ps.length = n := ⟨_, rfl⟩
    have HN := Lib.hid hn
    have HML := Lib.hid hm
    have HH := Lib.hid (And.intro hsh (And.intro hD (And.intro hS (And.intro hnd (And.intro hml (And.intro hl7 hcb))))))
    clear hrowW hshW hsv hkW hbd hp hI hSW h hsh hD hS hnd hix hqi hni hn hm hmm hmm0 hcb
    unfold mmI mmV pgV leadV at *
    rw [hx] at d0 d1 d2 d3 d4
    go_enter Try.func59, Try.ntmps59
    go_wp2_with fail
    go_quiet ((go_at_call 77; exact Calls.quiet_of_same (HQ.out _)))
    go_upto_region 3 with fail
    go_cut [] from 8 (fun wx => Hid (SoM9 w S s B0 xm c x p room N D M root lv lo hi (ms ++ [(p : Int)]) wx))
    case first =>
      go_wp2_with fail
      have c1' : ((W.drewN nq).drew).cell? ⟨S, 1, none⟩ = some (.slice a m cap) := c1
      have x0' : ((W.drewN nq).drew).cell? ⟨x, 0, none⟩ = some (.int .i64 (p : Int)) := d0
      have hrow8 : ((W.drewN nq).drew).ownsRow B0 3 1 (.slice a m cap) m (cellsI ms) := HROW.out
      have hsz8 : B0 ≤ ((W.drewN nq).drew).heap.size := hB0
      have hSV : S < ((W.drewN nq).drew).heap.size := Nat.lt_of_lt_of_le hS0 hB0
      have cc8 : (((W.drewN nq).drew).alloc (.cells #[.int .i64 (p : Int)] 3)).cell? ⟨S, 1, none⟩ = some (.slice a m cap) := (World.cell?_of_block (a := ⟨S, 1, none⟩) (Lib.alloc_old ((W.drewN nq).drew) _ _ hSV)).trans c1
      have hgr8 := HG.out nq
      have hme8 := HM.out nq
      obtain ⟨V, hV⟩ : ∃ V, (W.drewN nq).drew = V := ⟨_, rfl⟩
      rw [hV] at c1' x0' hrow8 hsz8 hgr8 cc8 hme8
      clear hSV
      go_region_law (first
        | (refine step_append_lies _ (by rfl) _ _ 23 (by rfl) B0 3 ip _ 1 8 Try.underlying23 hip hp0 hp1 hp2 rfl (by omega) (.slice a m cap) m _ (by rfl) (hrow8.alloc _) ⟨V.heap.size, 0, none⟩ 1 1 [.int .i64 (p : Int)] (by rfl) (by rfl) (World.news_of_block (cs := #[.int .i64 (p : Int)]) (t := 3) (fr := (0, 0)) (heap_alloc_new V _)) (by simp [Value.oneCell']) (by omega) (by unfold maxLen; omega) (by omega) (by simp; omega) (V.heap.size + 1) (by simp) ?_; intro gg cap' w1 hown1 hgrow hat hlt1; obtain ⟨e0', ef⟩ := hgr8 w1 hgrow; have hmm := hme8 w1 gg cap' hgrow hown1))
      all_goals
        clear hgr8 hme8 hrow8
        go_wp2_with fail
        go_meet
        case rel => exact Lib.hid hmm
    case rest =>
      have HC := hcut
      clear hcut HM HG HQ HROW c0 c1 d0 d1 d2 d3 d4
      have HF := Lib.hid fun V (hk : KeptIn (fun j => j < wc.heap.size ∧ j ≠ xm) wc V) => HC.out.facts hk
      obtain ⟨c0, d0, d1, d2, d3, d4⟩ := HC.out.facts (KeptIn.refl _ wc)
      have HRC : Hid (∀ V, KeptIn (· < wc.heap.size) wc V → _) := Lib.hid fun V hk => HRD.out V (HC.out.choose_spec.2.2.2.2.2.2.old hk) (HC.out.choose_spec.2.2.1.old hk)
      have HXW : Hid (xm < wc.heap.size) := Lib.hid HC.out.choose_spec.2.2.2.2.2.2.lt
      unfold mmI mmV pgV at HF c0
      go_upto_region 4 with fail
      go_cut [5, 6] from 8 (fun s5 s6 wx => ∃ y g cg : Nat, s5 = .pointer (some ⟨y, 0, none⟩) ∧ s6 = .int .i64 0 ∧ Hid (∃ v, SoF9 w S s B0 xm c x y p g n cg room N D M [(p : Int)] root lv lo hi 0 ps v (ms ++ [(p : Int)]) wx))
      case first =>
        go_wp2_with fail
        go_region_held3 (fun w' => w'.cell? ⟨S, 0, none⟩ = some (.iface 60 (.agg #[.iface 28 (.pointer (some ⟨s, 0, none⟩)), .map (some xm)])) ∧ w'.cell? ⟨x, 0, none⟩ = some (.int .i64 (p : Int)) ∧ w'.cell? ⟨x, 1, none⟩ = some (.bool root) ∧ w'.cell? ⟨x, 2, none⟩ = some (.int .i64 lv) ∧ w'.cell? ⟨x, 3, none⟩ = some (.int .u64 (lo : Int)) ∧ w'.cell? ⟨x, 4, none⟩ = some (.int .u64 (hi : Int)))
          (first | exact ⟨c0, d0, d1, d2, d3, d4⟩ | exact HF.out _ (KeptIn.refl _ _).drew | exact HF.out _ (((KeptIn.refl _ _).alloc (fun _ h => h.1) _).drew) | exact HF.out _ (z_go (KeptIn.refl _ _).drew hk) | exact HF.out _ (z_go (((KeptIn.refl _ _).alloc (fun _ h => h) _).drew) hk) | exact HF.out _ ((z_go (KeptIn.refl _ _).drew hk).alloc (fun _ h => h.1) _) | exact HF.out _ (((z_go (KeptIn.refl _ _).drew hk).alloc (fun _ h => h.1) _).setCell (fun h => Nat.not_lt.2 hk.size h.1) _) | exact HF.out _ ((((z_go (KeptIn.refl _ _).drew hk).alloc (fun _ h => h.1) _).setCell (fun h => Nat.not_lt.2 hk.size h.1) _).setCell (fun h => Nat.not_lt.2 hk.size h.1) _) | exact HF.out _ (((z_go (((KeptIn.refl _ _).alloc (fun _ h => h) _).drew) hk).setCell (by simp) _).setCell (by simp) _))
          (first | (go_at_call 35; first | (refine (HRC.out wc.drew (KeptIn.refl _ _).drew).mono ?_; rintro e V ⟨g, cg, c', M', rfl, hmr, hz, hq, hcc, hk⟩; rw [HN.out]; rw [HN.out] at hz; unfold leafV) | (refine (HRC.out (wc.alloc (.cells #[.int .i64 0, .slice none 0 0] 27)).drew (((KeptIn.refl _ _).alloc (fun _ h => h) _).drew)).mono ?_; rintro e V ⟨g, cg, c', M', rfl, hmr, hz, hq, hcc, hk⟩; have hb9 := (show BoxL wc.heap.size 0 none 0 0 (wc.alloc (.cells #[.int .i64 0, .slice none 0 0] 27)).drew from heap_alloc_new wc _).kept (W' := V) hk ⟨Nat.lt_of_lt_of_le (Nat.lt_succ_self _) (Nat.le_of_eq (World.size_alloc _ _).symm), Nat.ne_of_gt HXW.out⟩; have e0 := hb9.c0; have e1 := hb9.c1; have g0 := hb9.f0; have g1 := hb9.f1; rw [HN.out]; rw [HN.out] at hz; unfold leafV)))
        · go_wp2_with fail
          go_meet
          case rel =>
            obtain ⟨i9, hi9, hp9, he9⟩ := HIX.out
            exact ⟨_, _, _, rfl, rfl, Lib.hid (so_read29p HC.out hi9 hp9 he9 (z_go (KeptIn.refl _ wc).drew hk) hmr hz hq hcc HN.out)⟩
        · go_wp2_with fail
          go_meet
          case rel =>
            obtain ⟨i9, hi9, hp9, he9⟩ := HIX.out
            exact ⟨_, _, _, rfl, rfl, Lib.hid (so_read9p HC.out hi9 hp9 he9 (((KeptIn.refl _ wc).alloc (fun _ h => h) _).drew) rfl (show BoxL wc.heap.size 0 none 0 0 (wc.alloc (.cells #[.int .i64 0, .slice none 0 0] 27)).drew from heap_alloc_new wc _) hk hmr hz hq hcc HN.out)⟩
      case rest =>
        obtain ⟨y, g, cg, rfl, rfl, hq⟩ := hcut
        have HQ := hq
        clear hq HC HF HRC HXW HIX c0 d0 d1 d2 d3 d4 HRD
        obtain ⟨v2, hF⟩ := HQ.out
        have y0 := hF.leaf.c0
        have y1 := hF.leaf.c1
        have HF := Lib.hid hF
        clear HQ hF
        go_wp2_with fail
        go_ret
        exact ⟨v2, rfl, HF.out.sv, HF.out.mm, HF.out.kept⟩
  | succ l ih =>
    intro root lv lo hi p ps qs g0 w D S B0 c v ms M hsh hD h hmm0 hS hl7 h15 hhi hnd hml hcb
    obtain ⟨hgood, hpos⟩ := fit_good' hS.fit
    have hval := good_vals hgood (by omega)
    have CT : ∀ (j g cg : Nat) (W : World), j < ps.length → IsPs W (some ⟨g, 0, none⟩) ps → Calls Try.prog 38 #[leafV ((l + 1 : Nat) : Int) (some ⟨g, 0, none⟩) ps.length cg, .int .i64 (j : Int), .int .u64 (hi : Int)] W fun e w' => e = .returned (leadV (valAt ps j) false (l : Int) (keyAt ps j) (highOf ps j hi)) ∧ KeptIn (· < W.heap.size) W w' := by
      intro j g cg W hj hp
      have := trToChild (l + 1) (some ⟨g, 0, none⟩) cg ps j hi W hp (good_rises hgood) hj (by omega) ⟨by omega, hl7⟩ (hval j hj).2
      rw [show ((l + 1 : Nat) : Int) - 1 = (l : Int) by omega] at this
      exact this
    have z0 : (((l + 1 : Nat) : Int) == 0) = false := by rw [beq_eq_false_iff_ne]; omega
    have z1 : ¬ ((l + 1 : Nat) : Int) = 0 := by omega
    obtain ⟨LV, hLV⟩ : ∃ LV : Int, ((l + 1 : Nat) : Int) = LV := ⟨_, rfl⟩
    rw [hLV] at z0 z1 CT
    have HCT := Lib.hid CT
    have HX := Lib.hid (And.intro h15 hhi)
    clear CT hgood hval hpos
    unfold leafV at HCT
    obtain ⟨ix, hix, hqi, hni⟩ := nodeOf_at hS.node
    obtain ⟨a, cap, rfl⟩ := row_sliceI h.row
    obtain ⟨m, hm⟩ : ∃ m, ms.length = m := ⟨_, rfl⟩
    rw [hm] at h hml
    obtain ⟨W, hW⟩ : ∃ W, w.alloc (.cells #[.int .i64 (p : Int), .bool root, .int .i64 lv, .int .u64 (lo : Int), .int .u64 (hi : Int)] 97) = W := ⟨_, rfl⟩
    have hkW : KeptIn (· < w.heap.size) w W := by rw [← hW]; exact (KeptIn.refl _ w).alloc (fun _ h => h) _
    have hbd : BoxD w.heap.size p root lv lo hi W := by rw [← hW]; exact BoxD.new w p root lv lo hi
    have hsv := h.old hkW
    have hmm := hmm0.old hkW
    have hshW := hsh.old hkW
    have hSW : W.heap[S]? = some (.cells #[mmI s xm, .slice a m cap, .int .i64 0] 126 (0, 0)) := hsv.box
    have c0 : W.cell? ⟨S, 0, none⟩ = some (mmI s xm) := (cell_of_row _ _ 0 _ _ _ hSW).trans rfl
    have c1 : W.cell? ⟨S, 1, none⟩ = some (.slice a m cap) := (cell_of_row _ _ 1 _ _ _ hSW).trans rfl
    have hp : (p : Int) ∉ ms := by
      intro hin
      have := (List.nodup_append.1 hnd).2.2 _ hin _ (List.mem_map.2 ⟨p, List.mem_cons_self, rfl⟩)
      exact this rfl
    have hrowW : W.ownsRow B0 3 1 (.slice a m cap) m (cellsI ms) := by have := hsv.row; rw [hm] at this; exact this
    have hI : IntsL W a ms := by
      have h1 := hrowW
      rw [← hm] at h1
      exact rowIntsL h1 (by unfold maxLen; omega)
    have HQ := Lib.hid fun n => iContQ hI (x := (p : Int)) (cap := cap) hm (decide_eq_false hp) n
    have d0 := hbd.c0
    have d1 := hbd.c1
    have d2 := hbd.c2
    have d3 := hbd.c3
    have d4 := hbd.c4
    obtain ⟨x, hx⟩ : ∃ x, w.heap.size = x := ⟨_, rfl⟩
    have HG : Hid (∀ (nq : Nat) (w1 : World), (((W.drewN nq).drew).alloc (.cells #[.int .i64 (p : Int)] 3)).grownBy w1 (Value.slice a m cap).ownBlock → w1.cell? ⟨S, 1, none⟩ = some (.slice a m cap) ∧ w1.frozen? ⟨S, 1, none⟩ = false) := Lib.hid fun nq w1 hg => by
      have hSlt : S < W.heap.size := Nat.lt_of_lt_of_le hsv.lt hsv.le
      have hn := rowS_ne hrowW hSW (by decide)
      have h1 : w1.heap[S]? = W.heap[S]? := (hg.block _ (by simp; exact Nat.lt_succ_of_lt hSlt) (fun e => hn e.symm)).trans (Lib.alloc_old ((W.drewN nq).drew) _ _ hSlt)
      exact ⟨(World.cell?_of_block (a := ⟨S, 1, none⟩) h1).trans ((cell_of_row _ _ 1 _ _ _ hSW).trans rfl), (World.frozen?_of_block (a := ⟨S, 1, none⟩) h1).trans (by simp [World.frozen?, hSW])⟩
    have HM : Hid (∀ (nq : Nat) (w1 : World) (gg cap' : Nat), (((W.drewN nq).drew).alloc (.cells #[.int .i64 (p : Int)] 3)).grownBy w1 (Value.slice a m cap).ownBlock → w1.ownsRow B0 3 1 (.slice (some ⟨gg, 0, none⟩) (m + 1) cap') (m + 1) (cellsI ms ++ [.int .i64 (p : Int)]) →
        SoM9 w S s B0 xm c x p room N D M root lv lo hi (ms ++ [(p : Int)]) (w1.setCell ⟨S, 1, none⟩ (.slice (some ⟨gg, 0, none⟩) (m + 1) cap'))) := Lib.hid fun nq w1 gg cap' hg hown => by
      refine so_met9 (V := (W.drewN nq).drew) ⟨hsv.box, hsv.row, hsv.lt, hsv.le⟩ ?_ (hshW.old ((KeptIn.refl _ W).drewN nq).drew) hD (sdz_old (hkW.drewN nq).drew) (Nat.le_of_eq hx) (hmm.old ((KeptIn.refl _ W).drewN nq).drew) hm hg hown
      rw [hx] at hbd
      exact hbd
    have hB0 : B0 ≤ W.heap.size := hsv.le
    have hS0 : S < B0 := hsv.lt
    have HROW := Lib.hid hrowW
    have hSx : S ≠ x := by rw [← hx]; have := h.lt; have := h.le; omega
    have HRD : Hid (∀ V, IsMm V xm c N M → IsSh V s room N D → Calls Try.prog 35 #[leadV p root lv lo hi, mmI s xm] V (MmR V xm c N M (p : Int) (LV : Int) ps)) := Lib.hid fun V hV hV2 => by
      have := trLeadReadM hV hV2 (by omega) ix hix (hfit ix hix) root lv lo hi (by rw [hni]; exact hS.fit)
      rw [hqi, hni] at this
      try rw [hLV] at this
      exact this
    have HIX : Hid (∃ (i : Nat) (h : i < N.length), i + 1 = p ∧ N[i].2 = ps) := Lib.hid ⟨ix, hix, hqi, by rw [hni]⟩
    obtain ⟨ip, hip, hp0, hp1, hp2⟩ := info_parts infoInt8
    obtain ⟨n, hn⟩ : ∃ n, ps.length = n := ⟨_, rfl⟩
    have HN := Lib.hid hn
    have HML := Lib.hid hm
    have HH := Lib.hid (And.intro hsh (And.intro hD (And.intro hS (And.intro hnd (And.intro hml (And.intro hl7 hcb))))))
    clear hrowW hshW hsv hkW hbd hp hI hSW h hsh hD hS hnd hix hqi hni hn hm hmm hmm0 hcb
    unfold mmI mmV pgV leadV at *
    rw [hx] at d0 d1 d2 d3 d4
    go_enter Try.func59, Try.ntmps59
    go_wp2_with fail
    go_quiet ((go_at_call 77; exact Calls.quiet_of_same (HQ.out _)))
    go_upto_region 3 with fail
    go_cut [] from 8 (fun wx => Hid (SoM9 w S s B0 xm c x p room N D M root lv lo hi (ms ++ [(p : Int)]) wx))
    case first =>
      go_wp2_with fail
      have c1' : ((W.drewN nq).drew).cell? ⟨S, 1, none⟩ = some (.slice a m cap) := c1
      have x0' : ((W.drewN nq).drew).cell? ⟨x, 0, none⟩ = some (.int .i64 (p : Int)) := d0
      have hrow8 : ((W.drewN nq).drew).ownsRow B0 3 1 (.slice a m cap) m (cellsI ms) := HROW.out
      have hsz8 : B0 ≤ ((W.drewN nq).drew).heap.size := hB0
      have hSV : S < ((W.drewN nq).drew).heap.size := Nat.lt_of_lt_of_le hS0 hB0
      have cc8 : (((W.drewN nq).drew).alloc (.cells #[.int .i64 (p : Int)] 3)).cell? ⟨S, 1, none⟩ = some (.slice a m cap) := (World.cell?_of_block (a := ⟨S, 1, none⟩) (Lib.alloc_old ((W.drewN nq).drew) _ _ hSV)).trans c1
      have hgr8 := HG.out nq
      have hme8 := HM.out nq
      obtain ⟨V, hV⟩ : ∃ V, (W.drewN nq).drew = V := ⟨_, rfl⟩
      rw [hV] at c1' x0' hrow8 hsz8 hgr8 cc8 hme8
      clear hSV
      go_region_law (first
        | (refine step_append_lies _ (by rfl) _ _ 23 (by rfl) B0 3 ip _ 1 8 Try.underlying23 hip hp0 hp1 hp2 rfl (by omega) (.slice a m cap) m _ (by rfl) (hrow8.alloc _) ⟨V.heap.size, 0, none⟩ 1 1 [.int .i64 (p : Int)] (by rfl) (by rfl) (World.news_of_block (cs := #[.int .i64 (p : Int)]) (t := 3) (fr := (0, 0)) (heap_alloc_new V _)) (by simp [Value.oneCell']) (by omega) (by unfold maxLen; omega) (by omega) (by simp; omega) (V.heap.size + 1) (by simp) ?_; intro gg cap' w1 hown1 hgrow hat hlt1; obtain ⟨e0', ef⟩ := hgr8 w1 hgrow; have hmm := hme8 w1 gg cap' hgrow hown1))
      all_goals
        clear hgr8 hme8 hrow8
        go_wp2_with fail
        go_meet
        case rel => exact Lib.hid hmm
    case rest =>
      have HC := hcut
      clear hcut HM HG HQ HROW c0 c1 d0 d1 d2 d3 d4
      have HF := Lib.hid fun V (hk : KeptIn (fun j => j < wc.heap.size ∧ j ≠ xm) wc V) => HC.out.facts hk
      obtain ⟨c0, d0, d1, d2, d3, d4⟩ := HC.out.facts (KeptIn.refl _ wc)
      have HRC : Hid (∀ V, KeptIn (· < wc.heap.size) wc V → _) := Lib.hid fun V hk => HRD.out V (HC.out.choose_spec.2.2.2.2.2.2.old hk) (HC.out.choose_spec.2.2.1.old hk)
      have HXW : Hid (xm < wc.heap.size) := Lib.hid HC.out.choose_spec.2.2.2.2.2.2.lt
      unfold mmI mmV pgV at HF c0
      go_upto_region 4 with fail
      go_cut [5, 6] from 8 (fun s5 s6 wx => ∃ y g cg : Nat, s5 = .pointer (some ⟨y, 0, none⟩) ∧ s6 = .int .i64 0 ∧ Hid (∃ v, SoF9 w S s B0 xm c x y p g n cg room N D M [(p : Int)] root lv lo hi LV ps v (ms ++ [(p : Int)]) wx))
      case first =>
        go_wp2_with fail
        go_region_held3 (fun w' => w'.cell? ⟨S, 0, none⟩ = some (.iface 60 (.agg #[.iface 28 (.pointer (some ⟨s, 0, none⟩)), .map (some xm)])) ∧ w'.cell? ⟨x, 0, none⟩ = some (.int .i64 (p : Int)) ∧ w'.cell? ⟨x, 1, none⟩ = some (.bool root) ∧ w'.cell? ⟨x, 2, none⟩ = some (.int .i64 lv) ∧ w'.cell? ⟨x, 3, none⟩ = some (.int .u64 (lo : Int)) ∧ w'.cell? ⟨x, 4, none⟩ = some (.int .u64 (hi : Int)))
          (first | exact ⟨c0, d0, d1, d2, d3, d4⟩ | exact HF.out _ (KeptIn.refl _ _).drew | exact HF.out _ (((KeptIn.refl _ _).alloc (fun _ h => h.1) _).drew) | exact HF.out _ (z_go (KeptIn.refl _ _).drew hk) | exact HF.out _ (z_go (((KeptIn.refl _ _).alloc (fun _ h => h) _).drew) hk) | exact HF.out _ ((z_go (KeptIn.refl _ _).drew hk).alloc (fun _ h => h.1) _) | exact HF.out _ (((z_go (KeptIn.refl _ _).drew hk).alloc (fun _ h => h.1) _).setCell (fun h => Nat.not_lt.2 hk.size h.1) _) | exact HF.out _ ((((z_go (KeptIn.refl _ _).drew hk).alloc (fun _ h => h.1) _).setCell (fun h => Nat.not_lt.2 hk.size h.1) _).setCell (fun h => Nat.not_lt.2 hk.size h.1) _) | exact HF.out _ (((z_go (((KeptIn.refl _ _).alloc (fun _ h => h) _).drew) hk).setCell (by simp) _).setCell (by simp) _))
          (first | (go_at_call 35; first | (refine (HRC.out wc.drew (KeptIn.refl _ _).drew).mono ?_; rintro e V ⟨g, cg, c', M', rfl, hmr, hz, hq, hcc, hk⟩; rw [HN.out]; rw [HN.out] at hz; unfold leafV) | (refine (HRC.out (wc.alloc (.cells #[.int .i64 0, .slice none 0 0] 27)).drew (((KeptIn.refl _ _).alloc (fun _ h => h) _).drew)).mono ?_; rintro e V ⟨g, cg, c', M', rfl, hmr, hz, hq, hcc, hk⟩; have hb9 := (show BoxL wc.heap.size 0 none 0 0 (wc.alloc (.cells #[.int .i64 0, .slice none 0 0] 27)).drew from heap_alloc_new wc _).kept (W' := V) hk ⟨Nat.lt_of_lt_of_le (Nat.lt_succ_self _) (Nat.le_of_eq (World.size_alloc _ _).symm), Nat.ne_of_gt HXW.out⟩; have e0 := hb9.c0; have e1 := hb9.c1; have g0 := hb9.f0; have g1 := hb9.f1; rw [HN.out]; rw [HN.out] at hz; unfold leafV)))
        · go_wp2_with fail
          go_meet
          case rel =>
            obtain ⟨i9, hi9, hp9, he9⟩ := HIX.out
            exact ⟨_, _, _, rfl, rfl, Lib.hid (so_read29p HC.out hi9 hp9 he9 (z_go (KeptIn.refl _ wc).drew hk) hmr hz hq hcc HN.out)⟩
        · go_wp2_with fail
          go_meet
          case rel =>
            obtain ⟨i9, hi9, hp9, he9⟩ := HIX.out
            exact ⟨_, _, _, rfl, rfl, Lib.hid (so_read9p HC.out hi9 hp9 he9 (((KeptIn.refl _ wc).alloc (fun _ h => h) _).drew) rfl (show BoxL wc.heap.size 0 none 0 0 (wc.alloc (.cells #[.int .i64 0, .slice none 0 0] 27)).drew from heap_alloc_new wc _) hk hmr hz hq hcc HN.out)⟩
      case rest =>
        obtain ⟨y, g, cg, rfl, rfl, hq⟩ := hcut
        have HQ := hq
        clear hq HC HF HRC HXW HIX c0 d0 d1 d2 d3 d4 HRD
        obtain ⟨v2, hF⟩ := HQ.out
        have y0 := hF.leaf.c0
        have y1 := hF.leaf.c1
        have HF := Lib.hid hF
        clear HQ hF
        have HI0 : Hid (SoK9 w S s B0 xm c x y p g n cg room N D M root lv lo hi LV ps qs l g0 (ms ++ [(p : Int)]) 0 wc) := Lib.hid ⟨v2, [], qs, [], g0, Nat.zero_le _, rfl, rfl, ⟨rfl, rfl⟩, HH.out.2.2.1.body, by simpa [ofP] using HF.out⟩
        have hn15 : n ≤ 15 := by rw [← HN.out]; exact HX.out.1
        go_wp2_with fail
        go_loopw [7, 53] (fun _ i wr => ∃ (j : Nat) (W : World), W = wr ∧ i = .int .i64 (j : Int) ∧ Hid (SoK9 w S s B0 xm c x y p g n cg room N D M root lv lo hi LV ps qs l g0 (ms ++ [(p : Int)]) j W)) (fun _ i _ => n - (intOf i).toNat)
        case atStart => exact ⟨0, _, rfl, rfl, HI0⟩
        case round =>
          obtain ⟨j, W, rfl, rfl, HJ⟩ := hrel
          clear HI0 y0 y1 HF
          by_cases hlt : j < n
          · obtain ⟨t1, t2, t3, t4⟩ := rg_idx j n hlt (by omega)
            clear t3
            obtain ⟨v3, ms2, ps', q2, g', c2, M2, qs2, hF, hmk, hcq, hmo, hck, hkid, hk15, hnd2, hml2, hnext⟩ := HJ.out.kid HH.out.2.2.1 hl7 hN HN.out hlt (by
              have := HH.out.2.2.2.1
              rw [List.append_assoc]
              exact this) (by have := HH.out.2.2.2.2.1; have := HML.out; rw [List.length_append, List.length_singleton]; omega)
            have hhi2 := highOf_lt ps j hi hF.isps.fits HX.out.2
            have y0 := hF.leaf.c0
            have y1 := hF.leaf.c1
            have y2 := hF.lead.c4
            have HCH := Lib.hid (HCT.out j g cg W (by rw [HN.out]; exact hlt) hF.isps)
            rw [HN.out] at HCH
            have HG : Hid (∀ V, KeptIn (· < W.heap.size) W V → Calls Try.prog 59 #[.pointer (some ⟨S, 0, none⟩), .agg #[.int .i64 (valAt ps j : Int), .bool false, .int .i64 (l : Int), .int .u64 (keyAt ps j : Int), .int .u64 (highOf ps j hi : Int)]] V (SoQ V S s B0 xm c2 N M2 ms2 (ofP (valAt ps j :: g')))) := Lib.hid fun V hk => by
              have hV := hF.old hk
              exact ih hV.sh hV.dS hV.sv (hmk.old hk) hkid (by omega) hk15 hhi2 hnd2 hml2 (Nat.le_trans hck HH.out.2.2.2.2.2.2)
            have HNX : Hid (∀ V W' v', KeptIn (· < W.heap.size) W V → SvU W' S (mmI s xm) B0 v' (ms2 ++ ofP (valAt ps j :: g')) → MmS W' xm c2 N M2 (ofP (valAt ps j :: g')) → KeptIn (SdZ V S B0 xm) V W' → SoK9 w S s B0 xm c x y p g n cg room N D M root lv lo hi LV ps qs l g0 (ms ++ [(p : Int)]) (j + 1) W') := Lib.hid fun V W' v' h1 h2 h4 h3 => hnext v' W' ((hF.old h1).go h3 h2 (MmS.trans hcq hmo h4))
            clear hkid hk15 hnd2 hml2 hnext hhi2 hF HJ hmk hcq hmo hck
            obtain ⟨kk, hkk⟩ : ∃ kk, keyAt ps j = kk := ⟨_, rfl⟩
            obtain ⟨vv, hvv⟩ : ∃ vv, valAt ps j = vv := ⟨_, rfl⟩
            obtain ⟨hh, hhe⟩ : ∃ hh, highOf ps j hi = hh := ⟨_, rfl⟩
            rw [hkk, hvv, hhe] at HG HCH
            rw [hvv] at HNX
            clear hkk hvv hhe
            go_wp2_with (first
              | (go_at_call 38; refine HCH.out.mono ?_; rintro e V2 ⟨rfl, hk2⟩; have HCB := Lib.hid (HG.out V2 hk2); have HK2 := Lib.hid hk2; clear hk2)
              | (go_at_call 59; refine HCB.out.mono ?_; rintro e V3 ⟨v4, rfl, hs4, hm4, hk4⟩; have HO := Lib.hid (HNX.out V2 V3 v4 HK2.out hs4 hm4 hk4); clear hs4 hm4 hk4))
            go_roundw
            case rel => exact ⟨j + 1, _, rfl, congrArg (Value.int .i64) (rg_succ j), HO⟩
            case measure => simp only [intOf]; exact rg_meas j n hlt
          · obtain ⟨u1, u2⟩ := rg_ge hlt
            have HE := Lib.hid (HJ.out.fin HN.out hlt)
            clear HJ
            go_wp2_with fail
            go_ret
            exact HE.out

end Go.Proofs.Ytjollbaohopmjaa
