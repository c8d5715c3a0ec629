/- OwnersExact of layer 13: the walk: it returns true for every input and writes nothing that was there. -/
import Derived.Test.YtononiedecpllaaEx13
import Derived.Test.YtononiedecpllaaFreW13
set_option linter.unusedVariables false
namespace Go.Proofs.Ytononiedecpllaa
open Go.RowKit Go.Maps Go.Sort

/-- What stands between the deeds. -/
def Lx13 (w1 : World) (b ub : Nat) (f h : Int → List Ow) (L K : List On) (v1 v2 : Value) (j : Nat) (W : World) : Prop := Mx13 w1 b ub f h L K v1 v2 (fun _ => False) W ∧ Pu13 f h L K j
/-- What stands within a deed. -/
def Lz13 (w1 : World) (b ub : Nat) (f h : Int → List Ow) (L K : List On) (v1 v2 : Value) (y : Nat) (kd c : Int) (q : Ow) (W : World) : Prop :=
  Mx13 w1 b ub f h L K v1 v2 (fun k => k = y ∨ k = y + 1) W ∧ BoxA13 y kd c q W ∧ BoxN (y + 1) ⟨c, q⟩ W
def Ly13 (w1 : World) (b ub : Nat) (f h : Int → List Ow) (L K : List On) (v1 v2 : Value) (j y : Nat) (kd c : Int) (q : Ow) (W : World) : Prop := Lz13 w1 b ub f h L K v1 v2 y kd c q W ∧ Pu13 f h L K j
section
variable {w1 : World} {b ub y : Nat} {f h f' h' : Int → List Ow} {L K L' : List On} {v1 v2 v : Value} {kd c : Int} {q : Ow} {V W : World}
theorem Lz13.old (H : Lz13 w1 b ub f h L K v1 v2 y kd c q V) (hk : KeptIn (· < V.heap.size) V W) : Lz13 w1 b ub f h L K v1 v2 y kd c q W :=
  ⟨H.1.old hk, (hk.block y (H.1.xl y (.inl rfl)).2).trans H.2.1, H.2.2.old hk⟩
theorem Lz13.nx (H : Lz13 w1 b ub f h L K v1 v2 y kd c q V) : ¬ (ub = y ∨ ub = y + 1) := by
  rintro (e | e)
  · have h1 := H.1.hu
    rw [e] at h1
    have := h1.symm.trans H.2.1
    simp at this
  · have h1 := H.1.hu
    rw [e] at h1
    have := h1.symm.trans H.2.2
    simp at this
theorem Lz13.did {e : Ending} (H : Lz13 w1 b ub f h L K v1 v2 y kd c q V) (hd : DoS w1 b f' h' (XB ub v1 v2 fun k => k = y ∨ k = y + 1) V v e W) :
    e = .returned v ∧ Lz13 w1 b ub f' h' L K v1 v2 y kd c q W := by
  obtain ⟨e1, e2, e3⟩ := H.1.did hd
  exact ⟨e1, e2, (e3.block y (.inl rfl)).trans H.2.1, H.2.2.kept e3 (.inr rfl)⟩
theorem Lz13.set0 (H : Lz13 w1 b ub f h L K v1 v2 y kd c q V) (hk : KeptIn (· < V.heap.size) V W) (hr : RowN W V.heap.size v L') : Lz13 w1 b ub f h L' K v v2 y kd c q (W.setCell ⟨ub, 0, none⟩ v) := by
  obtain ⟨e2, e3⟩ := H.1.set0 H.nx hk hr
  exact ⟨e2, (e3.block y (.inl rfl)).trans H.2.1, H.2.2.kept e3 (.inr rfl)⟩
theorem Lz13.set1 (H : Lz13 w1 b ub f h L K v1 v2 y kd c q V) (hk : KeptIn (· < V.heap.size) V W) (hr : RowN W V.heap.size v L') : Lz13 w1 b ub f h L L' v1 v y kd c q (W.setCell ⟨ub, 1, none⟩ v) := by
  obtain ⟨e2, e3⟩ := H.1.set1 H.nx hk hr
  exact ⟨e2, (e3.block y (.inl rfl)).trans H.2.1, H.2.2.kept e3 (.inr rfl)⟩
theorem Lz13.look (H : Lz13 w1 b ub f h L K v1 v2 y kd c q V) : (V.cell? ⟨ub, 0, none⟩ = some v1 ∧ V.cell? ⟨ub, 1, none⟩ = some v2) ∧ (V.frozen? ⟨ub, 0, none⟩ = false ∧ V.frozen? ⟨ub, 1, none⟩ = false) ∧
    (V.cell? ⟨y, 0, none⟩ = some (.int .i64 kd) ∧ V.cell? ⟨y, 1, none⟩ = some (.int .i64 c) ∧ V.cell? ⟨y, 2, none⟩ = some (.int .i64 q.vol) ∧ V.cell? ⟨y, 3, none⟩ = some (.int .i64 q.bir) ∧ V.cell? ⟨y, 4, none⟩ = some (.int .i64 q.pos)) ∧
    (V.cell? ⟨y + 1, 0, none⟩ = some (.int .i64 c) ∧ V.cell? ⟨y + 1, 1, none⟩ = some (.int .i64 q.vol) ∧ V.cell? ⟨y + 1, 2, none⟩ = some (.int .i64 q.bir) ∧ V.cell? ⟨y + 1, 3, none⟩ = some (.int .i64 q.pos)) := by
  have h1 := H.1.hu
  exact ⟨⟨by simp [World.cell?, h1], by simp [World.cell?, h1]⟩, ⟨by simp [World.frozen?, h1], by simp [World.frozen?, h1]⟩, H.2.1.cells, H.2.2.cells⟩
end

theorem lx13_zero {w : World} {b : Nat} {D : Nat → Prop} {W : World} (hb : BkA w.heap.size b (fun _ => []) (fun _ => []) D W) (hk : KeptIn (· < w.heap.size) w W) :
    Lx13 w b W.heap.size (fun _ => []) (fun _ => []) [] [] (.slice none 0 0) (.slice none 0 0) 0 (W.alloc (.cells #[.slice none 0 0, .slice none 0 0] 29)) := by
  have hn := Bo.new hb hk
  have ha : KeptIn (· < W.heap.size) W (W.alloc (.cells #[.slice none 0 0, .slice none 0 0] 29)) := (KeptIn.refl _ W).alloc (fun _ h => h) _
  refine ⟨⟨hn.more ha _ fun k hk' => .inr ?_, heap_alloc_new _ _, RowN.nil _ _, RowN.nil _ _, hk.size, fun k h => h.elim⟩, Pu13.zero⟩
  rcases hk' with (rfl | e | e) | e
  · rw [World.size_alloc]; omega
  · cases e
  · cases e
  · exact e.elim

theorem ly13_new {w1 : World} {b ub : Nat} {f h : Int → List Ow} {L K : List On} {v1 v2 : Value} {j : Nat} {V : World} (H : Lx13 w1 b ub f h L K v1 v2 j V) (kd c : Int) (q : Ow) :
    Ly13 w1 b ub f h L K v1 v2 j V.heap.size kd c q ((V.alloc (.cells #[.int .i64 kd, .int .i64 c, .int .i64 q.vol, .int .i64 q.bir, .int .i64 q.pos] 33)).alloc (.cells #[.int .i64 c, .int .i64 q.vol, .int .i64 q.bir, .int .i64 q.pos] 35)) := by
  obtain ⟨V1, h1⟩ : ∃ V1, V.alloc (.cells #[.int .i64 kd, .int .i64 c, .int .i64 q.vol, .int .i64 q.bir, .int .i64 q.pos] 33) = V1 := ⟨_, rfl⟩
  obtain ⟨V2, h2⟩ : ∃ V2, V1.alloc (.cells #[.int .i64 c, .int .i64 q.vol, .int .i64 q.bir, .int .i64 q.pos] 35) = V2 := ⟨_, rfl⟩
  have k1 : KeptIn (· < V.heap.size) V V1 := by rw [← h1]; exact (KeptIn.refl _ V).alloc (fun _ h => h) _
  have k2 : KeptIn (· < V1.heap.size) V1 V2 := by rw [← h2]; exact (KeptIn.refl _ V1).alloc (fun _ h => h) _
  have z1 : V1.heap.size = V.heap.size + 1 := by rw [← h1, World.size_alloc]
  have z2 : V2.heap.size = V1.heap.size + 1 := by rw [← h2, World.size_alloc]
  have b1 : BoxA13 V.heap.size kd c q V1 := by rw [← h1]; exact heap_alloc_new V _
  have b2 : BoxN V1.heap.size ⟨c, q⟩ V2 := by rw [← h2]; exact BoxN.new V1 ⟨c, q⟩
  rw [z1] at b2
  rw [h1, h2]
  exact ⟨⟨H.1.more (k1.on k2) _ (fun k hk => .inr (by omega)), (k2.block _ (by omega)).trans b1, b2⟩, H.2⟩
theorem rowI_block {w w' : World} {B n s : Nat} {T : TypeId} {v : Value} {xs : List Value} (h : w.ownsRow B T s v n xs) (hb : ∀ g, v.ownBlock = some g → w'.heap[g]? = w.heap[g]?) : w'.ownsRow B T s v n xs := by
  refine ⟨h.1, ?_⟩
  rcases h.2 with h1 | ⟨g, cap, cur, rfl, hg, hb', r⟩
  · exact .inl h1
  · exact .inr ⟨g, cap, cur, rfl, hg, (hb g rfl).trans hb', r⟩
theorem rowNewsN {W : World} {B g n cap : Nat} {l : List On} (h : RowN W B (.slice (some ⟨g, 0, none⟩) n cap) l) : ∀ j u, (cellsN l)[j]? = some u → W.cell? ((⟨g, 0, none⟩ : Addr).add j) = some u := fun j u hu => by
  rw [Addr.add_lit, Nat.zero_add]
  rcases h.form with ⟨e, _⟩ | ⟨g', cap', cur, e, hB, hc, h1, h2, h3, h4⟩
  · cases e
  · simp only [Value.slice.injEq, Option.some.injEq, Addr.mk.injEq, and_true] at e
    obtain ⟨rfl, _⟩ := e
    rw [← h4, List.getElem?_take] at hu
    split at hu
    · simp at hu; simp [World.cell?, hc, hu]
    · cases hu
set_option maxHeartbeats 16000000 in
set_option maxRecDepth 100000 in
theorem exaW13 (a : Option Addr) (len cap : Nat) (w : World) (w0 : IsActs13 w a len) :
    Calls Try.prog 3 #[.slice a len cap] w fun e w' => e = .returned (.bool true) ∧ KeptIn (· < w.heap.size) w w' := by
  have l0 := w0.len_le
  unfold maxLen at l0
  have b0 : (len : Int) ≤ 9223372036854775807 := by omega
  have WA := Lib.hid w0
  clear w0 l0
  go_enter Try.func3, Try.ntmps3
  go_wp2_with fail
  refine (awake13 w).mono ?_
  rintro e W1 ⟨rfl, k1⟩
  have HK1 := Lib.hid k1
  clear k1
  go_wp2_with fail
  refine (owNew W1).mono ?_
  rintro e W2 hN
  unfold NewO at hN
  obtain ⟨b, D, rfl, hb, hk⟩ := hN
  have h0 := lx13_zero hb hk
  obtain ⟨ub, hub⟩ : ∃ ub, W2.heap.size = ub := ⟨_, rfl⟩
  obtain ⟨W3, hW3⟩ : ∃ W3, W2.alloc (.cells #[.slice none 0 0, .slice none 0 0] 29) = W3 := ⟨_, rfl⟩
  rw [hub, hW3] at h0
  have HI0 := Lib.hid h0
  have HW3 := Lib.hid (And.intro hub hW3)
  clear hb hk h0 hub hW3
  go_wp2_with fail
  rw [HW3.out.2, HW3.out.1]
  clear HW3
  go_loopw [5, 6, 7, 8, 9, 10, 11, 12, 13, 14] (fun i _ _ _ _ _ _ _ _ _ wr => ∃ (j : Nat) (V : World) (f h : Int → List Ow) (L K : List On) (v1 v2 : Value), V = wr ∧ j ≤ len ∧ j ≤ 80 ∧ i = .int .i64 (j : Int) ∧ Hid (Lx13 W1 b ub f h L K v1 v2 j V)) (fun i _ _ _ _ _ _ _ _ _ _ => 80 - (intOf i).toNat)
  case atStart => exact ⟨0, _, _, _, _, _, _, _, rfl, Nat.zero_le _, Nat.zero_le _, rfl, HI0⟩
  case round =>
    obtain ⟨j, V, f, h, L, K, v1, v2, rfl, hj, hj1, rfl, HJ⟩ := hrel
    clear HI0
    have d0 : (0 : Int) ≤ (j : Int) := by omega
    by_cases hlt : j < len ∧ j < 80
    · have d1 : (j : Int) < (len : Int) := by omega
      have d2 : (j : Int) < 80 := by omega
      obtain ⟨ab, off, rfl, hab, _, hel⟩ : ∃ b off, a = some ⟨b, off, none⟩ ∧ b < w.heap.size ∧ len ≤ maxLen ∧ _ := WA.out.resolve_left (by omega)
      obtain ⟨kd, c, q, wk, wc, e0, e1, e2, e3, e4⟩ := hel j hlt.1
      have hkw : KeptIn (· < w.heap.size) w V := HK1.out.on HJ.out.1.bo.kept
      have g0 := (World.cell?_of_block (hkw.block ab hab)).trans e0
      have g1 := (World.cell?_of_block (hkw.block ab hab)).trans e1
      have g2 := (World.cell?_of_block (hkw.block ab hab)).trans e2
      have g3 := (World.cell?_of_block (hkw.block ab hab)).trans e3
      have g4 := (World.cell?_of_block (hkw.block ab hab)).trans e4
      rw [Nat.add_zero] at g0
      have H5 := Lib.hid (ly13_new HJ.out kd c q)
      have HWF := Lib.hid (And.intro wk wc)
      clear e0 e1 e2 e3 e4 hel wk wc HJ hkw hlt
      go_upto_block 2 with fail
      clear g0 g1 g2 g3 g4
      generalize (V.alloc (.cells #[.int .i64 kd, .int .i64 c, .int .i64 q.vol, .int .i64 q.bir, .int .i64 q.pos] 33)).alloc (.cells #[.int .i64 c, .int .i64 q.vol, .int .i64 q.bir, .int .i64 q.pos] 35) = W5 at *
      generalize V.heap.size = y at *
      obtain ⟨p0, p1, p2, p3, p4⟩ := H5.out.1.2.1.cells
      have bk := bounds_i64 HWF.out.1
      have bc := bounds_i64 HWF.out.2
      go_cut [8, 9, 10, 11] from 44 to 214 (fun _ _ _ _ wx => ∃ (V' : World) (f' h' : Int → List Ow) (L' K' : List On) (v1' v2' : Value), V' = wx ∧ Hid (Ly13 W1 b ub f' h' L' K' v1' v2' (j + 1) y kd c q V'))
      case first => -- M:first
        by_cases k1 : kd = 1
        · as_aux_lemma => -- M:A1
            subst k1
            obtain ⟨a1, c1, rfl, -⟩ := H5.out.1.1.r1.shape
            obtain ⟨n1, hn1⟩ : ∃ n, L.length = n := ⟨_, rfl⟩
            have HN1 := Lib.hid hn1
            rw [hn1] at H5
            clear hn1
            have C := Lib.hid (H5.out.1.1.bo.add c HWF.out.2 q (Nat.le_trans (H5.out.2.le c) (by omega)))
            unfold ownV at C
            go_wp2_with (go_at_call 8; refine C.out.mono ?_)
            rintro e V2 hD
            obtain ⟨rfl, m2⟩ := H5.out.1.did hD
            have HZ := Lib.hid m2
            have HP := Lib.hid H5.out.2
            clear hD m2 C H5 p0 p1 p2 p3 p4
            have p0 := HZ.out.look.2.2.1.1
            have p1 := HZ.out.look.2.2.1.2.1
            have p2 := HZ.out.look.2.2.1.2.2.1
            have p3 := HZ.out.look.2.2.1.2.2.2.1
            have p4 := HZ.out.look.2.2.1.2.2.2.2
            by_cases hr : c < 1 ∨ 1023 < c
            · obtain ⟨ea, hp⟩ := HP.out.addArg c q hr
              rw [ea]
              have HE : Hid (Ly13 W1 b ub (addF f c q) h L K (.slice a1 n1 c1) v2 (j + 1) y 1 c q V2) := Lib.hid ⟨HZ.out, hp⟩
              clear ea hp HP HZ
              by_cases hc1 : c < 1
              · clear hr
                go_wp2_with fail
                go_meet
                case rel => exact ⟨_, _, _, _, _, _, _, rfl, HE⟩
              · have hc2 : 1023 < c := by omega
                clear hr
                go_wp2_with fail
                go_meet
                case rel => exact ⟨_, _, _, _, _, _, _, rfl, HE⟩
            · have hc1 : ¬ c < 1 := by omega
              have hc2 : ¬ 1023 < c := by omega
              have hc3 : 1 ≤ c := by omega
              have hc4 : c ≤ 1023 := by omega
              clear hr
              have u0 : ∀ p : KW V2, p.V.cell? ⟨ub, 0, none⟩ = some (.slice a1 n1 c1) := fun p => (HZ.out.old p.hk).look.1.1
              have s0 : ∀ p : KW V2, p.V.cell? ⟨y + 1, 0, none⟩ = some (.int .i64 c) := fun p => (HZ.out.old p.hk).look.2.2.2.1
              have s1 : ∀ p : KW V2, p.V.cell? ⟨y + 1, 1, none⟩ = some (.int .i64 q.vol) := fun p => (HZ.out.old p.hk).look.2.2.2.2.1
              have s2 : ∀ p : KW V2, p.V.cell? ⟨y + 1, 2, none⟩ = some (.int .i64 q.bir) := fun p => (HZ.out.old p.hk).look.2.2.2.2.2.1
              have s3 : ∀ p : KW V2, p.V.cell? ⟨y + 1, 3, none⟩ = some (.int .i64 q.pos) := fun p => (HZ.out.old p.hk).look.2.2.2.2.2.2
              have CF := Lib.hid fun (p : KW V2) => rHas a1 c1 L ⟨c, q⟩ W1.heap.size p.V (by rw [HN1.out]; exact (HZ.out.old p.hk).1.r1)
              rw [HN1.out] at CF
              by_cases hm : (⟨c, q⟩ : On) ∈ L
              · obtain ⟨ea, hp⟩ := HP.out.addDup c q hc3 hc4 hm
                rw [ea]
                rw [decide_eq_true hm] at CF
                have HPU := Lib.hid hp
                unfold onV at CF
                clear ea hp HP hm
                go_wp2_with fail
                refine wp_region_quiet_kept (by kernel_rfl) (by kernel_rfl) ?_
                repeat (go_big_quiet_step ((go_at_call 9; exact Calls.kept_of (CF.out _))))
                refine wpQuiet_nil ?_
                intro V3 hw'
                obtain ⟨⟨V3', hV⟩, hw''⟩ := hw'
                subst hw''
                have HE : Hid (Ly13 W1 b ub (addF f c q) h L K (.slice a1 n1 c1) v2 (j + 1) y 1 c q V3) := Lib.hid ⟨HZ.out.old hV, HPU.out⟩
                clear HZ HPU CF u0 s0 s1 s2 s3 hV p0 p1 p2 p3 p4
                go_wp2_with fail
                go_meet
                case rel => exact ⟨_, _, _, _, _, _, _, rfl, HE⟩
              · obtain ⟨ea, hp⟩ := HP.out.addOk c q hc3 hc4 hm
                rw [ea]
                rw [decide_eq_false hm] at CF
                have HPU := Lib.hid hp
                have HLL := Lib.hid HP.out.2.2.2.2.1
                unfold onV at CF
                clear ea hp HP hm
                go_wp2_with fail
                refine wp_region_quiet_kept (by kernel_rfl) (by kernel_rfl) ?_
                repeat (go_big_quiet_step ((go_at_call 9; exact Calls.kept_of (CF.out _))))
                refine wpQuiet_nil ?_
                intro V3 hw'
                obtain ⟨⟨V3', hV⟩, hw''⟩ := hw'
                subst hw''
                have HZ3 := Lib.hid (HZ.out.old hV)
                clear HZ CF u0 s0 s1 s2 s3 hV p0 p1 p2 p3 p4
                have CA := Lib.hid fun V (hV : KeptIn (· < V3.heap.size) V3 V) => rAdd a1 c1 L ⟨c, q⟩ W1.heap.size V (by rw [HN1.out]; exact (HZ3.out.old hV).1.r1) (by have := HLL.out; omega)
                rw [HN1.out] at CA
                unfold onV at CA
                have HOV := Lib.hid fun V (hV : KeptIn (· < V3.heap.size) V3 V) => (HZ3.out.old hV).look
                have k0 : KeptIn (· < V3.heap.size) V3 V3.drew := (KeptIn.refl _ _).drew
                obtain ⟨⟨u0, -⟩, ⟨u1, -⟩, -, ⟨s0, s1, s2, s3⟩⟩ := HOV.out _ k0
                have HK0 := Lib.hid k0
                clear k0
                go_wp2_with fail
                go_region_with (first | (go_at_call 10; refine (CA.out _ HK0.out).mono ?_; rintro e V4 hR; unfold NewN at hR; obtain ⟨v', rfl, hr4, hk4⟩ := hR; obtain ⟨a', c', rfl, -⟩ := hr4.shape; have f0 := (HOV.out V4 (HK0.out.on hk4)).1.1; have f1 := (HOV.out V4 (HK0.out.on hk4)).2.1.1))
                all_goals
                  have HE : Hid (Ly13 W1 b ub (addF f c q) h (insN L ⟨c, q⟩) K (.slice a' (insN L ⟨c, q⟩).length c') v2 (j + 1) y 1 c q (V4.setCell ⟨ub, 0, none⟩ (.slice a' (insN L ⟨c, q⟩).length c'))) := Lib.hid ⟨HZ3.out.set0 (HK0.out.on hk4) hr4, HPU.out⟩
                  clear HZ3 HPU HOV CA HK0 HLL hr4 hk4 f0 f1 u0 u1 s0 s1 s2 s3
                  go_wp2_with fail
                  go_meet
                  case rel => exact ⟨_, _, _, _, _, _, _, rfl, HE⟩
        · by_cases k2 : kd = 2
          · as_aux_lemma => -- M:A2
              subst k2
              obtain ⟨a1, c1, rfl, -⟩ := H5.out.1.1.r1.shape
              obtain ⟨n1, hn1⟩ : ∃ n, L.length = n := ⟨_, rfl⟩
              have HN1 := Lib.hid hn1
              rw [hn1] at H5
              clear hn1
              have C := Lib.hid (H5.out.1.1.bo.add c HWF.out.2 q (Nat.le_trans (H5.out.2.le c) (by omega)))
              unfold ownV at C
              go_wp2_with (go_at_call 8; refine C.out.mono ?_)
              rintro e V2 hD
              obtain ⟨rfl, m2⟩ := H5.out.1.did hD
              have HZ := Lib.hid m2
              have HP := Lib.hid H5.out.2
              clear hD m2 C H5 p0 p1 p2 p3 p4
              have p0 := HZ.out.look.2.2.1.1
              have p1 := HZ.out.look.2.2.1.2.1
              have p2 := HZ.out.look.2.2.1.2.2.1
              have p3 := HZ.out.look.2.2.1.2.2.2.1
              have p4 := HZ.out.look.2.2.1.2.2.2.2
              by_cases hr : c < 1 ∨ 1023 < c
              · obtain ⟨ea, hp⟩ := HP.out.addArg c q hr
                rw [ea]
                have HE : Hid (Ly13 W1 b ub (addF f c q) h L K (.slice a1 n1 c1) v2 (j + 1) y 2 c q V2) := Lib.hid ⟨HZ.out, hp⟩
                clear ea hp HP HZ
                by_cases hc1 : c < 1
                · clear hr
                  go_wp2_with fail
                  go_meet
                  case rel => exact ⟨_, _, _, _, _, _, _, rfl, HE⟩
                · have hc2 : 1023 < c := by omega
                  clear hr
                  go_wp2_with fail
                  go_meet
                  case rel => exact ⟨_, _, _, _, _, _, _, rfl, HE⟩
              · have hc1 : ¬ c < 1 := by omega
                have hc2 : ¬ 1023 < c := by omega
                have hc3 : 1 ≤ c := by omega
                have hc4 : c ≤ 1023 := by omega
                clear hr
                have u0 : ∀ p : KW V2, p.V.cell? ⟨ub, 0, none⟩ = some (.slice a1 n1 c1) := fun p => (HZ.out.old p.hk).look.1.1
                have s0 : ∀ p : KW V2, p.V.cell? ⟨y + 1, 0, none⟩ = some (.int .i64 c) := fun p => (HZ.out.old p.hk).look.2.2.2.1
                have s1 : ∀ p : KW V2, p.V.cell? ⟨y + 1, 1, none⟩ = some (.int .i64 q.vol) := fun p => (HZ.out.old p.hk).look.2.2.2.2.1
                have s2 : ∀ p : KW V2, p.V.cell? ⟨y + 1, 2, none⟩ = some (.int .i64 q.bir) := fun p => (HZ.out.old p.hk).look.2.2.2.2.2.1
                have s3 : ∀ p : KW V2, p.V.cell? ⟨y + 1, 3, none⟩ = some (.int .i64 q.pos) := fun p => (HZ.out.old p.hk).look.2.2.2.2.2.2
                have CF := Lib.hid fun (p : KW V2) => rHas a1 c1 L ⟨c, q⟩ W1.heap.size p.V (by rw [HN1.out]; exact (HZ.out.old p.hk).1.r1)
                rw [HN1.out] at CF
                by_cases hm : (⟨c, q⟩ : On) ∈ L
                · obtain ⟨ea, hp⟩ := HP.out.addDup c q hc3 hc4 hm
                  rw [ea]
                  rw [decide_eq_true hm] at CF
                  have HPU := Lib.hid hp
                  unfold onV at CF
                  clear ea hp HP hm
                  go_wp2_with fail
                  refine wp_region_quiet_kept (by kernel_rfl) (by kernel_rfl) ?_
                  repeat (go_big_quiet_step ((go_at_call 9; exact Calls.kept_of (CF.out _))))
                  refine wpQuiet_nil ?_
                  intro V3 hw'
                  obtain ⟨⟨V3', hV⟩, hw''⟩ := hw'
                  subst hw''
                  have HE : Hid (Ly13 W1 b ub (addF f c q) h L K (.slice a1 n1 c1) v2 (j + 1) y 2 c q V3) := Lib.hid ⟨HZ.out.old hV, HPU.out⟩
                  clear HZ HPU CF u0 s0 s1 s2 s3 hV p0 p1 p2 p3 p4
                  go_wp2_with fail
                  go_meet
                  case rel => exact ⟨_, _, _, _, _, _, _, rfl, HE⟩
                · obtain ⟨ea, hp⟩ := HP.out.addOk c q hc3 hc4 hm
                  rw [ea]
                  rw [decide_eq_false hm] at CF
                  have HPU := Lib.hid hp
                  have HLL := Lib.hid HP.out.2.2.2.2.1
                  unfold onV at CF
                  clear ea hp HP hm
                  go_wp2_with fail
                  refine wp_region_quiet_kept (by kernel_rfl) (by kernel_rfl) ?_
                  repeat (go_big_quiet_step ((go_at_call 9; exact Calls.kept_of (CF.out _))))
                  refine wpQuiet_nil ?_
                  intro V3 hw'
                  obtain ⟨⟨V3', hV⟩, hw''⟩ := hw'
                  subst hw''
                  have HZ3 := Lib.hid (HZ.out.old hV)
                  clear HZ CF u0 s0 s1 s2 s3 hV p0 p1 p2 p3 p4
                  have CA := Lib.hid fun V (hV : KeptIn (· < V3.heap.size) V3 V) => rAdd a1 c1 L ⟨c, q⟩ W1.heap.size V (by rw [HN1.out]; exact (HZ3.out.old hV).1.r1) (by have := HLL.out; omega)
                  rw [HN1.out] at CA
                  unfold onV at CA
                  have HOV := Lib.hid fun V (hV : KeptIn (· < V3.heap.size) V3 V) => (HZ3.out.old hV).look
                  have k0 : KeptIn (· < V3.heap.size) V3 V3.drew := (KeptIn.refl _ _).drew
                  obtain ⟨⟨u0, -⟩, ⟨u1, -⟩, -, ⟨s0, s1, s2, s3⟩⟩ := HOV.out _ k0
                  have HK0 := Lib.hid k0
                  clear k0
                  go_wp2_with fail
                  go_region_with (first | (go_at_call 10; refine (CA.out _ HK0.out).mono ?_; rintro e V4 hR; unfold NewN at hR; obtain ⟨v', rfl, hr4, hk4⟩ := hR; obtain ⟨a', c', rfl, -⟩ := hr4.shape; have f0 := (HOV.out V4 (HK0.out.on hk4)).1.1; have f1 := (HOV.out V4 (HK0.out.on hk4)).2.1.1))
                  all_goals
                    have HE : Hid (Ly13 W1 b ub (addF f c q) h (insN L ⟨c, q⟩) K (.slice a' (insN L ⟨c, q⟩).length c') v2 (j + 1) y 2 c q (V4.setCell ⟨ub, 0, none⟩ (.slice a' (insN L ⟨c, q⟩).length c'))) := Lib.hid ⟨HZ3.out.set0 (HK0.out.on hk4) hr4, HPU.out⟩
                    clear HZ3 HPU HOV CA HK0 HLL hr4 hk4 f0 f1 u0 u1 s0 s1 s2 s3
                    go_wp2_with fail
                    go_meet
                    case rel => exact ⟨_, _, _, _, _, _, _, rfl, HE⟩
          · by_cases k3 : kd = 3
            · as_aux_lemma => -- M:A3
                subst k3
                obtain ⟨a1, c1, rfl, -⟩ := H5.out.1.1.r1.shape
                obtain ⟨n1, hn1⟩ : ∃ n, L.length = n := ⟨_, rfl⟩
                have HN1 := Lib.hid hn1
                rw [hn1] at H5
                clear hn1
                have C := Lib.hid (H5.out.1.1.bo.remove c HWF.out.2 q (Nat.le_trans (H5.out.2.le c) (by omega)))
                unfold ownV at C
                have HP := Lib.hid H5.out.2
                by_cases hm : (⟨c, q⟩ : On) ∈ L
                · obtain ⟨ea, hp⟩ := HP.out.remOk c q hm
                  rw [ea] at C
                  dsimp only at C
                  have HPU := Lib.hid hp
                  have HLL := Lib.hid HP.out.2.2.2.2.1
                  obtain ⟨m, hm9⟩ : ∃ m, (ofN (remN L ⟨c, q⟩) c).length = m := ⟨_, rfl⟩
                  rw [hm9] at C
                  have HM9 := Lib.hid hm9
                  obtain ⟨t, ht⟩ : ∃ t, decide (m = 0) = t := ⟨_, rfl⟩
                  rw [ht] at C
                  have HT := Lib.hid ht
                  clear ea hp HP hm9 ht
                  go_wp2_with (go_at_call 11; refine C.out.mono ?_)
                  rintro e V2 hD
                  obtain ⟨rfl, m2⟩ := H5.out.1.did hD
                  have HZ := Lib.hid m2
                  clear hD m2 C H5 p0 p1 p2 p3 p4
                  have u0 : ∀ p : KW V2, p.V.cell? ⟨ub, 0, none⟩ = some (.slice a1 n1 c1) := fun p => (HZ.out.old p.hk).look.1.1
                  have s0 : ∀ p : KW V2, p.V.cell? ⟨y + 1, 0, none⟩ = some (.int .i64 c) := fun p => (HZ.out.old p.hk).look.2.2.2.1
                  have s1 : ∀ p : KW V2, p.V.cell? ⟨y + 1, 1, none⟩ = some (.int .i64 q.vol) := fun p => (HZ.out.old p.hk).look.2.2.2.2.1
                  have s2 : ∀ p : KW V2, p.V.cell? ⟨y + 1, 2, none⟩ = some (.int .i64 q.bir) := fun p => (HZ.out.old p.hk).look.2.2.2.2.2.1
                  have s3 : ∀ p : KW V2, p.V.cell? ⟨y + 1, 3, none⟩ = some (.int .i64 q.pos) := fun p => (HZ.out.old p.hk).look.2.2.2.2.2.2
                  have CF := Lib.hid fun (p : KW V2) => rHas a1 c1 L ⟨c, q⟩ W1.heap.size p.V (by rw [HN1.out]; exact (HZ.out.old p.hk).1.r1)
                  rw [HN1.out] at CF
                  rw [decide_eq_true hm] at CF
                  unfold onV at CF
                  clear hm
                  go_wp2_with fail
                  refine wp_region_quiet_kept (by kernel_rfl) (by kernel_rfl) ?_
                  repeat (go_big_quiet_step ((go_at_call 9; exact Calls.kept_of (CF.out _))))
                  refine wpQuiet_nil ?_
                  intro V3 hw'
                  obtain ⟨⟨V3', hV⟩, hw''⟩ := hw'
                  subst hw''
                  have HZ3 := Lib.hid (HZ.out.old hV)
                  clear HZ CF u0 s0 s1 s2 s3 hV
                  have CA := Lib.hid fun V (hV : KeptIn (· < V3.heap.size) V3 V) => rRem a1 c1 L ⟨c, q⟩ W1.heap.size V (by rw [HN1.out]; exact (HZ3.out.old hV).1.r1) (by have := HLL.out; omega)
                  rw [HN1.out] at CA
                  unfold onV at CA
                  have HOV := Lib.hid fun V (hV : KeptIn (· < V3.heap.size) V3 V) => (HZ3.out.old hV).look
                  have k0 : KeptIn (· < V3.heap.size) V3 V3.drew := (KeptIn.refl _ _).drew
                  obtain ⟨⟨u0, -⟩, ⟨u1, -⟩, -, ⟨s0, s1, s2, s3⟩⟩ := HOV.out _ k0
                  have HK0 := Lib.hid k0
                  obtain ⟨n2, hn2⟩ : ∃ n, (remN L ⟨c, q⟩).length = n := ⟨_, rfl⟩
                  have HN2 := Lib.hid hn2
                  clear k0 hn2
                  go_wp2_with fail
                  go_region_with (first | (go_at_call 12; refine (CA.out _ HK0.out).mono ?_; rintro e V4 hR; unfold NewN at hR; obtain ⟨v', rfl, hr4, hk4⟩ := hR; obtain ⟨a', c', rfl, -⟩ := hr4.shape; rw [HN2.out] at hr4 ⊢; have f0 := (HOV.out V4 (HK0.out.on hk4)).1.1; have f1 := (HOV.out V4 (HK0.out.on hk4)).2.1.1))
                  all_goals
                    have HZ4 := Lib.hid (HZ3.out.set0 (HK0.out.on hk4) hr4)
                    obtain ⟨V5, hV5⟩ : ∃ V5, V4.setCell ⟨ub, 0, none⟩ (.slice a' n2 c') = V5 := ⟨_, rfl⟩
                    rw [hV5] at HZ4 ⊢
                    have HZ5 : Hid (Lz13 W1 b ub (remF f c q) h (remN L ⟨c, q⟩) K (.slice a' n2 c') v2 y 3 c q V5) := HZ4
                    clear HZ4 HZ3 HOV CA HK0 hr4 hk4 f0 f1 u0 u1 s0 s1 s2 s3 hV5
                    have CO := Lib.hid fun V (hV : KeptIn (· < V5.heap.size) V5 V) => Calls.mono (rOf a' c' (remN L ⟨c, q⟩) c W1.heap.size V (by rw [HN2.out]; exact (HZ5.out.old hV).1.r1) (by have h1 := remN_length L ⟨c, q⟩; have := HLL.out; omega)) (R' := fun e w' => ∃ a9 c9, e = .returned (.slice a9 m c9) ∧ KeptIn (· < V.heap.size) V w') fun e w' hh => by
                      obtain ⟨v9, rfl, hr9, hk9⟩ := hh
                      obtain ⟨a9, c9, rfl, -⟩ := hr9.shape
                      rw [HM9.out]
                      exact ⟨a9, c9, rfl, hk9⟩
                    rw [HN2.out] at CO
                    have HS : Hid (∀ V, KeptIn (· < V5.heap.size) V5 V → V.cell? ⟨ub, 0, none⟩ = some (.slice a' n2 c') ∧ V.cell? ⟨y, 1, none⟩ = some (.int .i64 c) ∧ KeptIn (· < V5.heap.size) V5 V) := Lib.hid fun V hV => ⟨(HZ5.out.old hV).look.1.1, (HZ5.out.old hV).look.2.2.1.2.1, hV⟩
                    have HK5 : Hid (KeptIn (· < V5.heap.size) V5 V5.drew) := Lib.hid (KeptIn.refl _ _).drew
                    have HZ := HZ5
                    have p0 := HZ.out.look.2.2.1.1
                    have p1 := HZ.out.look.2.2.1.2.1
                    have p2 := HZ.out.look.2.2.1.2.2.1
                    have p3 := HZ.out.look.2.2.1.2.2.2.1
                    have p4 := HZ.out.look.2.2.1.2.2.2.2
                    clear HZ
                    by_cases hm0 : m = 0
                    · subst hm0
                      obtain rfl : t = true := by rw [← HT.out]; rfl
                      go_wp2_with fail
                      go_region_held3 (fun V => V.cell? ⟨ub, 0, none⟩ = some (.slice a' n2 c') ∧ V.cell? ⟨y, 1, none⟩ = some (.int .i64 c) ∧ KeptIn (· < V5.heap.size) V5 V)
                        (first | exact HS.out _ HK5.out | exact HS.out _ (hkk.on hk9))
                        (first | (go_at_call 13; have hkk := (‹_ ∧ _ ∧ KeptIn (· < V5.heap.size) V5 _›).2.2; refine (CO.out _ hkk).mono ?_; rintro e V6 ⟨a9, c9, rfl, hk9⟩))
                      all_goals
                        have HE : Hid (Ly13 W1 b ub (remF f c q) h (remN L ⟨c, q⟩) K (.slice a' n2 c') v2 (j + 1) y 3 c q V6) := Lib.hid ⟨HZ5.out.old (hkk.on hk9), HPU.out⟩
                        clear HZ5 HPU HS CO HK5 hkk hk9 p0 p1 p2 p3 p4
                        go_wp2_with fail
                        go_meet
                        case rel => exact ⟨_, _, _, _, _, _, _, rfl, HE⟩
                    · obtain rfl : t = false := by rw [← HT.out]; exact decide_eq_false hm0
                      have z0 : ((m : Int) == 0) = false := intEq m 0 hm0
                      clear hm0
                      go_wp2_with fail
                      go_region_held3 (fun V => V.cell? ⟨ub, 0, none⟩ = some (.slice a' n2 c') ∧ V.cell? ⟨y, 1, none⟩ = some (.int .i64 c) ∧ KeptIn (· < V5.heap.size) V5 V)
                        (first | exact HS.out _ HK5.out | exact HS.out _ (hkk.on hk9))
                        (first | (go_at_call 13; have hkk := (‹_ ∧ _ ∧ KeptIn (· < V5.heap.size) V5 _›).2.2; refine (CO.out _ hkk).mono ?_; rintro e V6 ⟨a9, c9, rfl, hk9⟩))
                      all_goals
                        have HE : Hid (Ly13 W1 b ub (remF f c q) h (remN L ⟨c, q⟩) K (.slice a' n2 c') v2 (j + 1) y 3 c q V6) := Lib.hid ⟨HZ5.out.old (hkk.on hk9), HPU.out⟩
                        clear HZ5 HPU HS CO HK5 hkk hk9 p0 p1 p2 p3 p4
                        go_wp2_with fail
                        go_meet
                        case rel => exact ⟨_, _, _, _, _, _, _, rfl, HE⟩
                · obtain ⟨ea, hp⟩ := HP.out.remMiss c q hm
                  rw [ea] at C
                  dsimp only at C
                  have HPU := Lib.hid hp
                  clear ea hp HP
                  go_wp2_with (go_at_call 11; refine C.out.mono ?_)
                  rintro e V2 hD
                  obtain ⟨rfl, m2⟩ := H5.out.1.did hD
                  have HZ := Lib.hid m2
                  clear hD m2 C H5 p0 p1 p2 p3 p4
                  have u0 : ∀ p : KW V2, p.V.cell? ⟨ub, 0, none⟩ = some (.slice a1 n1 c1) := fun p => (HZ.out.old p.hk).look.1.1
                  have s0 : ∀ p : KW V2, p.V.cell? ⟨y + 1, 0, none⟩ = some (.int .i64 c) := fun p => (HZ.out.old p.hk).look.2.2.2.1
                  have s1 : ∀ p : KW V2, p.V.cell? ⟨y + 1, 1, none⟩ = some (.int .i64 q.vol) := fun p => (HZ.out.old p.hk).look.2.2.2.2.1
                  have s2 : ∀ p : KW V2, p.V.cell? ⟨y + 1, 2, none⟩ = some (.int .i64 q.bir) := fun p => (HZ.out.old p.hk).look.2.2.2.2.2.1
                  have s3 : ∀ p : KW V2, p.V.cell? ⟨y + 1, 3, none⟩ = some (.int .i64 q.pos) := fun p => (HZ.out.old p.hk).look.2.2.2.2.2.2
                  have CF := Lib.hid fun (p : KW V2) => rHas a1 c1 L ⟨c, q⟩ W1.heap.size p.V (by rw [HN1.out]; exact (HZ.out.old p.hk).1.r1)
                  rw [HN1.out] at CF
                  rw [decide_eq_false hm] at CF
                  unfold onV at CF
                  clear hm
                  go_wp2_with fail
                  refine wp_region_quiet_kept (by kernel_rfl) (by kernel_rfl) ?_
                  repeat (go_big_quiet_step ((go_at_call 9; exact Calls.kept_of (CF.out _))))
                  refine wpQuiet_nil ?_
                  intro V3 hw'
                  obtain ⟨⟨V3', hV⟩, hw''⟩ := hw'
                  subst hw''
                  have HE : Hid (Ly13 W1 b ub (remF f c q) h L K (.slice a1 n1 c1) v2 (j + 1) y 3 c q V3) := Lib.hid ⟨HZ.out.old hV, HPU.out⟩
                  clear HZ HPU CF u0 s0 s1 s2 s3 hV
                  go_wp2_with fail
                  go_meet
                  case rel => exact ⟨_, _, _, _, _, _, _, rfl, HE⟩
            · as_aux_lemma => -- M:A4
                have b1 : (kd == 1) = false := by rw [beq_eq_false_iff_ne]; exact k1
                have b2 : (kd == 2) = false := by rw [beq_eq_false_iff_ne]; exact k2
                have b3 : (kd == 3) = false := by rw [beq_eq_false_iff_ne]; exact k3
                obtain ⟨a1, c1, rfl, -⟩ := H5.out.1.1.r1.shape
                obtain ⟨n1, hn1⟩ : ∃ n, L.length = n := ⟨_, rfl⟩
                have HN1 := Lib.hid hn1
                rw [hn1] at H5
                clear hn1
                have C := Lib.hid H5.out.1.1.bo.commit
                have HPU := Lib.hid H5.out.2.com
                have HLL := Lib.hid H5.out.2.2.2.2.2.1
                go_wp2_with (go_at_call 14; refine C.out.mono ?_)
                rintro e V2 hD
                obtain ⟨rfl, m2⟩ := H5.out.1.did hD
                have HZ := Lib.hid m2
                clear hD m2 C H5 p0 p1 p2 p3 p4
                obtain ⟨ii, hii, hz0, hz1, hz2⟩ := info_parts infoOn
                have ka : KeptIn (· < V2.heap.size) V2 (V2.alloc (.cells #[] 35)) := (KeptIn.refl _ V2).alloc (fun _ h => h) _
                have HKA := Lib.hid ka
                have hza := (EnJ.zero V2).1
                have HRW : Hid ((V2.alloc (.cells #[] 35)).ownsRow V2.heap.size 35 4 (.slice (some ⟨V2.heap.size, 0, none⟩) 0 0) 0 []) := Lib.hid hza
                obtain ⟨⟨u0, u2⟩, ⟨-, u3⟩, -, -⟩ := (HZ.out.old ka).look
                clear hza
                rcases HZ.out.1.r1.form with ⟨ev, el⟩ | ⟨g, cap, cur, ev, hg, hgc, _, _, _, _⟩
                · cases ev
                  have HE : Hid (Ly13 W1 b ub f f L L (.slice none 0 0) (.slice (some ⟨V2.heap.size, 0, none⟩) 0 0) (j + 1) y kd c q ((V2.alloc (.cells #[] 35)).setCell ⟨ub, 1, none⟩ (.slice (some ⟨V2.heap.size, 0, none⟩) 0 0))) := Lib.hid ⟨HZ.out.set1 HKA.out (by rw [el]; exact HRW.out), HPU.out⟩
                  clear ka HZ HPU HLL el
                  go_wp2_with (first | (at_builtin; refine wpList_append_own_none rfl _ _ 27 rfl V2.heap.size 35 ii 4 Try.underlying27 hii _ 0 [] rfl HRW.out rfl ?_))
                  go_meet
                  case rel => exact ⟨_, _, _, _, _, _, _, rfl, HE⟩
                · simp only [Value.slice.injEq] at ev
                  obtain ⟨rfl, -, rfl⟩ := ev
                  have hnw : ∀ j u, (cellsN L)[j]? = some u → (V2.alloc (.cells #[] 35)).cell? ((⟨g, 0, none⟩ : Addr).add j) = some u := rowNewsN (HZ.out.old ka).1.r1
                  have hln : (cellsN L).length = n1 * 4 := by rw [cellsN_length, HN1.out]
                  have hn80 : n1 ≤ 1000 := by have := HLL.out; rw [HN1.out] at this; omega
                  obtain ⟨hb1, hb3⟩ : 0 + n1 ≤ maxLen ∧ (0 + n1) * 32 ≤ 140737488355328 := by unfold maxLen; omega
                  have HNW := Lib.hid (And.intro hnw (And.intro hln (And.intro (cellsN_one L) (And.intro hb1 (And.intro hb3 ka.size)))))
                  clear hnw hln hb1 hb3 hn80 ka hg hgc
                  go_wp2_with (first | (at_builtin; refine wpList_append_own _ rfl _ _ 27 rfl V2.heap.size 35 ii _ 4 32 Try.underlying27 hii hz0 hz1 hz2 rfl (by decide) _ _ _ rfl HRW.out ⟨g, 0, none⟩ n1 c1 (cellsN L) rfl HNW.out.2.1 HNW.out.1 HNW.out.2.2.1 HNW.out.2.2.2.1 HNW.out.2.2.2.2.1 HNW.out.2.2.2.2.2 ?_))
                  intro v' w8 hown hgrow _
                  have hk8 : KeptIn (· < V2.heap.size) V2 w8 := HKA.out.grown (fun k hk => hk) hgrow (fun g e => by
                    obtain rfl : V2.heap.size = g := by simpa [Value.ownBlock] using e
                    exact Nat.lt_irrefl _)
                  have hr8 : RowN w8 V2.heap.size v' L := by
                    unfold RowN
                    rw [HN1.out]
                    simpa using hown
                  obtain ⟨a', c', rfl, -⟩ := hr8.shape
                  rw [HN1.out] at hr8 ⊢
                  have HE : Hid (Ly13 W1 b ub f f L L (.slice (some ⟨g, 0, none⟩) n1 c1) (.slice a' n1 c') (j + 1) y kd c q (w8.setCell ⟨ub, 1, none⟩ (.slice a' n1 c'))) := Lib.hid ⟨HZ.out.set1 hk8 hr8, HPU.out⟩
                  have f0 := (HZ.out.old hk8).look.1.2
                  have f1 := (HZ.out.old hk8).look.2.1.2
                  clear hown hgrow hk8 hr8 HZ HPU HLL HNW HKA HRW u0 u2 u3
                  go_wp2_with fail
                  go_meet
                  case rel => exact ⟨_, _, _, _, _, _, _, rfl, HE⟩
      case rest => -- M:rest
        as_aux_lemma =>
          obtain ⟨V', f', h', L', K', v1', v2', rfl, HJ2⟩ := hcut
          clear H5 p0 p1 p2 p3 p4
          have HP := Lib.hid HJ2.out.2
          obtain ⟨a1, c1, rfl, -⟩ := HJ2.out.1.1.r1.shape
          obtain ⟨a2, c2, rfl, -⟩ := HJ2.out.1.1.r2.shape
          obtain ⟨n1, hn1⟩ : ∃ n, L'.length = n := ⟨_, rfl⟩
          obtain ⟨n2, hn2⟩ : ∃ n, K'.length = n := ⟨_, rfl⟩
          have HZ := Lib.hid HJ2.out.1
          rw [hn1, hn2] at HZ
          have HN := Lib.hid (And.intro hn1 hn2)
          obtain ⟨F, hF⟩ : ∃ F, ofN L' c = F := ⟨_, rfl⟩
          obtain ⟨n, hn⟩ : ∃ n, F.length = n := ⟨_, rfl⟩
          obtain ⟨m, hm⟩ : ∃ m, (ofN K' c).length = m := ⟨_, rfl⟩
          have HF := Lib.hid (And.intro hF (And.intro hn hm))
          have CL := Lib.hid (HZ.out.1.bo.list c HWF.out.2 (Nat.le_trans (HP.out.le c) (by omega)))
          rw [HP.out.1 c, hF] at CL
          have hn80 : n ≤ 81 := by
            have h1 := HP.out.le c
            rw [HP.out.1 c, hF, hn] at h1
            omega
          clear hn1 hn2 hF hn hm HJ2
          have p0 := HZ.out.look.2.2.1.1
          have p1 := HZ.out.look.2.2.1.2.1
          have p2 := HZ.out.look.2.2.1.2.2.1
          have p3 := HZ.out.look.2.2.1.2.2.2.1
          have p4 := HZ.out.look.2.2.1.2.2.2.2
          go_wp2_with (go_at_call 15; refine CL.out.mono ?_)
          rintro e V2 hR
          unfold CloneO at hR
          obtain ⟨v8, rfl, hr8, hk8⟩ := hR
          obtain ⟨a8, c8, rfl, -, -⟩ := hr8.shape
          rw [HF.out.2.1] at hr8 ⊢
          have HZ2 := Lib.hid (HZ.out.old hk8)
          obtain ⟨B8, hB8⟩ : ∃ B, V'.heap.size = B := ⟨_, rfl⟩
          rw [hB8] at hr8
          have HR8 := Lib.hid hr8
          clear hr8 hk8 HZ CL p0 p1 p2 p3 p4 hB8
          have CO := Lib.hid fun V (hV : KeptIn (· < V2.heap.size) V2 V) => Calls.mono (rOf a1 c1 L' c W1.heap.size V (by rw [HN.out.1]; exact (HZ2.out.old hV).1.r1) (Nat.le_trans HP.out.2.2.2.2.1 (by omega))) (R' := fun e w' => ∃ a9 c9, e = .returned (.slice a9 n c9) ∧ RowO w' V2.heap.size (.slice a9 n c9) F ∧ KeptIn (· < V.heap.size) V w') fun e w' hh => by
            obtain ⟨v9, rfl, hr9, hk9⟩ := hh
            obtain ⟨a9, c9, rfl, -⟩ := hr9.shape
            rw [HF.out.1, HF.out.2.1] at hr9
            rw [HF.out.1, HF.out.2.1]
            exact ⟨a9, c9, rfl, hr9.mono hV.size, hk9⟩
          rw [HN.out.1] at CO
          have HS : Hid (∀ V, KeptIn (· < V2.heap.size) V2 V → V.cell? ⟨ub, 0, none⟩ = some (.slice a1 n1 c1) ∧ V.cell? ⟨y, 1, none⟩ = some (.int .i64 c) ∧ KeptIn (· < V2.heap.size) V2 V) := Lib.hid fun V hV => ⟨(HZ2.out.old hV).look.1.1, (HZ2.out.old hV).look.2.2.1.2.1, hV⟩
          have HK2 : Hid (KeptIn (· < V2.heap.size) V2 V2.drew) := Lib.hid (KeptIn.refl _ _).drew
          go_wp2_with fail
          go_region_held3 (fun V => V.cell? ⟨ub, 0, none⟩ = some (.slice a1 n1 c1) ∧ V.cell? ⟨y, 1, none⟩ = some (.int .i64 c) ∧ KeptIn (· < V2.heap.size) V2 V)
            (first | exact HS.out _ HK2.out | exact HS.out _ (hkk.on hk9))
            (first | (go_at_call 13; have hkk := (‹_ ∧ _ ∧ KeptIn (· < V2.heap.size) V2 _›).2.2; refine (CO.out _ hkk).mono ?_; rintro e V3 ⟨a9, c9, rfl, hr9, hk9⟩))
          have HZ3 := Lib.hid (HZ2.out.old (hkk.on hk9))
          have HRR := Lib.hid (And.intro (HR8.out.old (hkk.on hk9)) hr9)
          clear HZ2 HR8 CO HS HK2 hkk hk9 hr9
          obtain ⟨t, ht⟩ : ∃ t, aloneB (ofN L') (ofN K') c q = t := ⟨_, rfl⟩
          obtain ⟨r, hr⟩ : ∃ r, freeN (ofN L') (ofN K') = r := ⟨_, rfl⟩
          obtain ⟨s, hs⟩ : ∃ s, decide (0 < m) = s := ⟨_, rfl⟩
          have zs : decide ((0 : Int) < (m : Int)) = s := by rw [← hs]; exact decide_eq_decide.2 (by omega)
          have zs2 : decide (0 < m) = s := hs
          have hfh := HP.out.fn
          have hlen : L'.length ≤ 1000 ∧ K'.length ≤ 1000 := ⟨Nat.le_trans HP.out.2.2.2.2.1 (by omega), Nat.le_trans HP.out.2.2.2.2.2 (by omega)⟩
          have C16 := Lib.hid fun V (hV : KeptIn (· < V3.heap.size) V3 V) => (HZ3.out.old hV).1.bo.count c HWF.out.2
          rw [HP.out.1 c, HF.out.1, HF.out.2.1] at C16
          have C17 := Lib.hid fun V (hV : KeptIn (· < V3.heap.size) V3 V) => (HZ3.out.old hV).1.bo.alone c HWF.out.2 q
          rw [hfh.1, hfh.2, ht] at C17
          have C18 := Lib.hid fun V (hV : KeptIn (· < V3.heap.size) V3 V) => rAlone (HZ3.out.old hV).1.rb c q hlen.1 hlen.2
          rw [ht] at C18
          have C19 := Lib.hid fun V (hV : KeptIn (· < V3.heap.size) V3 V) => (HZ3.out.old hV).1.bo.was c HWF.out.2
          rw [HP.out.2.1 c, HF.out.2.2, hs] at C19
          have C20 := Lib.hid fun V (hV : KeptIn (· < V3.heap.size) V3 V) => (HZ3.out.old hV).1.bo.free
          rw [hfh.1, hfh.2, hr] at C20
          have C21 := Lib.hid fun V (hV : KeptIn (· < V3.heap.size) V3 V) => rFree (HZ3.out.old hV).1.rb hlen.1 hlen.2
          rw [hr] at C21
          have C13 := Lib.hid fun V (hV : KeptIn (· < V3.heap.size) V3 V) => Calls.mono (rOf a2 c2 K' c W1.heap.size V (by rw [HN.out.2]; exact (HZ3.out.old hV).1.r2) hlen.2) (R' := fun e w' => ∃ a9 c9, e = .returned (.slice a9 m c9) ∧ KeptIn (· < V.heap.size) V w') fun e w' hh => by
            obtain ⟨v9, rfl, hr9, hk9⟩ := hh
            obtain ⟨a9, c9, rfl, -⟩ := hr9.shape
            rw [HF.out.2.2]
            exact ⟨a9, c9, rfl, hk9⟩
          rw [HN.out.2] at C13
          have HS : Hid (∀ V, KeptIn (· < V3.heap.size) V3 V → V.cell? ⟨ub, 1, none⟩ = some (.slice a2 n2 c2) ∧ V.cell? ⟨y, 1, none⟩ = some (.int .i64 c) ∧ V.cell? ⟨y, 2, none⟩ = some (.int .i64 q.vol) ∧ V.cell? ⟨y, 3, none⟩ = some (.int .i64 q.bir) ∧ V.cell? ⟨y, 4, none⟩ = some (.int .i64 q.pos) ∧ KeptIn (· < V3.heap.size) V3 V) := Lib.hid fun V hV =>
            ⟨(HZ3.out.old hV).look.1.2, (HZ3.out.old hV).look.2.2.1.2.1, (HZ3.out.old hV).look.2.2.1.2.2.1, (HZ3.out.old hV).look.2.2.1.2.2.2.1, (HZ3.out.old hV).look.2.2.1.2.2.2.2, hV⟩
          have HK3 : Hid (KeptIn (· < V3.heap.size) V3 V3.drew) := Lib.hid (KeptIn.refl _ _).drew
          unfold ownV at C17 C18
          clear ht hr hs hfh hlen
          go_wp2_with fail
          go_region_held3 (fun V => V.cell? ⟨ub, 1, none⟩ = some (.slice a2 n2 c2) ∧ V.cell? ⟨y, 1, none⟩ = some (.int .i64 c) ∧ V.cell? ⟨y, 2, none⟩ = some (.int .i64 q.vol) ∧ V.cell? ⟨y, 3, none⟩ = some (.int .i64 q.bir) ∧ V.cell? ⟨y, 4, none⟩ = some (.int .i64 q.pos) ∧ KeptIn (· < V3.heap.size) V3 V)
            (first | exact HS.out _ HK3.out | exact HS.out _ (hkk.on hk7) | exact HS.out _ hkk)
            (first
              | (go_at_call 16; have hkk := (‹_ ∧ _ ∧ _ ∧ _ ∧ _ ∧ KeptIn (· < V3.heap.size) V3 _›).2.2.2.2.2; refine (C16.out _ hkk).mono ?_; rintro e _ ⟨rfl, rfl⟩)
              | (go_at_call 17; have hkk := (‹_ ∧ _ ∧ _ ∧ _ ∧ _ ∧ KeptIn (· < V3.heap.size) V3 _›).2.2.2.2.2; refine (C17.out _ hkk).mono ?_; rintro e V7 ⟨rfl, hk7⟩)
              | (go_at_call 18; have hkk := (‹_ ∧ _ ∧ _ ∧ _ ∧ _ ∧ KeptIn (· < V3.heap.size) V3 _›).2.2.2.2.2; refine (C18.out _ hkk).mono ?_; rintro e V7 ⟨rfl, hk7⟩)
              | (go_at_call 19; have hkk := (‹_ ∧ _ ∧ _ ∧ _ ∧ _ ∧ KeptIn (· < V3.heap.size) V3 _›).2.2.2.2.2; refine (C19.out _ hkk).mono ?_; rintro e _ ⟨rfl, rfl⟩)
              | (go_at_call 13; have hkk := (‹_ ∧ _ ∧ _ ∧ _ ∧ _ ∧ KeptIn (· < V3.heap.size) V3 _›).2.2.2.2.2; refine (C13.out _ hkk).mono ?_; rintro e V7 ⟨a7, c7, rfl, hk7⟩)
              | (go_at_call 20; have hkk := (‹_ ∧ _ ∧ _ ∧ _ ∧ _ ∧ KeptIn (· < V3.heap.size) V3 _›).2.2.2.2.2; refine (C20.out _ hkk).mono ?_; rintro e _ ⟨rfl, rfl⟩)
              | (go_at_call 21; have hkk := (‹_ ∧ _ ∧ _ ∧ _ ∧ _ ∧ KeptIn (· < V3.heap.size) V3 _›).2.2.2.2.2; refine (C21.out _ hkk).mono ?_; rintro e V7 ⟨rfl, hk7⟩))
          all_goals
            have hq := (‹_ ∧ _ ∧ _ ∧ _ ∧ _ ∧ KeptIn (· < V3.heap.size) V3 _›).2.2.2.2.2
            have HU0 := Lib.hid (And.intro (HZ3.out.old hq) (And.intro (HRR.out.1.old hq) (HRR.out.2.old hq)))
            obtain ⟨B9, hB9⟩ : ∃ B, V2.heap.size = B := ⟨_, rfl⟩
            rw [hB9] at HU0
            clear hq hB9 HZ3 HRR C16 C17 C18 C19 C20 C21 C13 HS HK3 zs zs2
            go_wp2_with fail
            go_loopw [14] (fun i wr => ∃ (s : Nat) (U : World), U = wr ∧ s ≤ n ∧ i = .int .i64 (s : Int) ∧ Hid (Lz13 W1 b ub f' h' L' K' (.slice a1 n1 c1) (.slice a2 n2 c2) y kd c q U ∧ RowO U B8 (.slice a8 n c8) F ∧ RowO U B9 (.slice a9 n c9) F)) (fun i _ => n - (intOf i).toNat)
            case atStart => exact ⟨0, _, rfl, Nat.zero_le _, rfl, HU0⟩
            case round =>
              obtain ⟨s, U, rfl, hsn, rfl, HU⟩ := hrel
              clear HU0
              by_cases hsl : s < n
              · have i0 : (0 : Int) ≤ (s : Int) := by omega
                have i1 : (s : Int) < (n : Int) := by omega
                obtain ⟨o, ho⟩ : ∃ o, F[s]? = some o := ⟨_, List.getElem?_eq_getElem (by rw [HF.out.2.1]; exact hsl)⟩
                obtain ⟨g8, rfl, -, x0, x1, x2⟩ := HU.out.2.1.at ho
                obtain ⟨g9, rfl, -, z0, z1, z2⟩ := HU.out.2.2.at ho
                have E := fun V => neqOw o o V
                rw [decide_eq_true (show o = o from rfl)] at E
                unfold ownV at E
                have HU2 := Lib.hid (And.intro (HU.out.1.old (KeptIn.refl _ U).drew) (And.intro (HU.out.2.1.old (KeptIn.refl _ U).drew) (HU.out.2.2.old (KeptIn.refl _ U).drew)))
                clear ho HU
                go_wp2_with fail
                go_region
                go_wp2_with fail
                go_roundw
                case rel => exact ⟨s + 1, _, rfl, by omega, by go_num, HU2⟩
                case measure => simp [intOf]; omega
              · obtain rfl : s = n := by omega
                have i1 : ¬ (s : Int) < (s : Int) := by omega
                have HE : Hid (Lx13 W1 b ub f' h' L' K' (.slice a1 n1 c1) (.slice a2 n2 c2) (j + 1) U) := Lib.hid ⟨HU.out.1.1.weak _ fun k h => h.elim, HP.out⟩
                clear HU
                go_wp2_with fail
                go_roundw
                case rel => exact ⟨j + 1, _, _, _, _, _, _, _, rfl, by omega, by omega, by go_num, HE⟩
                case measure => simp [intOf]; omega
    · -- M:end
      by_cases hl2 : j < len
      · have d1 : (j : Int) < (len : Int) := by omega
        have d2 : ¬ (j : Int) < 80 := by omega
        clear hlt hl2
        as_aux_lemma => -- M:E1
          obtain ⟨a1, c1, rfl, -⟩ := HJ.out.1.r1.shape
          obtain ⟨n1, hn1⟩ : ∃ n, L.length = n := ⟨_, rfl⟩
          have HN := Lib.hid hn1
          have HP := Lib.hid HJ.out.2
          have HM0 := Lib.hid HJ.out.1
          rw [hn1] at HM0
          have C := Lib.hid HJ.out.1.bo.chunks
          clear hn1 HJ
          go_wp2_with (go_at_call 22; refine C.out.mono ?_)
          rintro e Y hC
          obtain ⟨v, rfl, hr, hk⟩ := hC
          obtain ⟨ks, hks⟩ : ∃ ks, chN L = ks := ⟨_, rfl⟩
          obtain ⟨n, hn⟩ : ∃ n, ks.length = n := ⟨_, rfl⟩
          rw [keysO_chN HP.out.1, hks, hn] at hr
          obtain ⟨a9, c9, rfl⟩ := lenRow hr
          obtain ⟨B9, hB9⟩ : ∃ B, V.heap.size = B := ⟨_, rfl⟩
          rw [hB9] at hr
          have HKS := Lib.hid (And.intro hks hn)
          have nb : n ≤ 1024 := by rw [← hn, ← hks]; exact upTo_length _ _
          have n1b : n1 ≤ 80 := by rw [← HN.out]; exact Nat.le_trans HP.out.2.2.2.2.1 hj1
          have HI2 : Hid (Mx13 W1 b ub f h L K (.slice a1 n1 c1) v2 (fun _ => False) Y ∧ Y.ownsRow B9 3 1 (.slice a9 n c9) n (ks.map encZ)) := Lib.hid ⟨HM0.out.old hk, hr⟩
          clear hr hk hks hn hB9 C HM0
          go_wp2_with fail
          go_loopw [16, 17] (fun k i wr => ∃ (t : Nat) (U : World), U = wr ∧ t ≤ n1 ∧ i = .int .i64 (t : Int) ∧ k = .int .i64 ((chN (L.take t)).length : Nat) ∧ Hid (Mx13 W1 b ub f h L K (.slice a1 n1 c1) v2 (fun _ => False) U ∧ U.ownsRow B9 3 1 (.slice a9 n c9) n (ks.map encZ))) (fun _ i _ => n1 - (intOf i).toNat)
          case atStart => exact ⟨0, _, rfl, Nat.zero_le _, rfl, by rw [List.take_zero, chN_nil]; rfl, HI2⟩
          case round =>
            obtain ⟨t, U, rfl, htn, rfl, rfl, HU⟩ := hrel
            clear HI2
            by_cases htl : t < n1
            · have t1 : (t : Int) < (n1 : Int) := by omega
              have t2 : (0 : Int) ≤ (t : Int) := by omega
              obtain ⟨y, hy⟩ : ∃ y, L[t]? = some y := ⟨_, List.getElem?_eq_getElem (by rw [HN.out]; exact htl)⟩
              obtain ⟨g, rfl, -, c0, -, -, -⟩ := HU.out.1.r1.at hy
              have u0 : U.cell? ⟨ub, 0, none⟩ = some (.slice (some ⟨g, 0, none⟩) n1 c1) := by have h1 := HU.out.1.hu; simp [World.cell?, h1]
              obtain ⟨p, hpp⟩ : ∃ p, (chN (L.take t)).length = p := ⟨_, rfl⟩
              rw [hpp]
              have HU2 : ∀ V', KeptIn (· < U.heap.size) U V' → Mx13 W1 b ub f h L K (.slice (some ⟨g, 0, none⟩) n1 c1) v2 (fun _ => False) V' ∧ V'.ownsRow B9 3 1 (.slice a9 n c9) n (ks.map encZ) := fun V' hk => ⟨HU.out.1.old hk, rowI_block HU.out.2 fun g e => hk.block g (by
                rcases HU.out.2.2 with ⟨e1, _⟩ | ⟨g', cap', cur, e1, _, hc, _⟩
                · rw [e1] at e; cases e
                · rw [e1] at e
                  obtain rfl : g' = g := by simpa [Value.ownBlock] using e
                  exact (Array.getElem?_eq_some_iff.1 hc).1)⟩
              have HU3 := Lib.hid HU2
              clear HU2
              cases t with
              | zero =>
                have hnx := chN_next HP.out.2.2.1 (fun x hx => by have := HP.out.2.2.2.1 x hx; omega) hy (fun x h0 h1 => absurd rfl h0)
                have hget := chN_get HP.out.2.2.1 hnx
                rw [HKS.out.1, hpp] at hget
                have hpn : p < n := by
                  have := (List.getElem?_eq_some_iff.1 hget).1
                  rw [HKS.out.2] at this
                  exact this
                have hp1 : (chN (L.take (0 + 1))).length = p + 1 := by rw [hnx, List.length_append, hpp]; rfl
                obtain ⟨ga, ca, ea, -, -, ha⟩ := intRow_at HU.out.2 hget
                simp only [Value.slice.injEq] at ea
                obtain ⟨rfl, -, rfl⟩ := ea
                have q0 : (0 : Int) ≤ (p : Int) := by omega
                have q1 : (p : Int) < (n : Int) := by omega
                have q2 : ¬ (n : Int) ≤ (p : Int) := by omega
                have q3 : decide (n ≤ p) = false := decide_eq_false (by omega)
                have HP1 := Lib.hid hp1
                clear hnx hget hp1 hpn hy
                have c9' := c0
                rw [Nat.zero_mul] at c9'
                clear hpp HU htl htn
                go_wp2_with fail
                go_quiet (fail)
                go_wp2_with fail
                go_quiet (fail)
                go_wp2_with fail
                go_roundw
                case rel => exact ⟨1, _, rfl, by omega, by go_num, by rw [HP1.out]; go_num, Lib.hid (HU3.out _ ((KeptIn.refl _ U).drewN _))⟩
                case measure => simp [intOf]; omega
              | succ s =>
                obtain ⟨x, hx⟩ : ∃ x, L[s]? = some x := ⟨_, List.getElem?_eq_getElem (by rw [HN.out]; omega)⟩
                obtain ⟨g', e', -, x0, -, -, -⟩ := HU.out.1.r1.at hx
                cases e'
                have e0 : ((s + 1 : Nat) : Int) - 1 = (s : Int) := by omega
                have e1 : (0 : Int) < ((s + 1 : Nat) : Int) := by omega
                have e2 : (s : Int) < (n1 : Int) := by omega
                have e3 : (0 : Int) ≤ (s : Int) := by omega
                by_cases hxy : x.ch = y.ch
                · have hsm := chN_same HP.out.2.2.1 hx hy hxy
                  have HS := Lib.hid ((congrArg List.length hsm).trans hpp)
                  rw [← hxy] at c0
                  clear hpp HU htl htn hsm hx hy hxy
                  go_wp2_with fail
                  go_quiet (fail)
                  go_wp2_with fail
                  go_roundw
                  case rel => exact ⟨s + 1 + 1, _, rfl, by omega, by go_num, by rw [HS.out], Lib.hid (HU3.out _ ((KeptIn.refl _ U).drewN _))⟩
                  case measure => simp [intOf]; omega
                · have b1 : (x.ch == y.ch) = false := by rw [beq_eq_false_iff_ne]; exact hxy
                  have hnx := chN_next HP.out.2.2.1 (fun x hx => by have := HP.out.2.2.2.1 x hx; omega) hy (fun x' h0 h1 => by obtain rfl : x' = x := Option.some.inj (h1.symm.trans hx); exact hxy)
                  have hget := chN_get HP.out.2.2.1 hnx
                  rw [HKS.out.1, hpp] at hget
                  have hpn : p < n := by
                    have := (List.getElem?_eq_some_iff.1 hget).1
                    rw [HKS.out.2] at this
                    exact this
                  have hp1 : (chN (L.take ((s + 1) + 1))).length = p + 1 := by rw [hnx, List.length_append, hpp]; rfl
                  obtain ⟨ga, ca, ea, -, -, ha⟩ := intRow_at HU.out.2 hget
                  simp only [Value.slice.injEq] at ea
                  obtain ⟨rfl, -, rfl⟩ := ea
                  have q0 : (0 : Int) ≤ (p : Int) := by omega
                  have q1 : (p : Int) < (n : Int) := by omega
                  have q2 : ¬ (n : Int) ≤ (p : Int) := by omega
                  have q3 : decide (n ≤ p) = false := decide_eq_false (by omega)
                  have HP1 := Lib.hid hp1
                  clear hnx hget hp1 hpn hy
                  clear hpp HU htl htn hx hxy
                  go_wp2_with fail
                  go_quiet (fail)
                  go_wp2_with fail
                  go_quiet (fail)
                  go_wp2_with fail
                  go_roundw
                  case rel => exact ⟨s + 1 + 1, _, rfl, by omega, by go_num, by rw [HP1.out]; go_num, Lib.hid (HU3.out _ ((KeptIn.refl _ U).drewN _))⟩
                  case measure => simp [intOf]; omega
            · obtain rfl : t = n1 := by omega
              have t1 : ¬ (t : Int) < (t : Int) := by omega
              have u0 : U.cell? ⟨ub, 0, none⟩ = some (.slice a1 t c1) := by have h1 := HU.out.1.hu; simp [World.cell?, h1]
              have hpp : (chN (L.take t)).length = n := by rw [List.take_of_length_le (by rw [HN.out]; exact Nat.le_refl _), HKS.out.1, HKS.out.2]
              rw [hpp]
              have HKE := Lib.hid (HK1.out.on HU.out.1.bo.kept)
              clear HU hpp htl htn
              go_wp2_with fail
              go_ret
              exact ⟨by first | rfl | simp, HKE.out⟩
      · have d1 : ¬ (j : Int) < (len : Int) := by omega
        clear hlt hl2
        as_aux_lemma => -- M:E2
          obtain ⟨a1, c1, rfl, -⟩ := HJ.out.1.r1.shape
          obtain ⟨n1, hn1⟩ : ∃ n, L.length = n := ⟨_, rfl⟩
          have HN := Lib.hid hn1
          have HP := Lib.hid HJ.out.2
          have HM0 := Lib.hid HJ.out.1
          rw [hn1] at HM0
          have C := Lib.hid HJ.out.1.bo.chunks
          clear hn1 HJ
          go_wp2_with (go_at_call 22; refine C.out.mono ?_)
          rintro e Y hC
          obtain ⟨v, rfl, hr, hk⟩ := hC
          obtain ⟨ks, hks⟩ : ∃ ks, chN L = ks := ⟨_, rfl⟩
          obtain ⟨n, hn⟩ : ∃ n, ks.length = n := ⟨_, rfl⟩
          rw [keysO_chN HP.out.1, hks, hn] at hr
          obtain ⟨a9, c9, rfl⟩ := lenRow hr
          obtain ⟨B9, hB9⟩ : ∃ B, V.heap.size = B := ⟨_, rfl⟩
          rw [hB9] at hr
          have HKS := Lib.hid (And.intro hks hn)
          have nb : n ≤ 1024 := by rw [← hn, ← hks]; exact upTo_length _ _
          have n1b : n1 ≤ 80 := by rw [← HN.out]; exact Nat.le_trans HP.out.2.2.2.2.1 hj1
          have HI2 : Hid (Mx13 W1 b ub f h L K (.slice a1 n1 c1) v2 (fun _ => False) Y ∧ Y.ownsRow B9 3 1 (.slice a9 n c9) n (ks.map encZ)) := Lib.hid ⟨HM0.out.old hk, hr⟩
          clear hr hk hks hn hB9 C HM0
          go_wp2_with fail
          go_loopw [16, 17] (fun k i wr => ∃ (t : Nat) (U : World), U = wr ∧ t ≤ n1 ∧ i = .int .i64 (t : Int) ∧ k = .int .i64 ((chN (L.take t)).length : Nat) ∧ Hid (Mx13 W1 b ub f h L K (.slice a1 n1 c1) v2 (fun _ => False) U ∧ U.ownsRow B9 3 1 (.slice a9 n c9) n (ks.map encZ))) (fun _ i _ => n1 - (intOf i).toNat)
          case atStart => exact ⟨0, _, rfl, Nat.zero_le _, rfl, by rw [List.take_zero, chN_nil]; rfl, HI2⟩
          case round =>
            obtain ⟨t, U, rfl, htn, rfl, rfl, HU⟩ := hrel
            clear HI2
            by_cases htl : t < n1
            · have t1 : (t : Int) < (n1 : Int) := by omega
              have t2 : (0 : Int) ≤ (t : Int) := by omega
              obtain ⟨y, hy⟩ : ∃ y, L[t]? = some y := ⟨_, List.getElem?_eq_getElem (by rw [HN.out]; exact htl)⟩
              obtain ⟨g, rfl, -, c0, -, -, -⟩ := HU.out.1.r1.at hy
              have u0 : U.cell? ⟨ub, 0, none⟩ = some (.slice (some ⟨g, 0, none⟩) n1 c1) := by have h1 := HU.out.1.hu; simp [World.cell?, h1]
              obtain ⟨p, hpp⟩ : ∃ p, (chN (L.take t)).length = p := ⟨_, rfl⟩
              rw [hpp]
              have HU2 : ∀ V', KeptIn (· < U.heap.size) U V' → Mx13 W1 b ub f h L K (.slice (some ⟨g, 0, none⟩) n1 c1) v2 (fun _ => False) V' ∧ V'.ownsRow B9 3 1 (.slice a9 n c9) n (ks.map encZ) := fun V' hk => ⟨HU.out.1.old hk, rowI_block HU.out.2 fun g e => hk.block g (by
                rcases HU.out.2.2 with ⟨e1, _⟩ | ⟨g', cap', cur, e1, _, hc, _⟩
                · rw [e1] at e; cases e
                · rw [e1] at e
                  obtain rfl : g' = g := by simpa [Value.ownBlock] using e
                  exact (Array.getElem?_eq_some_iff.1 hc).1)⟩
              have HU3 := Lib.hid HU2
              clear HU2
              cases t with
              | zero =>
                have hnx := chN_next HP.out.2.2.1 (fun x hx => by have := HP.out.2.2.2.1 x hx; omega) hy (fun x h0 h1 => absurd rfl h0)
                have hget := chN_get HP.out.2.2.1 hnx
                rw [HKS.out.1, hpp] at hget
                have hpn : p < n := by
                  have := (List.getElem?_eq_some_iff.1 hget).1
                  rw [HKS.out.2] at this
                  exact this
                have hp1 : (chN (L.take (0 + 1))).length = p + 1 := by rw [hnx, List.length_append, hpp]; rfl
                obtain ⟨ga, ca, ea, -, -, ha⟩ := intRow_at HU.out.2 hget
                simp only [Value.slice.injEq] at ea
                obtain ⟨rfl, -, rfl⟩ := ea
                have q0 : (0 : Int) ≤ (p : Int) := by omega
                have q1 : (p : Int) < (n : Int) := by omega
                have q2 : ¬ (n : Int) ≤ (p : Int) := by omega
                have q3 : decide (n ≤ p) = false := decide_eq_false (by omega)
                have HP1 := Lib.hid hp1
                clear hnx hget hp1 hpn hy
                have c9' := c0
                rw [Nat.zero_mul] at c9'
                clear hpp HU htl htn
                go_wp2_with fail
                go_quiet (fail)
                go_wp2_with fail
                go_quiet (fail)
                go_wp2_with fail
                go_roundw
                case rel => exact ⟨1, _, rfl, by omega, by go_num, by rw [HP1.out]; go_num, Lib.hid (HU3.out _ ((KeptIn.refl _ U).drewN _))⟩
                case measure => simp [intOf]; omega
              | succ s =>
                obtain ⟨x, hx⟩ : ∃ x, L[s]? = some x := ⟨_, List.getElem?_eq_getElem (by rw [HN.out]; omega)⟩
                obtain ⟨g', e', -, x0, -, -, -⟩ := HU.out.1.r1.at hx
                cases e'
                have e0 : ((s + 1 : Nat) : Int) - 1 = (s : Int) := by omega
                have e1 : (0 : Int) < ((s + 1 : Nat) : Int) := by omega
                have e2 : (s : Int) < (n1 : Int) := by omega
                have e3 : (0 : Int) ≤ (s : Int) := by omega
                by_cases hxy : x.ch = y.ch
                · have hsm := chN_same HP.out.2.2.1 hx hy hxy
                  have HS := Lib.hid ((congrArg List.length hsm).trans hpp)
                  rw [← hxy] at c0
                  clear hpp HU htl htn hsm hx hy hxy
                  go_wp2_with fail
                  go_quiet (fail)
                  go_wp2_with fail
                  go_roundw
                  case rel => exact ⟨s + 1 + 1, _, rfl, by omega, by go_num, by rw [HS.out], Lib.hid (HU3.out _ ((KeptIn.refl _ U).drewN _))⟩
                  case measure => simp [intOf]; omega
                · have b1 : (x.ch == y.ch) = false := by rw [beq_eq_false_iff_ne]; exact hxy
                  have hnx := chN_next HP.out.2.2.1 (fun x hx => by have := HP.out.2.2.2.1 x hx; omega) hy (fun x' h0 h1 => by obtain rfl : x' = x := Option.some.inj (h1.symm.trans hx); exact hxy)
                  have hget := chN_get HP.out.2.2.1 hnx
                  rw [HKS.out.1, hpp] at hget
                  have hpn : p < n := by
                    have := (List.getElem?_eq_some_iff.1 hget).1
                    rw [HKS.out.2] at this
                    exact this
                  have hp1 : (chN (L.take ((s + 1) + 1))).length = p + 1 := by rw [hnx, List.length_append, hpp]; rfl
                  obtain ⟨ga, ca, ea, -, -, ha⟩ := intRow_at HU.out.2 hget
                  simp only [Value.slice.injEq] at ea
                  obtain ⟨rfl, -, rfl⟩ := ea
                  have q0 : (0 : Int) ≤ (p : Int) := by omega
                  have q1 : (p : Int) < (n : Int) := by omega
                  have q2 : ¬ (n : Int) ≤ (p : Int) := by omega
                  have q3 : decide (n ≤ p) = false := decide_eq_false (by omega)
                  have HP1 := Lib.hid hp1
                  clear hnx hget hp1 hpn hy
                  clear hpp HU htl htn hx hxy
                  go_wp2_with fail
                  go_quiet (fail)
                  go_wp2_with fail
                  go_quiet (fail)
                  go_wp2_with fail
                  go_roundw
                  case rel => exact ⟨s + 1 + 1, _, rfl, by omega, by go_num, by rw [HP1.out]; go_num, Lib.hid (HU3.out _ ((KeptIn.refl _ U).drewN _))⟩
                  case measure => simp [intOf]; omega
            · obtain rfl : t = n1 := by omega
              have t1 : ¬ (t : Int) < (t : Int) := by omega
              have u0 : U.cell? ⟨ub, 0, none⟩ = some (.slice a1 t c1) := by have h1 := HU.out.1.hu; simp [World.cell?, h1]
              have hpp : (chN (L.take t)).length = n := by rw [List.take_of_length_le (by rw [HN.out]; exact Nat.le_refl _), HKS.out.1, HKS.out.2]
              rw [hpp]
              have HKE := Lib.hid (HK1.out.on HU.out.1.bo.kept)
              clear HU hpp htl htn
              go_wp2_with fail
              go_ret
              exact ⟨by first | rfl | simp, HKE.out⟩

end Go.Proofs.Ytononiedecpllaa
