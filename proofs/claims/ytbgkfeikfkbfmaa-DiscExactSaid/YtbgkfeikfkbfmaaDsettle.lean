/- disc's Settle. -/
import Derived.Test.YtbgkfeikfkbfmaaDflush
import Derived.Test.YtbgkfeikfkbfmaaDloose
set_option linter.unusedVariables false
namespace Go.Proofs.Ytbgkfeikfkbfmaa
open Go.RowKit Go.Maps

/-- The i-th bit of keep; behind its last byte the first comes again. -/
def keepBit (l : List UInt8) (i : Nat) : Bool := !l.isEmpty && (l.getD (i / 8 % l.length) 0).toNat / 2 ^ (i % 8) % 2 == 1

/-- The loose sectors, one behind the other: those whose bits are one are safe from then on. -/
def settle (keep : List UInt8) (M : Int → Option (List UInt8)) : List Int → Nat → List (List UInt8) → List (List UInt8)
  | [], _, S => S
  | k :: r, i, S => settle keep M r (i + 1) (if keepBit keep i then S.set k.toNat ((M k).getD []) else S)

theorem settle_length (keep : List UInt8) (M : Int → Option (List UInt8)) : ∀ (ks : List Int) (i : Nat) (S : List (List UInt8)), (settle keep M ks i S).length = S.length
  | [], _, _ => rfl
  | k :: r, i, S => by
    rw [settle, settle_length keep M r (i + 1)]
    split <;> simp

theorem mem_places {n : Nat} {M : Int → Option (List UInt8)} {k : Int} (h : k ∈ places n M) : 0 ≤ k ∧ k < n ∧ (M k).isSome = true := by
  simp only [places, List.mem_map, List.mem_filter, List.mem_range, Int.ofNat_eq_natCast] at h
  obtain ⟨i, ⟨h1, h2⟩, rfl⟩ := h
  exact ⟨by omega, by omega, h2⟩

set_option maxRecDepth 100000 in
theorem dStays (l : List UInt8) (i : Nat) (w : World) (hl : l.length ≤ maxLen) (hi : i ≤ 16384) :
    Calls Try.prog 40 #[.string ⟨l.toArray⟩, .int .i64 i] w fun e w' => e = .returned (.bool (keepBit l i)) ∧ w = w' := by
  unfold maxLen at hl
  cases l with
  | nil =>
    have hk : keepBit [] i = false := rfl
    rw [hk]
    clear hl hi hk
    go_enter Try.func40, Try.ntmps40
    go_wp2
    go_ret
    exact ⟨rfl, rfl⟩
  | cons x r =>
    have hlen : ((x :: r).length : Int) ≤ 9223372036854775807 := by omega
    have hpos : (0 : Int) < ((x :: r).length : Int) := by simp
    obtain ⟨l, hl0⟩ : ∃ l, x :: r = l := ⟨_, rfl⟩
    have hemp : (l == []) = false := by rw [← hl0]; rfl
    have hie : l.isEmpty = false := by rw [← hl0]; rfl
    rw [hl0] at hlen hpos ⊢
    clear hl0 hl
    have b0 : (0 : Int) ≤ (i : Int) := by omega
    have b1 : (i : Int) ≤ 16384 := by omega
    have b2 : (0 : Int) ≤ (i : Int) / 8 % (l.length : Int) := Int.emod_nonneg _ (by omega)
    have b3 : (i : Int) / 8 % (l.length : Int) < (l.length : Int) := Int.emod_lt_of_pos _ hpos
    have hlt : i / 8 % l.length < l.length := Nat.mod_lt _ (by omega)
    have HB : Hid ((bits BinOp.and IntKind.u8 (((l[i / 8 % l.length]'hlt).toNat : Int) / 2 ^ (i % 8)) 1 == 1) = keepBit l i) := Lib.hid (by
      have hx : (((l[i / 8 % l.length]'hlt).toNat : Nat) : Int) / 2 ^ (i % 8) = (((l[i / 8 % l.length]'hlt).toNat / 2 ^ (i % 8) : Nat) : Int) := by simp
      have hlt2 : (l[i / 8 % l.length]'hlt).toNat / 2 ^ (i % 8) < 256 := Nat.lt_of_le_of_lt (Nat.div_le_self _ _) (UInt8.toNat_lt _)
      have h1 := u8_and_nat ((l[i / 8 % l.length]'hlt).toNat / 2 ^ (i % 8)) 1 hlt2 (by decide)
      rw [Nat.and_one_is_mod] at h1
      rw [hx]
      unfold keepBit
      rw [hie, List.getD_eq_getElem?_getD, List.getElem?_eq_getElem hlt, show (1 : Int) = ((1 : Nat) : Int) from rfl, h1]
      simp only [Option.getD_some, Bool.not_false, Bool.true_and]
      rw [Bool.eq_iff_iff]
      simp only [beq_iff_eq]
      omega)
    clear hie
    go_enter Try.func40, Try.ntmps40
    go_wp2
    go_ret
    exact ⟨congrArg (fun v => Ending.returned (Value.bool v)) HB.out, rfl⟩

theorem dSettleNil (s : ByteArray) (w : World) : Calls Try.prog 21 #[.pointer none, .string s] w fun e w' => e = .returned (.int .i64 2) ∧ w = w' := by
  go_enter Try.func21, Try.ntmps21
  go_wp2
  go_ret
  exact ⟨rfl, rfl⟩

theorem dSettleOn (d m s b N : Nat) (p : Pw) (S : List (List UInt8)) (M : Int → Option (List UInt8)) (l : List UInt8) (w : World) (h : IsD d m s b N S M w) (hp : IsP m p w) (hon : p.on = true) :
    Calls Try.prog 21 #[.pointer (some ⟨d, 0, none⟩), .string ⟨l.toArray⟩] w fun e w' => e = .returned (.int .i64 11) ∧ w = w' := by
  have c0 := h.c0
  have hm := hp.1
  rw [hon] at hm
  have HM := Lib.hid hm
  clear h hp hon hm
  go_enter Try.func21, Try.ntmps21
  go_wp2_with (go_at_call 28; refine (mOn _ _ _ _ _ _ HM.out).mono ?_)
  rintro e w' ⟨rfl, rfl⟩
  go_wp2
  go_ret
  exact ⟨rfl, rfl⟩

/-- Between two rounds of Settle's loop. -/
structure Settled (w : World) (d m s b N : Nat) (S : List (List UInt8)) (M : Int → Option (List UInt8)) (keep : List UInt8) (ps : List Int) (j : Nat) (S' : List (List UInt8)) (W : World) : Prop where
  isD : IsD d m s b N S' M W
  len : S'.length = S.length
  run : settle keep M (ps.drop j) j S' = settle keep M ps 0 S
  kept : KeptIn (fun k => k < w.heap.size ∧ k ≠ s) w W

set_option maxHeartbeats 1000000 in
set_option maxRecDepth 100000 in
theorem dSettle (d m s b N : Nat) (p : Pw) (S : List (List UInt8)) (M : Int → Option (List UInt8)) (l : List UInt8) (w : World) (h : IsD d m s b N S M w) (hp : IsP m p w) (hoff : p.on = false) (hl : l.length ≤ maxLen) :
    Calls Try.prog 21 #[.pointer (some ⟨d, 0, none⟩), .string ⟨l.toArray⟩] w fun e w' => e = .returned (.int .i64 0) ∧ IsD d m s b 0 (settle l M (places S.length M) 0 S) (fun _ => none) w' ∧ KeptIn (fun k => k < w.heap.size ∧ k ≠ s ∧ k ≠ b) w w' := by
  have c0 := h.c0
  have hm := hp.1
  rw [hoff] at hm
  have HM := Lib.hid hm
  have hmax := h.max
  have HD := Lib.hid h; have HL := Lib.hid hl
  clear h hp hoff hm hl
  obtain ⟨ps, hps⟩ : ∃ ps, places S.length M = ps := ⟨_, rfl⟩
  rw [hps]
  have hpn : ps.length ≤ S.length := by
    have := List.length_filter_le (fun i : Nat => (M (i : Int)).isSome) (List.range S.length)
    rw [← hps]
    simp only [places, List.length_map]
    rwa [List.length_range] at this
  have HPS : Hid (places S.length M = ps ∧ ps.length ≤ 16384) := Lib.hid ⟨hps, by omega⟩
  have CL := Lib.hid (dLoose d m s b N S M w HD.out)
  rw [hps] at CL
  clear hps hpn hmax
  go_enter Try.func21, Try.ntmps21
  go_wp2_with (go_at_call 28; refine (mOn _ _ _ _ _ _ HM.out).mono ?_)
  rintro e w' ⟨rfl, rfl⟩
  go_wp2_with (go_at_call 11; refine CL.out.mono ?_)
  rintro e w1 ⟨v, rfl, hrow, hk1⟩
  obtain ⟨a0, cap, rfl, hel⟩ : ∃ a0 cap, v = .slice a0 ps.length cap ∧ (0 < ps.length → ∃ g, a0 = some ⟨g, 0, none⟩ ∧ w.heap.size ≤ g ∧ g < w1.heap.size ∧ ps.length ≤ cap ∧ ∀ j k, ps[j]? = some k → w1.cell? ⟨g, j, none⟩ = some (.int .i64 k)) := by
    rcases hrow.2 with ⟨rfl, h0⟩ | ⟨g, cap, cur, rfl, hg, hb, hc, _, _, ht⟩
    · exact ⟨none, 0, by rw [h0], fun h => absurd h0 (by omega)⟩
    · refine ⟨_, cap, rfl, fun _ => ⟨g, rfl, hg, (Array.getElem?_eq_some_iff.1 hb).1, hc, fun j k hj => ?_⟩⟩
      rw [cell_of_row w1 g j _ _ _ hb]
      have h1 : (cur.toList.take (ps.length * 1))[j]? = some (.int .i64 k) := by rw [ht]; simp [hj]
      rw [List.getElem?_take] at h1
      split at h1
      · simpa using h1
      · cases h1
  have HEL := Lib.hid hel
  have HJ0 : Hid (Settled w1 d m s b N S M l ps 0 S w1 ∧ KeptIn (· < w.heap.size) w w1) := Lib.hid ⟨⟨HD.out.kept hk1 HD.out.ltd HD.out.lts HD.out.ltb, rfl, rfl, .refl _ _⟩, hk1⟩
  clear hrow hk1 hel c0 HM CL
  obtain ⟨n, hn⟩ : ∃ n, ps.length = n := ⟨_, rfl⟩
  rw [hn] at HEL
  rw [hn]
  have HN : Hid (ps.length = n ∧ n ≤ 16384) := Lib.hid ⟨hn, by rw [← hn]; exact HPS.out.2⟩
  have hnn : (n : Int) ≤ 16384 := by have := HN.out.2; omega
  have HK0 : Hid (KeptIn (· < w.heap.size) w w1) := Lib.hid HJ0.out.2
  have HS0 : Hid (Settled w1 d m s b N S M l ps 0 S w1) := Lib.hid HJ0.out.1
  clear hn HJ0
  go_wp2_with fail
  go_loopw [17] (fun c wr => ∃ (j : Nat) (S' : List (List UInt8)) (W : World), W = wr ∧ j ≤ n ∧ c = .int .i64 j ∧ Hid (Settled w1 d m s b N S M l ps j S' W)) (fun c _ => n - (RowKit.intOf c).toNat)
  case atStart => exact ⟨0, S, w1, rfl, Nat.zero_le _, rfl, HS0⟩
  case round =>
    obtain ⟨j, S', W, rfl, hj, rfl, HJ⟩ := hrel
    clear HS0
    by_cases hlt : j < n
    · have b0 : (0 : Int) ≤ (j : Int) := by omega
      have b1 : (j : Int) < (n : Int) := by omega
      obtain ⟨g, rfl, hgw, hg1, hcap, hcell⟩ := HEL.out (by omega)
      have hjl : j < ps.length := by rw [HN.out.1]; exact hlt
      have hmem : ps[j] ∈ places S.length M := by rw [HPS.out.1]; exact List.getElem_mem hjl
      obtain ⟨hx0, hx1, hxs⟩ := mem_places hmem
      obtain ⟨k, hk⟩ : ∃ k : Nat, ps[j] = (k : Int) := ⟨ps[j].toNat, by omega⟩
      rw [hk] at hx1 hxs
      obtain ⟨c, hc⟩ := Option.isSome_iff_exists.1 hxs
      have hsg : s < g := Nat.lt_of_lt_of_le HD.out.lts hgw
      have cg : W.cell? ⟨g, j, none⟩ = some (.int .i64 (k : Int)) := (World.cell?_of_block (a := ⟨g, j, none⟩) (HJ.out.kept.block g ⟨hg1, by omega⟩)).trans (hcell j k (by rw [List.getElem?_eq_getElem hjl, hk]))
      have hdrop : ps.drop j = (k : Int) :: ps.drop (j + 1) := by rw [List.drop_eq_getElem_cons hjl, hk]
      have hrun := HJ.out.run
      rw [hdrop, settle] at hrun
      have HX : Hid (M (k : Int) = some c ∧ k < S.length) := Lib.hid ⟨hc, by omega⟩
      have HRUN := Lib.hid hrun
      clear hcell hmem hx0 hx1 hxs hk hc hdrop hrun hjl
      have CB := Lib.hid (dStays l j W HL.out (by have := HN.out.2; omega))
      cases hkb : keepBit l j with
      | false =>
        rw [hkb] at CB HRUN
        have HJ2 : Hid (Settled w1 d m s b N S M l ps (j + 1) S' W) := Lib.hid ⟨HJ.out.isD, HJ.out.len, by have := HRUN.out; simpa using this, HJ.out.kept⟩
        clear HJ HRUN HX hkb
        go_wp2_with (go_at_call 40; refine CB.out.mono ?_)
        rintro e w' ⟨rfl, rfl⟩
        clear CB
        go_wp2_with fail
        go_roundw
        case rel => exact ⟨j + 1, S', W, rfl, by omega, by go_num, HJ2⟩
        case measure => simp [RowKit.intOf]; omega
      | true =>
        rw [hkb] at CB HRUN
        clear hkb
        have hD := HJ.out.isD
        have hlen : S'.length = S.length := HJ.out.len
        have hkn : k < S'.length := by rw [hlen]; exact HX.out.2
        have k0 : (0 : Int) ≤ (k : Int) := by omega
        have k1 : (k : Int) < (S'.length : Int) := by omega
        have hc16 : c.length = 16 := by
          obtain ⟨D, _, hs⟩ := hD.map
          exact hs.len _ _ HX.out.1
        obtain ⟨cs, hcs⟩ : ∃ cs, Lib.byteCells c = cs := ⟨_, rfl⟩
        have hl16 : cs.length = 16 := by rw [← hcs, Lib.byteCells_length, hc16]
        have hu := Try.underlying62
        have hi : (Try.prog.info? 62).map (·.size) = some cs.length := by rw [← hcs]; exact secSizeL hc16
        have h1 : ∀ v ∈ cs, v.oneCell' = true := by rw [← hcs]; exact Lib.byteCells_one _
        have HLK : Hid (∀ V, V.heap[b]? = W.heap[b]? → (Instr.lookup 58 (.map (some b)) (.int .i64 (k : Int)) false).run Try.prog V = .ok (.agg cs.toArray) V) := Lib.hid fun V hV => by
          rw [((hD.map.block hV).look (k : Int) (WalkArith.wf_i64 (by have := hD.max; omega))).2, HX.out.1, ← hcs]
          rfl
        have c1 := hD.c1; have c2 := hD.c2
        have TH := Lib.hid (hD.there k hkn)
        have HDD := Lib.hid hD
        have hds := hD.ne_ds; have hbs := hD.ne_sb.symm
        have C1 := Lib.hid c1; have C2 := Lib.hid c2; have HCS := Lib.hid hcs; have HC16 := Lib.hid hc16
        have HLE := Lib.hid hlen
        clear hD hkn hcs hc16 hlen
        obtain ⟨n', hn'⟩ : ∃ n', S'.length = n' := ⟨_, rfl⟩
        rw [hn'] at C1 c1 k1
        go_wp2_with (go_at_call 40; refine CB.out.mono ?_; rintro e w' ⟨rfl, rfl⟩)
        go_region_held3 (fun w' => w'.cell? ⟨d, 1, none⟩ = some (.slice (some ⟨s, 0, none⟩) n' n') ∧ w'.cell? ⟨d, 2, none⟩ = some (.map (some b)) ∧ w'.there s (k * 16) 16 ∧ (Instr.lookup 58 (.map (some b)) (.int .i64 (k : Int)) false).run Try.prog w' = .ok (.agg cs.toArray) w')
          (first | exact ⟨C1.out, C2.out, TH.out, HLK.out _ rfl⟩ | exact ⟨(World.cell?_of_block (a := ⟨d, 1, none⟩) (heap_setCells_other s cs _ _ d hds)).trans C1.out, (World.cell?_of_block (a := ⟨d, 2, none⟩) (heap_setCells_other s cs _ _ d hds)).trans C2.out, World.there_setCells (w := W.drew) TH.out _ _ _, HLK.out _ (heap_setCells_other s cs _ _ b hbs)⟩)
          (fail)
        have hkd : KeptIn (· ≠ s) W (W.drew.setCells s (k * 16) cs) := ((KeptIn.refl _ W).drew).setCells (by simp) _ _
        have HJ2 : Hid (Settled w1 d m s b N S M l ps (j + 1) (S'.set k c) (W.drew.setCells s (k * 16) cs)) := by
          refine Lib.hid ⟨?_, by rw [List.length_set]; exact HLE.out, ?_, HJ.out.kept.trans (hkd.mono fun i hi => hi.2)⟩
          · rw [← HCS.out]
            exact (HDD.out.kept (w' := W.drew) ((KeptIn.refl (fun _ => True) W).drew) trivial trivial trivial).put k (by have := HLE.out; have := HX.out.2; omega) _ HC16.out
          · have := HRUN.out
            rw [HX.out.1] at this
            simpa using this
        clear hkd HJ HRUN HX HDD HCS HC16 HLE HLK TH C1 C2 c1 c2 hds hbs hl16 hi hu h1 k0 k1 CB cg
        go_wp2_with fail
        go_roundw
        case rel => exact ⟨j + 1, _, _, rfl, by omega, by go_num, HJ2⟩
        case measure => simp [RowKit.intOf]; omega
    · obtain rfl : j = n := by omega
      have hr := HJ.out.run
      rw [List.drop_of_length_le (by rw [HN.out.1]; exact Nat.le_refl _), settle] at hr
      have HE : Hid (IsD d m s b N (settle l M ps 0 S) M W ∧ KeptIn (fun k => k < w1.heap.size ∧ k ≠ s) w1 W) := Lib.hid ⟨by rw [← hr]; exact HJ.out.isD, HJ.out.kept⟩
      clear hr HJ
      have c2 := HE.out.1.c2
      go_wp2_with (refine wpList_clear_sec rfl _ rfl b N M rfl HE.out.1.map ?_)
      intro w3 hm3 hk3 hz3
      go_wp2
      go_ret
      have hD := HE.out.1
      refine ⟨rfl, ⟨(hk3.block d hD.ne_db).trans hD.hd, (hk3.block s hD.ne_sb).trans hD.hs, hm3, hD.len, hD.max, fun _ _ h => (by cases h)⟩, ?_⟩
      exact ((HK0.out.mono fun k hk => hk.1).trans (HE.out.2.mono fun k hk => ⟨Nat.lt_of_lt_of_le hk.1 HK0.out.size, hk.2.1⟩)).trans (hk3.mono fun k hk => hk.2.2)

end Go.Proofs.Ytbgkfeikfkbfmaa
