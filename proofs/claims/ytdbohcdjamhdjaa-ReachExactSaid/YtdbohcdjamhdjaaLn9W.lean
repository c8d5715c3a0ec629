import Derived.Test.YtdbohcdjamhdjaaV9
import Derived.Test.YtdbohcdjamhdjaaLq8W
import Derived.Test.YtdbohcdjamhdjaaRef5W
import Derived.Deep.Cut
import Derived.Deep.RegionHeld3
/- The reference's look at whatever nodes: where a node isn't what it must be. -/
set_option linter.unusedVariables false
namespace Go.Proofs.Ytdbohcdjamhdjaa
open Go.RowKit

/-- What a node must be, whatever is above its last key. -/
def EntA (root : Bool) (lv : Int) (lo : Nat) (nd : NdA) : Prop := goodN nd.1 nd.2 = true ∧ 0 < nd.2.length ∧ (if root = true then nd.1 = 0 ∨ 1 < nd.2.length else nd.1 = lv ∧ keyAt nd.2 0 = lo)
theorem lk_idx9 {ix : Nat} (h : ix ≤ 511) : wrap64 (ix : Int) = (ix : Int) ∧ (wrap64 (ix : Int)).toNat = ix := by
  have e : wrap64 (ix : Int) = (ix : Int) := by unfold wrap64; omega
  exact ⟨e, by rw [e]; exact Int.toNat_natCast ix⟩
theorem lky_low {w : World} {T B0 H k : Nat} {pv qv : Value} {ms : List Int} {qs : Pairs} (h : LkAt w T B0 pv qv ms qs) (hD : H ≤ T) (hk : k < H) : LkY w T B0 k :=
  ⟨by have := h.lt; have := h.le; omega, by omega, .inl (by have := h.lt; omega)⟩
theorem lk_nodeG {w : World} {s H T B0 ix cap : Nat} {NA : List NdA} {pv qv : Value} {ms : List Int} {qs : Pairs} {la : Option Addr} (h : LkAt w T B0 pv qv ms qs) (hsh : IsShA w s H NA) (hD : H ≤ T) (hla : w.cell? ⟨s, 0, none⟩ = some (.slice la NA.length cap)) (hix : ix < NA.length) :
    ∃ b off, la = some ⟨b, off, none⟩ ∧ b < H ∧ ∀ W, KeptIn (LkY w T B0) w W → NodeA W H b (off + ix * 2) NA[ix] := by
  obtain ⟨la', cap', h1, h2⟩ := hsh.mem
  have e := h1.symm.trans hla
  simp only [Option.some.injEq, Value.slice.injEq] at e
  obtain ⟨rfl, _, rfl⟩ := e
  obtain ⟨b, off, rfl, hb, hi⟩ := h2 (by omega)
  refine ⟨b, off, rfl, hb, fun W hk => ?_⟩
  obtain ⟨a, c, q1, q2, q3⟩ := hi ix hix
  have hk2 : KeptIn (· < H) w W := hk.mono fun k hk => lky_low h hD hk
  exact ⟨a, c, (World.cell?_of_block (a := ⟨b, off + ix * 2, none⟩) (hk2.block b hb)).trans q1, (World.cell?_of_block (a := ⟨b, off + ix * 2 + 1, none⟩) (hk2.block b hb)).trans q2, q3.kept hk2⟩


set_option maxRecDepth 100000 in
set_option maxHeartbeats 4000000 in
theorem r8lookNo {NA : List NdA} {s H T B0 ix p cap : Nat} {X : Nat → Prop} {root has : Bool} {lv L : Int} {lo hig : Nat} {ps qs : Pairs} {w : World} {pv qv : Value} {ms : List Int} {la : Option Addr} (h : LkAt w T B0 pv qv ms qs) (hqs : qs.length ≤ 15 * ms.length) (hpq : ∀ k, X k → qv.ownBlock ≠ some k) (hp : PrB w T X) (hsh : IsShA w s H NA) (hD : H ≤ T) (hla : w.cell? ⟨s, 0, none⟩ = some (.slice la NA.length cap)) (hix : ix < NA.length) (hqi : ix + 1 = p) (hnd : NA[ix] = (L, ps)) (hin : (p : Int) ∉ ms) (hml : ms.length ≤ 510) (hlv : if root = true then lv = -1 else 0 ≤ lv) (hne : ¬ EntA root lv lo (L, ps)) :
    Calls Try.prog 35 #[.pointer (some ⟨T, 0, none⟩), .slice la NA.length cap, .int .i64 (p : Int), .int .i64 lv, .int .u64 (lo : Int), .bool has, .int .u64 (hig : Int)] w (LkR w T B0 X none) := by
  have HNE := Lib.hid (And.intro hlv hne)
  clear hlv hne
  obtain ⟨b, off, rfl, hbH, hnode⟩ := lk_nodeG h hsh hD hla hix
  rw [hnd] at hnode
  have h20 : ps.length ≤ 1000 := by have := hsh.small ix hix; rw [hnd] at this; exact this
  have hN := hsh.len
  obtain ⟨a, pc, rfl⟩ := row_sliceI h.prow
  obtain ⟨m, hm⟩ : ∃ m, ms.length = m := ⟨_, rfl⟩
  rw [hm] at h hml
  obtain ⟨p1, p2, p3, p4, p5, p6⟩ := lk_in (p := p) (n := NA.length) (by omega) (by omega) hN
  have c0 := h.c0
  have c2 := h.c2
  have hI : IntsL w a ms := by
    have h1 := h.prow
    rw [← hm] at h1
    exact rowIntsL h1 (by unfold maxLen; omega)
  obtain ⟨nn, hnn⟩ : ∃ nn, NA.length = nn := ⟨_, rfl⟩
  have hmI : (m : Int) ≤ 511 := by omega
  have HI := Lib.hid (And.intro hI (And.intro hin hm))
  have HPX := Lib.hid (And.intro hp hpq)
  have HH := Lib.hid (And.intro hsh (And.intro hD (And.intro hml (And.intro hqs (And.intro hN h)))))
  have HNN := Lib.hid hnn
  have HQI := Lib.hid (And.intro hqi (And.intro hix (And.intro hbH (And.intro h20 hnode))))
  rw [hnn] at hla p3 p4 p6 ⊢
  have HL := Lib.hid hla
  clear hI hm hin hsh hD hml h hla hnn hp hpq hqs hnode hqi hix hN hbH hnd h20
  go_enter Try.func35, Try.ntmps35
  go_wp2_with fail
  go_loopw [14] (fun i wr => ∃ (j : Nat), w = wr ∧ j ≤ m ∧ i = .int .i64 (j : Int)) (fun i _ => m - (intOf i).toNat)
  case atStart => exact ⟨0, rfl, Nat.zero_le _, rfl⟩
  case round =>
    obtain ⟨j, rfl, hj, rfl⟩ := hrel
    by_cases hlt : j < m
    · have d0 : (0 : Int) ≤ (j : Int) := by omega
      have d1 : (j : Int) < (m : Int) := by omega
      have hjm : j < ms.length := by rw [HI.out.2.2]; exact hlt
      obtain ⟨gb, off2, rfl, hb, hc⟩ := HI.out.1.cells (by omega)
      have y0 := hc j hjm
      have hxp : ms.getD j 0 ≠ (p : Int) := fun e => HI.out.2.1 (by rw [← e, List.getD_eq_getElem?_getD, List.getElem?_eq_getElem hjm, Option.getD_some]; exact List.getElem_mem hjm)
      obtain ⟨x, hx⟩ : ∃ x, ms.getD j 0 = x := ⟨_, rfl⟩
      rw [hx] at y0 hxp
      have x1 : (x == (p : Int)) = false := by rw [beq_eq_false_iff_ne]; exact hxp
      clear hc hjm hx hb
      go_wp2_with fail
      go_roundw
      case rel => exact ⟨j + 1, trivial, by omega, by go_num⟩
      case measure => simp only [intOf]; omega
    · have d1 : ¬ (j : Int) < (m : Int) := by omega
      obtain ⟨hqi, hix, hbH, h20, hnode⟩ := HQI.out
      have hml : m ≤ 510 := HH.out.2.2.1
      have hrow := HH.out.2.2.2.2.2.prow
      have hBw := HH.out.2.2.2.2.2.le
      obtain ⟨ip, hip, hp0, hp1, hp2⟩ := info_parts infoInt8
      go_wp2_with (at_builtin; refine wpList_append_own _ rfl _ _ 23 rfl B0 3 ip _ 1 8 Try.underlying23 hip hp0 hp1 hp2 rfl (by decide) _ _ _ rfl (hrow.alloc _) ⟨w.heap.size, 0, none⟩ 1 1 [.int .i64 (p : Int)] rfl rfl (World.news_of_block (cs := #[.int .i64 (p : Int)]) (t := 3) (fr := (0, 0)) (heap_alloc_new w _)) (by simp [Value.oneCell']) (by unfold maxLen; have := HI.out.2.2; omega) (by have := HI.out.2.2; omega) (by rw [World.size_alloc]; exact Nat.le_succ_of_le hBw) ?_)
      intro v' w8 hown hgrow _
      rw [HI.out.2.2] at hown
      obtain ⟨av, cv, rfl⟩ := row_sliceI hown
      obtain ⟨⟨z0, z1⟩, hat, hkp⟩ := lk_page HH.out.2.2.2.2.2 HI.out.2.2 hgrow hown
      have hk9 := lk_kept (T := T) (i := 0) (u := .slice av (m + 1) cv) hgrow
      have hpk : ∀ k, X k → (w8.setCell ⟨T, 0, none⟩ (.slice av (m + 1) cv)).heap[k]? = w.heap[k]? := fun k hk => hk9.block k ⟨(HPX.out.1 k hk).1, (HPX.out.1 k hk).2.1, by
        obtain ⟨cs, fr, h9⟩ := (HPX.out.1 k hk).2.2
        exact rowS_ne HH.out.2.2.2.2.2.prow h9 (by decide)⟩
      clear hk9
      obtain ⟨a2, c2', n1, n2, n3', n4'⟩ := hnode _ hkp
      replace n1 : (w8.setCell ⟨T, 0, none⟩ (.slice av (m + 1) cv)).cell? ⟨b, off + ix * 2, none⟩ = some (.int .i64 L) := n1
      replace n2 : (w8.setCell ⟨T, 0, none⟩ (.slice av (m + 1) cv)).cell? ⟨b, off + ix * 2 + 1, none⟩ = some (.slice a2 ps.length c2') := n2
      have n3 : IsPs (w8.setCell ⟨T, 0, none⟩ (.slice av (m + 1) cv)) a2 ps := n3'
      have n4 : 0 < ps.length → ∀ p, a2 = some p → p.block < H := n4'
      clear n3' n4'
      obtain ⟨-, -, i3⟩ := lk_idx hqi (by have := HH.out.2.2.2.2.1; omega)
      have i4 : (0 : Int) ≤ (ix : Int) := by omega
      have i5 : (ix : Int) < (nn : Int) := by have := HNN.out; omega
      obtain ⟨W2, hW2⟩ : ∃ W2, w8.setCell ⟨T, 0, none⟩ (.slice av (m + 1) cv) = W2 := ⟨_, rfl⟩
      obtain ⟨np, hnp⟩ : ∃ np, ps.length = np := ⟨_, rfl⟩
      have HGD : Hid (∀ V, KeptIn (· < W2.heap.size) W2 V → Calls Try.prog 45 #[leafV L a2 np c2'] V fun e w' => e = .returned (.bool (goodN L ps)) ∧ KeptIn (· < V.heap.size) V w') := Lib.hid fun V hk => by
        have := r5Good L a2 c2' ps V (by rw [← hW2] at hk; exact n3.old hk)
        rw [hnp] at this
        exact this
      obtain ⟨y, hy⟩ : ∃ y, w8.heap.size = y := ⟨_, rfl⟩
      have hy2 : W2.heap.size = y := by rw [← hW2, ← hy]; simp
      rw [hnp] at n2
      rw [hW2] at hat hkp n1 n2 n3 hpk
      have HV : Hid (∀ V, KeptIn (· < (W2.alloc (.cells #[.int .i64 L, .slice a2 np c2'] 27)).heap.size) (W2.alloc (.cells #[.int .i64 L, .slice a2 np c2'] 27)) V → BoxL y L a2 np c2' V ∧ IsPs V a2 ps ∧ KeptIn (· < W2.heap.size) W2 V) := Lib.hid fun V hk => by
        have hka : KeptIn (· < W2.heap.size) W2 (W2.alloc (.cells #[.int .i64 L, .slice a2 np c2'] 27)) := (KeptIn.refl _ W2).alloc (fun _ h => h) _
        have hkv := hka.go hk
        refine ⟨?_, n3.old hkv, hkv⟩
        have hb := BoxL.new W2 L a2 np c2'
        rw [hy2] at hb
        exact hb.kept hk hb.lt
      have HA := Lib.hid (And.intro hat (And.intro hkp (And.intro n3 (And.intro n4 hpk))))
      have HNP := Lib.hid hnp
      clear hat hkp n3 n4 hnode hown hgrow hrow hBw hip hp0 hp1 hp2 hnp hpk hqi hix hbH h20
      unfold leafV at HGD
      have HK0 : Hid (∀ ab ao, a2 = some ⟨ab, ao, none⟩ → ∀ V, IsPs V a2 ps → ∀ i, i < np → V.cell? ⟨ab, ao + i * 2, none⟩ = some (.int .u64 (keyAt ps i : Int)) ∧ V.cell? ⟨ab, ao + i * 2 + 1, none⟩ = some (.int .u64 (valAt ps i : Int))) := Lib.hid fun ab ao e V hV i hi => by
        have hl := HNP.out
        obtain ⟨b9, o9, e9, _, h9⟩ := hV.cells (by omega)
        rw [e] at e9
        cases e9
        exact h9 i (by omega)
      have hnpI : (np : Int) ≤ 1000 := by have := HNP.out; have := HQI.out.2.2.2.1; omega
      obtain ⟨i6, -⟩ := lk_idx9 (show ix ≤ 511 by have h1 := HQI.out.2.1; have h2 := HH.out.2.2.2.2.1; omega)
      have HBD : Hid (∀ V, KeptIn (· < W2.heap.size) W2 V → LkR w T B0 X none (.returned (.tuple #[])) (V.setCell ⟨T, 2, none⟩ (.bool true)) ∧ V.cell? ⟨T, 2, none⟩ = some (.bool false) ∧ V.frozen? ⟨T, 2, none⟩ = false) := Lib.hid fun V hk => by
        have h1 := HA.out.1.old hk
        exact ⟨bad_set h1.box h1.lt h1.le (lky_trans HA.out.2.1 (lky_old hk)) (fun k hx => (hk.block k (Nat.lt_of_lt_of_le (HPX.out.1 k hx).1 HA.out.2.1.size)).trans (HA.out.2.2.2.2 k hx)) HPX.out.1, bad_cell h1.box⟩
      obtain ⟨g, hg⟩ : ∃ g, goodN L ps = g := ⟨_, rfl⟩
      rw [hg] at HGD
      cases g with
      | false =>
        clear hg
        go_wp2_with (first
          | (go_at_call 45; refine (HGD.out _ ((KeptIn.refl _ _).alloc (fun _ h => h) _)).mono ?_; rintro e V ⟨rfl, hk⟩; have HVV := Lib.hid (HV.out V hk); have y0 := HVV.out.1.c0; have y1 := HVV.out.1.c1; have HBE := Lib.hid (HBD.out V HVV.out.2.2); have z2 := HBE.out.2.1; have z3 := HBE.out.2.2; clear hk))
        go_end0
        exact HBE.out.1
      | true =>
        by_cases h0 : 0 < np
        · have hnp1 : (0 : Int) < (np : Int) := by omega
          have hnp2 : ((np : Int) == 0) = false := by rw [beq_eq_false_iff_ne]; omega
          have hnp3 : ¬ (np : Int) = 0 := by omega
          have hnp4 : decide ((np : Int) = 0) = false := decide_eq_false hnp3
          obtain ⟨hlv, hne⟩ := HNE.out
          have hL0 := (good_parts hg).1
          have h0' : 0 < ps.length := by rw [HNP.out]; exact h0
          cases root with
          | true =>
            obtain rfl : lv = -1 := by simpa using hlv
            have hL : 0 < L := by
              rcases Int.lt_or_eq_of_le hL0 with h | h
              · exact h
              · exact absurd ⟨hg, h0', by rw [if_pos rfl]; exact .inl h.symm⟩ hne
            have hn2 : (np : Int) < 2 := by
              by_cases h : 1 < ps.length
              · exact absurd ⟨hg, h0', by rw [if_pos rfl]; exact .inr h⟩ hne
              · have := HNP.out; omega
            have hL2 : decide (0 < L) = true := decide_eq_true hL
            have hn3 : decide ((np : Int) < 2) = true := decide_eq_true hn2
            clear hg hlv hne hL0 h0' h0 HNE
            go_wp2_with (first
              | (go_at_call 45; refine (HGD.out _ ((KeptIn.refl _ _).alloc (fun _ h => h) _)).mono ?_; rintro e V ⟨rfl, hk⟩; have HVV := Lib.hid (HV.out V hk); have y0 := HVV.out.1.c0; have y1 := HVV.out.1.c1; have HBE := Lib.hid (HBD.out V HVV.out.2.2); have z2 := HBE.out.2.1; have z3 := HBE.out.2.2; clear hk))
            go_end0
            exact HBE.out.1
          | false =>
            have hlv0 : 0 ≤ lv := by simpa using hlv
            have hlv1 : decide (0 ≤ lv) = true := decide_eq_true hlv0
            by_cases hLl : L = lv
            · subst hLl
              have hkl : keyAt ps 0 ≠ lo := fun e => hne ⟨hg, h0', by rw [if_neg (by decide)]; exact ⟨rfl, e⟩⟩
              obtain ⟨ab, ao, e2, _, _⟩ := HA.out.2.2.1.cells h0'
              obtain ⟨kk, hkk⟩ : ∃ kk, keyAt ps 0 = kk := ⟨_, rfl⟩
              rw [hkk] at hkl
              have HQ0 : Hid (∀ V, IsPs V a2 ps → V.cell? ⟨ab, ao, none⟩ = some (.int .u64 (kk : Int))) := Lib.hid fun V hV => by
                have := (HK0.out ab ao e2 V hV 0 h0).1
                rw [hkk] at this
                simpa using this
              have k1 : ((kk : Int) == (lo : Int)) = false := by rw [beq_eq_false_iff_ne]; omega
              have k2 : ((kk : Int) != (lo : Int)) = true := by rw [bne_iff_ne]; omega
              have k3 : decide ((kk : Int) = (lo : Int)) = false := decide_eq_false (by omega)
              have k4 : ¬ (kk : Int) = (lo : Int) := by omega
              subst e2
              clear hg hlv hne hL0 h0' h0 HNE hkk hkl
              go_wp2_with (first
                | (go_at_call 45; refine (HGD.out _ ((KeptIn.refl _ _).alloc (fun _ h => h) _)).mono ?_; rintro e V ⟨rfl, hk⟩; have HVV := Lib.hid (HV.out V hk); have y0 := HVV.out.1.c0; have y1 := HVV.out.1.c1; have q0 := HQ0.out V HVV.out.2.1; have HBE := Lib.hid (HBD.out V HVV.out.2.2); have z2 := HBE.out.2.1; have z3 := HBE.out.2.2; clear hk))
              go_end0
              exact HBE.out.1
            · have k1 : (L == lv) = false := by rw [beq_eq_false_iff_ne]; exact hLl
              have k2 : (L != lv) = true := by rw [bne_iff_ne]; exact hLl
              have k3 : decide (L = lv) = false := decide_eq_false hLl
              clear hg hlv hne hL0 h0' h0 HNE
              go_wp2_with (first
                | (go_at_call 45; refine (HGD.out _ ((KeptIn.refl _ _).alloc (fun _ h => h) _)).mono ?_; rintro e V ⟨rfl, hk⟩; have HVV := Lib.hid (HV.out V hk); have y0 := HVV.out.1.c0; have y1 := HVV.out.1.c1; have HBE := Lib.hid (HBD.out V HVV.out.2.2); have z2 := HBE.out.2.1; have z3 := HBE.out.2.2; clear hk))
              go_end0
              exact HBE.out.1
        · obtain rfl : np = 0 := by omega
          clear hg h0 HNE
          go_wp2_with (first
            | (go_at_call 45; refine (HGD.out _ ((KeptIn.refl _ _).alloc (fun _ h => h) _)).mono ?_; rintro e V ⟨rfl, hk⟩; have HVV := Lib.hid (HV.out V hk); have y0 := HVV.out.1.c0; have y1 := HVV.out.1.c1; have HBE := Lib.hid (HBD.out V HVV.out.2.2); have z2 := HBE.out.2.1; have z3 := HBE.out.2.2; clear hk))
          go_end0
          exact HBE.out.1

end Go.Proofs.Ytdbohcdjamhdjaa
