/- The maker of numbers made anew: newNumbers. Condition: the variables lie as stated. -/
import Derived.Test.YtjbmpockoicgmaaGreatArX
import Derived.Deep.LoopGhost
import Derived.Deep.RegionHeld3
import Derived.BigQuiet
namespace Go.Proofs.YtjbmpockoicgmaaGreat
open Go.RowKit Go.Shelf Go.PlainAid
set_option linter.unusedVariables false
set_option linter.unusedSimpArgs false
attribute [local go_sem] Oper.semAt_some

theorem idx_take {L : List Vr} {i : Nat} {v : Vr} (h : L[i]? = some v) (x : ByteArray) : idxM (L.take (i + 1)) x = match idxM (L.take i) x with
    | some k => some k
    | none => if v.name = x then some i else none := by
  have hi : i < L.length := (List.getElem?_eq_some_iff.1 h).1
  have e : L.take (i + 1) = L.take i ++ [v] := by rw [List.take_add_one, h]; rfl
  unfold idxM
  rw [e, List.findIdx?_append]
  cases hk : (L.take i).findIdx? (fun v => decide (v.name = x)) with
  | some k => rfl
  | none =>
    simp only [Option.none_or]
    by_cases hv : v.name = x
    · simp [List.findIdx?_cons, hv, List.length_take]; omega
    · simp [List.findIdx?_cons, hv]
/-- What the loop over the variables holds. -/
structure NwI (w : World) (L : List Vr) (va : Option Addr) (vc m i nt : Nat) (W : World) : Prop where
  blk : Blk W (m + 2) 47 #[.map (some m), .slice va L.length vc, .map (some (m + 1)), .slice none 0 0]
  tx : MapN 3 W m nt (fun x => (idxM (L.take i) x).map Int.ofNat)
  nw : MapN 2 W (m + 1) 0 (fun _ => none)
  le : nt ≤ i
  bel : Below w.heap.size w W
set_option maxRecDepth 100000 in
set_option maxHeartbeats 8000000 in
theorem newNumbers_any (w : World) (va : Option Addr) (vc : Nat) (L : List Vr) (hL : L.length ≤ vc) (hV : VAt (fun _ => False) w va L) :
    Calls Tryz.prog 13 #[.slice va L.length vc] w fun e w' => ∃ np S, e = .returned (.pointer (some ⟨np, 0, none⟩)) ∧ NAt S np w' ⟨L, fun _ => none, []⟩ ∧ (∀ g, S g → w.heap.size ≤ g ∧ g < w'.heap.size) ∧ Below w.heap.size w w' := by
  obtain ⟨m, hm⟩ : ∃ m, w.heap.size = m := ⟨_, rfl⟩
  obtain ⟨W1, hW1⟩ : ∃ W, ((w.alloc (.map #[] 0)).alloc (.map #[] 0)).alloc (.cells #[.map (some m), .slice va L.length vc, .map (some (m + 1)), .slice none 0 0] 47) = W := ⟨_, rfl⟩
  have hI0 : NwI w L va vc m 0 0 W1 := by
    rw [← hW1]
    refine ⟨newB _ _ _ (by simp [hm]), ?_, ?_, Nat.le_refl _, ((alB w _).alloc (by simp) _).alloc (by simp; omega) _⟩
    · have h := MapN.made 3 w
      rw [hm] at h
      have hlt := h.lt
      simp at hlt
      exact ((h.heap (Below.heap_alloc _ _ _ (by simp [hm]))).heap (Below.heap_alloc _ _ _ (by simp; omega)))
    · have h := MapN.made 2 (w.alloc (.map #[] 0))
      have e : (w.alloc (.map #[] 0)).heap.size = m + 1 := by simp [hm]
      rw [e] at h
      exact h.heap (Below.heap_alloc _ _ _ (by simp; omega))
  obtain ⟨N, hN⟩ : ∃ N, L.length = N := ⟨_, rfl⟩
  have hN0 : N ≤ 1000000000000000 := by rw [← hN]; exact hV.1
  have hVH := Lib.hid hV
  have hLH := Lib.hid hL
  have hNH := Lib.hid hN
  have hI0H := Lib.hid hI0
  rw [hN] at hW1 ⊢
  clear hV hL hI0 hN
  have hmm : ∀ (t : TypeId) (w : World), (Instr.makeMap t none).run Tryz.prog w = .ok (.map (some w.heap.size)) (w.alloc (.map #[] 0)) := fun _ _ => rfl
  go_enter Tryz.func13, Tryz.ntmps13
  go_wp2_with fail
  clear hW1
  go_loopg [15] N (fun g s15 wr => ∃ i nt : Nat, s15 = .int .i64 (i : Int) ∧ g = N - i ∧ i ≤ N ∧ Hid (NwI w L va vc m i nt wr))
  case atStart => exact ⟨0, 0, rfl, by omega, by omega, hI0H⟩
  case round =>
    obtain ⟨i, nt, rfl, hg, hiN, hI⟩ := hrel
    by_cases hi : i < N
    rotate_left
    · have hd : decide ((i : Int) < (N : Int)) = false := decide_eq_false (by omega)
      obtain rfl : i = N := by omega
      go_wp2
      go_ret
      refine ⟨m + 2, fun g => g = m + 2 ∨ g = m + 1, rfl, ?_, ?_, hI.out.bel⟩
      · have hb := hI.out.blk
        have ht := hI.out.tx
        have hn := hNH.out
        have ht2 : L.take i = L := List.take_of_length_le (by omega)
        rw [ht2] at ht
        exact ⟨m, nt, m + 1, va, vc, .slice none 0 0, hb, ht, hI.out.nw, ⟨rfl, .inl ⟨rfl, rfl⟩⟩, hVH.out.keep hI.out.bel.size (fun g h1 _ => hI.out.bel.block g h1) (fun g h9 => .inr (by omega)), .inl rfl, .inr rfl, fun e => by omega, fun g hg => by simp [Value.ownBlock] at hg⟩
      · have h1 := hI.out.blk.lt
        have h2 := hI.out.nw.lt
        intro g hg
        omega
    · have hd : decide ((i : Int) < (N : Int)) = true := decide_eq_true (by omega)
      obtain ⟨v, hv⟩ : ∃ v, L[i]? = some v := ⟨_, List.getElem?_eq_getElem (by have := hNH.out; omega)⟩
      obtain ⟨gg, o, rfl, hgl, _, hcell⟩ := hVH.out.2.2 (fun e => by rw [e] at hv; simp at hv)
      have hbel := hI.out.bel
      have hck : ∀ j u, (vrcs v)[j]? = some u → wr.cell? ⟨gg, o + i * 5 + j, none⟩ = some u := fun j u hj => (cell_of_blk (hbel.block gg hgl) _).trans (hcell i v hv j u hj)
      have k0 : wr.cell? ⟨gg, o + i * 5, none⟩ = some (.string v.name) := hck 0 _ rfl
      have k1 : wr.cell? ⟨gg, o + i * 5 + 1, none⟩ = some (.string v.val) := hck 1 _ rfl
      have k2 : wr.cell? ⟨gg, o + i * 5 + 2, none⟩ = some (.bool v.x) := hck 2 _ rfl
      have k3 : wr.cell? ⟨gg, o + i * 5 + 3, none⟩ = some (.bool v.r) := hck 3 _ rfl
      have k4 : wr.cell? ⟨gg, o + i * 5 + 4, none⟩ = some (.bool v.u) := hck 4 _ rfl
      have hsz := hVH.out.2.1 v (List.mem_of_getElem? hv)
      have hbelH := Lib.hid hbel
      have hvH := Lib.hid hv
      have hszH := Lib.hid hsz
      clear hck hcell hbel hv hsz hgl
      go_upto_region 5 with fail
      obtain ⟨q, hq⟩ : ∃ q, wr.heap.size = q := ⟨_, rfl⟩
      have hT := newB wr #[.string v.name, .string v.val, .bool v.x, .bool v.r, .bool v.u] (t := 32) q hq
      have hb2 : Below wr.heap.size wr (wr.alloc (.cells #[.string v.name, .string v.val, .bool v.x, .bool v.r, .bool v.u] 32)) := alB _ _
      obtain ⟨W2, hW2⟩ : ∃ W, wr.alloc (.cells #[.string v.name, .string v.val, .bool v.x, .bool v.r, .bool v.u] 32) = W := ⟨_, rfl⟩
      rw [hW2] at hT hb2 ⊢
      rw [hq]
      have hB2 := blk_beneath hI.out.blk hb2
      have htx := hI.out.tx.heap (hb2.block _ hI.out.tx.lt)
      have hnw := hI.out.nw.heap (hb2.block _ hI.out.nw.lt)
      have hbl : Below w.heap.size w W2 := hbelH.out.trans (hb2.mono hbelH.out.size)
      have hlt2 : m + 2 < wr.heap.size := hI.out.blk.lt
      have hle := hI.out.le
      have hnz := hszH.out.1
      have p0 : W2.cell? ⟨m + 1 + 1, 0, none⟩ = some (.map (some m)) := hB2.cell 0
      have t0 : W2.cell? ⟨q, 0, none⟩ = some (.string v.name) := hT.cell 0
      obtain ⟨V, hVV⟩ : ∃ V : ByteArray → Option Int, (fun x => (idxM (L.take i) x).map Int.ofNat) = V := ⟨_, rfl⟩
      have hVf := Lib.hid (fun x => show V x = (idxM (L.take i) x).map Int.ofNat by rw [← hVV])
      rw [hVV] at htx
      have hll : ∀ n, (Instr.lookup 45 (.map (some m)) (.string v.name) true).run Tryz.prog (W2.drewN n) = .ok (.tuple #[.int .i64 ((V v.name).getD 0), .bool (V v.name).isSome]) (W2.drewN n) := fun n => (show MapN 3 (W2.drewN n) m nt V from htx).look Tryz.underlying45 und3 (zero3 _) v.name (by unfold maxLen; omega)
      have hB2H := Lib.hid hB2
      have htxH := Lib.hid htx
      have hnwH := Lib.hid hnw
      have hblH := Lib.hid hbl
      have hTH := Lib.hid hT
      have hleH := Lib.hid hle
      have hnzH := Lib.hid hnz
      clear hT hb2 hW2 hq hB2 htx hnw hbl hlt2 hle hnz hVV k0 k1 k2 k3 k4
      cases hvn : V v.name with
      | some k =>
        have hll2 : ∀ n, (Instr.lookup 45 (.map (some m)) (.string v.name) true).run Tryz.prog (W2.drewN n) = .ok (.tuple #[.int .i64 k, .bool true]) (W2.drewN n) := fun n => by rw [hll n, hvn]; rfl
        clear hll
        go_quiet (fail)
        go_wp2
        go_roundg (N - (i + 1))
        case measure => omega
        case rel =>
          refine ⟨i + 1, nt, by push_cast; rfl, rfl, by omega, Lib.hid ⟨hB2H.out, ?_, hnwH.out, by have := hleH.out; omega, hblH.out.trans ((I.belDN _ _).mono hblH.out.size)⟩⟩
          refine MapN.congr (show MapN 3 (W2.drewN nq) m nt V from htxH.out) (fun x => ?_)
          rw [idx_take hvH.out x, hVf.out x]
          cases hx : idxM (L.take i) x with
          | some k2 => rfl
          | none =>
            by_cases e : v.name = x
            · subst e
              have := hVf.out v.name
              rw [hvn, hx] at this
              cases this
            · simp [e]
      | none =>
        have hll2 : ∀ n, (Instr.lookup 45 (.map (some m)) (.string v.name) true).run Tryz.prog (W2.drewN n) = .ok (.tuple #[.int .i64 0, .bool false]) (W2.drewN n) := fun n => by rw [hll n, hvn]; rfl
        clear hll
        go_quiet (fail)
        go_upto_region 7 with fail
        obtain ⟨w4, hrun, hmap, hgr⟩ := MapN.put (show MapN 3 (W2.drewN (nq + 1)) m nt V from htxH.out) (t := 45) Tryz.underlying45 und3 v.name (by have := hnzH.out; unfold maxLen; omega) (i : Int) (by omega) (by have := hleH.out; unfold maxLen; omega)
        have hmapH := Lib.hid hmap
        have hgrH := Lib.hid hgr
        clear hmap hgr hll2
        have p0d : (W2.drewN nq).drew.cell? ⟨m + 1 + 1, 0, none⟩ = some (.map (some m)) := p0
        have t0d : (W2.drewN nq).drew.cell? ⟨q, 0, none⟩ = some (.string v.name) := t0
        refine wp_region_held_drew (S := fun Z => Z.cell? ⟨m + 1 + 1, 0, none⟩ = some (.map (some m)) ∧ Z.cell? ⟨q, 0, none⟩ = some (.string v.name)) (by kernel_rfl) ⟨p0d, t0d⟩ (fun hHeld => ?_)
        change wpAnyH _ _ _ _ _ 8 #[false, false, false, false, false, false, false, false] _ (W2.drewN nq).drew
        refine wpAnyH_take (i := 0) (v := .pointer (some ⟨m + 1 + 1, 0, none⟩)) rfl (by kernel_rfl) (by kernel_rfl) (by kernel_rfl) (fun _ _ _ h => h) (Or.inl ⟨by rfl, fun Z hZ => ?_⟩) hHeld ?_
        · obtain ⟨z0, z1⟩ := hZ
          go_simp
        try simp only [Act.put, List.setIfInBounds_toArray, List.set_cons_zero, List.set_cons_succ]
        refine wpAnyH_take (i := 1) (v := .pointer (some ⟨m + 1 + 1, 0, none⟩)) rfl (by kernel_rfl) (by kernel_rfl) (by kernel_rfl) (fun _ _ _ h => h) (Or.inl ⟨by rfl, fun Z hZ => ?_⟩) hHeld ?_
        · obtain ⟨z0, z1⟩ := hZ
          go_simp
        try simp only [Act.put, List.setIfInBounds_toArray, List.set_cons_zero, List.set_cons_succ]
        refine wpAnyH_take (i := 2) (v := .pointer (some ⟨m + 1 + 1, 0, none⟩)) rfl (by kernel_rfl) (by kernel_rfl) (by kernel_rfl) (fun _ _ _ h => h) (Or.inl ⟨by rfl, fun Z hZ => ?_⟩) hHeld ?_
        · obtain ⟨z0, z1⟩ := hZ
          go_simp
        try simp only [Act.put, List.setIfInBounds_toArray, List.set_cons_zero, List.set_cons_succ]
        refine wpAnyH_take (i := 3) (v := .map (some m)) rfl (by kernel_rfl) (by kernel_rfl) (by kernel_rfl) (fun _ _ _ h => h) (Or.inl ⟨by rfl, fun Z hZ => ?_⟩) hHeld ?_
        · obtain ⟨z0, z1⟩ := hZ
          go_simp
        try simp only [Act.put, List.setIfInBounds_toArray, List.set_cons_zero, List.set_cons_succ]
        refine wpAnyH_take (i := 4) (v := .pointer (some ⟨q, 0, none⟩)) rfl (by kernel_rfl) (by kernel_rfl) (by kernel_rfl) (fun _ _ _ h => h) (Or.inl ⟨by rfl, fun Z hZ => ?_⟩) hHeld ?_
        · obtain ⟨z0, z1⟩ := hZ
          go_simp
        try simp only [Act.put, List.setIfInBounds_toArray, List.set_cons_zero, List.set_cons_succ]
        refine wpAnyH_take (i := 5) (v := .string v.name) rfl (by kernel_rfl) (by kernel_rfl) (by kernel_rfl) (fun _ _ _ h => h) (Or.inl ⟨by rfl, fun Z hZ => ?_⟩) hHeld ?_
        · obtain ⟨z0, z1⟩ := hZ
          go_simp
        try simp only [Act.put, List.setIfInBounds_toArray, List.set_cons_zero, List.set_cons_succ]
        refine wpAnyH_take (i := 6) (v := .int .i64 (i : Int)) rfl (by kernel_rfl) (by kernel_rfl) (by kernel_rfl) (fun _ _ _ h => h) (Or.inl ⟨by rfl, fun Z hZ => ?_⟩) hHeld ?_
        · obtain ⟨z0, z1⟩ := hZ
          go_simp
        try simp only [Act.put, List.setIfInBounds_toArray, List.set_cons_zero, List.set_cons_succ]
        refine wpAnyH_ready (rs := [7]) (by kernel_rfl) (by simp) ?_
        refine AllReadyH.cons rfl (fun K hK => ?_) AllReadyH.nil
        go_simp
        go_simp
        have hB4 := Lib.hid ((hgrH.out.block (m + 2) hB2H.out.lt (fun e => by have := Option.some.inj e; omega)).trans hB2H.out)
        have hT4 := Lib.hid ((hgrH.out.block q hTH.out.lt (fun e => by have e := Option.some.inj e; exact htxH.out.not_cells (by rw [← e]; exact hTH.out))).trans hTH.out)
        have p4 : w4.cell? ⟨m + 1 + 1, 0, none⟩ = some (.map (some m)) := Blk.cell hB4.out 0
        have t4 : w4.cell? ⟨q, 0, none⟩ = some (.string v.name) := Blk.cell hT4.out 0
        refine hK _ _ ⟨p4, t4⟩ (fun hHeld => ?_)
        clear hK K
        try simp only [Act.put, List.setIfInBounds_toArray, List.set_cons_zero, List.set_cons_succ]
        refine wpAnyH_done (by kernel_rfl) ?_ _
        go_wp2
        go_roundg (N - (i + 1))
        case measure => omega
        case rel =>
          have hs2 : W2.heap.size = (W2.drewN (nq + 1)).heap.size := rfl
          have hml := hB2H.out.lt
          refine ⟨i + 1, nt + 1, by push_cast; rfl, rfl, by omega, Lib.hid ⟨hB4.out, ?_, hnwH.out.heap (hgrH.out.block (m + 1) hnwH.out.lt (fun e => by have := Option.some.inj e; omega)), by have := hleH.out; omega, hblH.out.trans ⟨hgrH.out.os, hgrH.out.tape, hgrH.out.output, hgrH.out.size, fun g hg => hgrH.out.block g (by show g < W2.heap.size; omega) (fun e => by have := Option.some.inj e; omega)⟩⟩⟩
          refine MapN.congr hmapH.out (fun x => ?_)
          have h0 := hVf.out v.name
          rw [hvn] at h0
          have h1 : idxM (L.take i) v.name = none := by
            cases hx : idxM (L.take i) v.name with
            | none => rfl
            | some k2 => rw [hx] at h0; cases h0
          rw [idx_take hvH.out x]
          by_cases e : x = v.name
          · subst e
            rw [h1]
            simp
          · have e2 : ¬ v.name = x := fun h => e h.symm
            rw [if_neg e, hVf.out x]
            cases hx : idxM (L.take i) x with
            | some k2 => rfl
            | none => simp [e2]
end Go.Proofs.YtjbmpockoicgmaaGreat
