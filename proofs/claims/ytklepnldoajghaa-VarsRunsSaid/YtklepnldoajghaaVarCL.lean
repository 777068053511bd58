/- The reference's put of a new name. Condition: the rows lie as stated, and there is room. -/
import Derived.Test.YtklepnldoajghaaVarCJ
namespace Go.Proofs.Ytklepnldoajghaa
open Go.RowKit Go.PlainAid
attribute [local go_sem] Oper.semAt_some

set_option maxHeartbeats 40000000 in
set_option maxRecDepth 100000 in
theorem putR_end {n₀ q : Nat} {L : Vl} {A : List ByteArray} {lv av : Value} (x : ByteArray) (y : Vb) (w : World) (h : RefAt n₀ w q L A lv av) (hn0 : n₀ ≤ w.heap.size) (hh : has (ks L) x = false) (hroom : L.length < 64) (hcase : pos (ks L) x = L.length) (hcap : ∃ g c, lv = .slice (some ⟨g, 0, none⟩) L.length c ∧ c ≠ L.length) :
    Calls Try.prog 36 #[.pointer (some ⟨q, 0, none⟩), .agg (rcs (x, y)).toArray] w fun e w' => e = .returned (.tuple #[]) ∧ REnds n₀ q (ins L (pos (ks L) x) (x, y)) A w w' := by
  obtain ⟨i0, hi0, hz0, hz1, hz2⟩ := info_parts info73
  have hs' : Sorted (ks (ins L (pos (ks L) x) (x, y))) := by rw [ks_ins]; exact sorted_ins h.srt hh
  have hf := Lib.hid (fnd_not hh)
  obtain ⟨i, hi⟩ : ∃ i, pos (ks L) x = i := ⟨_, rfl⟩
  have hple := pos_le (ks L) x
  have hpb := Lib.hid (pos_below (ks L) x)
  have hpa := Lib.hid (pos_above (ks L) x h.srt)
  rw [hi] at hs' hple hpb hpa hcase ⊢
  obtain ⟨g0, c0, e0, hcn⟩ := hcap
  have hcN : L.length ≤ c0 := by
    rcases h.list.2 with ⟨e, _⟩ | ⟨g, cap, cur, e, _, _, hc, _⟩
    · rw [e0] at e; cases e
    · rw [e0] at e; simp at e; omega
  obtain ⟨m, hm⟩ : ∃ m, w.heap.size = m := ⟨_, rfl⟩
  obtain ⟨W, hW⟩ : ∃ W, w.alloc (.cells (rcs (x, y)).toArray 73) = W := ⟨_, rfl⟩
  have hBW : Below m w W := by rw [← hW]; exact (Below.refl _ _).alloc (by omega) _
  have hBm : Blk W m 73 (rcs (x, y)).toArray := by rw [← hW, ← hm]; exact Blk.new w 73 _
  have hV := h.beneath (by rw [hm]; exact hBW)
  have hWz : W.heap.size = m + 1 := by rw [← hW, ← hm]; simp
  have hcall := Lib.hid (find_any x W hV)
  have p0 : W.cell? ⟨q, 0, none⟩ = some (.slice (some ⟨g0, 0, none⟩) L.length c0) := by rw [hV.blk.cell 0, ← e0]; rfl
  obtain ⟨⟨m0, m1, m2, m3, m4⟩, _⟩ := blk5 hBm
  obtain ⟨N, hN⟩ : ∃ N, L.length = N := ⟨_, rfl⟩
  rw [ks_len, hN] at hple
  have hl := h.len
  rw [hN] at hl hroom p0 hcase hcN hcn
  have hNH := Lib.hid hN
  have hH := Lib.hid h
  have hVH := Lib.hid hV
  have hmH := Lib.hid hm
  have hWH := Lib.hid hW
  have hWzH := Lib.hid hWz
  have hBWH := Lib.hid hBW
  have hBmH := Lib.hid hBm
  have hn0H := Lib.hid hn0
  have hsH := Lib.hid hs'
  have e0H := Lib.hid e0
  have hqm : q < m := by rw [← hm]; exact h.blk.lt
  unfold rcs at hWH ⊢
  dsimp only at hWH m0 m1 m2 m3 m4 ⊢
  clear h hV hBW hBm hW hm hWz hN hn0 hs' hi hh e0
  go_enter Try.func36, Try.ntmps36
  go_wp2_with (rw [hWH.out, hmH.out])
  refine hcall.out.mono ?_
  rintro e w' ⟨rfl, rfl⟩
  rw [hf.out]
  go_wp2_with fail
  go_loopw [6] (fun s6 wr => ∃ k : Nat, k ≤ i ∧ s6 = .int .i64 k ∧ ∃ d, wr = w'.drewN d) (fun s6 _ => i - (intOf s6).toNat)
  case atStart => exact ⟨0, Nat.zero_le _, rfl, 0, rfl⟩
  case round =>
    obtain ⟨k, hk, rfl, d, rfl⟩ := hrel
    by_cases hlt : k < i
    · obtain ⟨u, hu⟩ : ∃ u, L[k]? = some u := ⟨_, List.getElem?_eq_getElem (by rw [hNH.out]; omega)⟩
      obtain ⟨g, cap, e1, _, hc, _, _⟩ := row_at rcs_len hVH.out.list hu
      have hless := hpb.out k u.1 hlt (ks_at hu)
      unfold lt at hless
      rw [e0H.out] at e1
      obtain rfl : g0 = g := by simp at e1; exact e1.1
      have d0 : w'.cell? ⟨g0, k * 5, none⟩ = some (.string u.1) := hc 0 _ rfl
      have hkN : (k : Int) < (N : Int) := by omega
      have hk0 : (0 : Int) ≤ (k : Int) := by omega
      clear hu hc e1
      go_wp2_with fail
      go_quiet (fail)
      go_wp2_with fail
      go_roundw
      case rel => exact ⟨k + 1, by omega, by go_num, ⟨_, rfl⟩⟩
      case measure => simp [intOf]; omega
    · obtain rfl : k = i := by omega
      have hkg : decide (k < N) = false := decide_eq_false (by omega)
      have hkc : ¬ (c0 = k) := by omega
      have hkc1 : (k : Int) ≤ (c0 : Int) := by omega
      have hkc2 : (k : Int) ≤ (N : Int) := by omega
      clear hlt hcase hcn
      go_wp2_with fail
      go_quiet (fail)
      go_wp2_with fail
      have hz : w'.heap.size = m + 1 := hWzH.out
      have hV := hVH.out
      have hsrc := fun (Z : World) (hb : Below (m + 1) w' Z) => src_row2 (row_beneath (by rw [← e0H.out]; exact hV.list) (by rw [hz]; exact hb))
      have hQ := Lib.hid (fun (Z : World) (hb : Below (m + 1) w' Z) => (show Z.cell? ⟨q, 0, none⟩ = some (.slice (some ⟨g0, 0, none⟩) N c0) by rw [← hNH.out, ← e0H.out]; exact (blk_beneath hV.blk (by rw [hz]; exact hb)).cell 0))
      have hQf := Lib.hid (fun (Z : World) (hb : Below (m + 1) w' Z) => (blk_beneath hV.blk (by rw [hz]; exact hb)).frozen 0)
      have hS := Lib.hid (fun (Z : World) (hb : Below (m + 1) w' Z) => (blk5 ((hb.block m (by omega)).trans hBmH.out)).1)
      have hLl : (flat rcs L).length = N * 5 := by rw [flat_len rcs_len, hNH.out]
      have hl1 : ((flat rcs L).take (k * 5)).length = k * 5 := by rw [List.length_take, hLl]; omega
      have hl3 : ((flat rcs L).drop (k * 5)).length = (N - k) * 5 := by rw [List.length_drop, hLl]; omega
      have ho := flat_one rcs_one L
      have ho1 : ∀ u ∈ (flat rcs L).take (k * 5), u.oneCell' = true := fun u hu => ho u (List.mem_of_mem_take hu)
      have ho3 : ∀ u ∈ (flat rcs L).drop (k * 5), u.oneCell' = true := fun u hu => ho u (List.mem_of_mem_drop hu)
      have hs1 := Lib.hid (fun (Z : World) (hb : Below (m + 1) w' Z) => src_take (k := k * 5) (hsrc Z hb))
      have hs3 := Lib.hid (fun (Z : World) (hb : Below (m + 1) w' Z) => src_part (k := k * 5) (hsrc Z hb))
      have hFF := Lib.hid (ins_rcs (L := L) (i := k) (x := (x, y)) (by rw [hNH.out]; omega))
      obtain ⟨F1, hF1⟩ : ∃ F1, (flat rcs L).take (k * 5) = F1 := ⟨_, rfl⟩
      obtain ⟨F3, hF3⟩ : ∃ F3, (flat rcs L).drop (k * 5) = F3 := ⟨_, rfl⟩
      rw [hF1] at hl1 ho1 hs1 hFF
      rw [hF3] at hl3 ho3 hs3 hFF
      have hl1H := Lib.hid hl1
      have hl3H := Lib.hid hl3
      have ho1H := Lib.hid ho1
      have ho3H := Lib.hid ho3
      have hzH := Lib.hid hz
      clear hLl hl1 hl3 ho ho1 ho3 hF1 hF3 hsrc hV hz m0 m1 m2 m3 m4
      obtain ⟨X, hX⟩ : ∃ X, (w'.drewN d).drewN nq = X := ⟨_, rfl⟩
      have hzX : X.heap.size = m + 1 := by rw [← hX]; exact hzH.out
      have hbX : Below (m + 1) w' X := by rw [← hX]; exact Below.drewN_ _ (Below.drewN_ _ (Below.refl _ _))
      rw [hX]
      have zX : Hid (m + 1 ≤ w'.heap.size) := Lib.hid (by have := hzH.out; omega)
      have hbXd : Below (m + 1) w' X.drew := hbX.drew
      have b1 : Hid (Below (m + 1) w' (X.drew.alloc (.cells #[] 73))) := Lib.hid (hbXd.alloc (by show m + 1 ≤ X.heap.size; omega) _)
      have b2 : Hid (Below (m + 1) w' (X.drew.alloc (.cells #[.string x, .string y.val, .bool y.ex, .bool y.ro, .bool (!y.st)] 73))) := Lib.hid (hbXd.alloc (by show m + 1 ≤ X.heap.size; omega) _)
      have b12 : Hid (Below (m + 1) w' ((X.drew.alloc (.cells #[] 73)).alloc (.cells #[.string x, .string y.val, .bool y.ex, .bool y.ro, .bool (!y.st)] 73))) := Lib.hid (b1.out.alloc (by rw [World.size_alloc]; show m + 1 ≤ X.heap.size + 1; omega) _)
      have b21 : Hid (Below (m + 1) w' ((X.drew.alloc (.cells #[.string x, .string y.val, .bool y.ex, .bool y.ro, .bool (!y.st)] 73)).alloc (.cells #[] 73))) := Lib.hid (b2.out.alloc (by rw [World.size_alloc]; show m + 1 ≤ X.heap.size + 1; omega) _)
      have e1H := Lib.hid (empty_row X.drew (m + 1) 73 5 (by show m + 1 ≤ X.heap.size; omega))
      have e21 : ((X.drew.alloc (.cells #[.string x, .string y.val, .bool y.ex, .bool y.ro, .bool (!y.st)] 73)).alloc (.cells #[] 73)).ownsRow (m + 1) 73 5 (.slice (some ⟨X.heap.size + 1, 0, none⟩) 0 0) 0 [] := by
        have h := empty_row (X.drew.alloc (.cells #[.string x, .string y.val, .bool y.ex, .bool y.ro, .bool (!y.st)] 73)) (m + 1) 73 5 (by rw [World.size_alloc]; show m + 1 ≤ X.heap.size + 1; omega)
        rw [World.size_alloc] at h
        exact h
      have e21H := Lib.hid e21
      have El12 : Hid (Blk ((X.drew.alloc (.cells #[] 73)).alloc (.cells #[.string x, .string y.val, .bool y.ex, .bool y.ro, .bool (!y.st)] 73)) (X.heap.size + 1) 73 #[.string x, .string y.val, .bool y.ex, .bool y.ro, .bool (!y.st)]) := Lib.hid (by
        have h := Blk.new (X.drew.alloc (.cells #[] 73)) 73 #[.string x, .string y.val, .bool y.ex, .bool y.ro, .bool (!y.st)]
        rw [World.size_alloc] at h
        exact h)
      have El21 : Hid (Blk ((X.drew.alloc (.cells #[.string x, .string y.val, .bool y.ex, .bool y.ro, .bool (!y.st)] 73)).alloc (.cells #[] 73)) X.heap.size 73 #[.string x, .string y.val, .bool y.ex, .bool y.ro, .bool (!y.st)]) := Lib.hid ((Blk.new X.drew 73 #[.string x, .string y.val, .bool y.ex, .bool y.ro, .bool (!y.st)]).alloc _)
      have keep12 := Lib.hid (fun (w1 : World) (hg : ((X.drew.alloc (.cells #[] 73)).alloc (.cells #[.string x, .string y.val, .bool y.ex, .bool y.ro, .bool (!y.st)] 73)).grownBy w1 (some X.heap.size)) => (hg.block (X.heap.size + 1) El12.out.lt (fun e => by have := Option.some.inj e; omega)).trans El12.out)
      have keep21 := Lib.hid (fun (w1 : World) (hg : ((X.drew.alloc (.cells #[.string x, .string y.val, .bool y.ex, .bool y.ro, .bool (!y.st)] 73)).alloc (.cells #[] 73)).grownBy w1 (some (X.heap.size + 1))) => (hg.block X.heap.size El21.out.lt (fun e => by have := Option.some.inj e; omega)).trans El21.out)
      have pX := hQ.out X hbX
      have p1 := hQ.out (X.alloc (.cells #[] 73)) (hbX.alloc (by omega) _)
      have p2 := hQ.out (X.alloc (.cells #[.string x, .string y.val, .bool y.ex, .bool y.ro, .bool (!y.st)] 73)) (hbX.alloc (by omega) _)
      have p12 := hQ.out ((X.alloc (.cells #[] 73)).alloc (.cells #[.string x, .string y.val, .bool y.ex, .bool y.ro, .bool (!y.st)] 73)) ((hbX.alloc (by omega) _).alloc (by rw [World.size_alloc]; omega) _)
      have p21 := hQ.out ((X.alloc (.cells #[.string x, .string y.val, .bool y.ex, .bool y.ro, .bool (!y.st)] 73)).alloc (.cells #[] 73)) ((hbX.alloc (by omega) _).alloc (by rw [World.size_alloc]; omega) _)
      obtain ⟨mX0, mX1, mX2, mX3, mX4⟩ := hS.out X hbX
      obtain ⟨mE0, mE1, mE2, mE3, mE4⟩ := hS.out (X.alloc (.cells #[] 73)) (hbX.alloc (by omega) _)
      have hqm' : ¬ (q = m) := by omega
      have hmq' : ¬ (m = q) := by omega
      have hX' := Lib.hid hX
      have hzX' := Lib.hid hzX
      clear e21 hbXd hX p0 hzX
      have hSd := And.intro (hQ.out _ hbX.drew) (hS.out _ hbX.drew)
      refine wp_region_phased (S := fun Z => Z.cell? ⟨q, 0, none⟩ = some (.slice (some ⟨g0, 0, none⟩) N c0) ∧ Z.cell? ⟨m, 0, none⟩ = some (.string x) ∧ Z.cell? ⟨m, 1, none⟩ = some (.string y.val) ∧ Z.cell? ⟨m, 2, none⟩ = some (.bool y.ex) ∧ Z.cell? ⟨m, 3, none⟩ = some (.bool y.ro) ∧ Z.cell? ⟨m, 4, none⟩ = some (.bool (!y.st))) (stop := 19) (by kernel_rfl) ?_
      change Phased _ _ _ _ _ _ 22 #[false, false, false, false, false, false, false, false, false, false, false, false, false, false, false, false, false, false, false, false, false, false] _ X.drew
      refine phased_take (i := 0) (oi := { dst := some 49, op := Go.Op.move (Go.Operand.tmp 0), type := 26, pos := "ref.go:47", after := #[], guard := none }) (v := .pointer (some ⟨q, 0, none⟩)) rfl (by decide) (by kernel_rfl) (by kernel_rfl) (by kernel_rfl) (by kernel_rfl) (fun _ _ _ h => h) (Or.inl ⟨by rfl, fun Z hZ => ?_⟩) hSd ?_
      · obtain ⟨z0, z1, z2, z3, z4, z5⟩ := hZ
        go_simp
      try simp only [Act.put, List.setIfInBounds_toArray, List.set_cons_zero, List.set_cons_succ]
      refine phased_take (i := 2) (oi := { dst := some 51, op := Go.Op.move (Go.Operand.tmp 0), type := 26, pos := "ref.go:47", after := #[], guard := none }) (v := .pointer (some ⟨q, 0, none⟩)) rfl (by decide) (by kernel_rfl) (by kernel_rfl) (by kernel_rfl) (by kernel_rfl) (fun _ _ _ h => h) (Or.inl ⟨by rfl, fun Z hZ => ?_⟩) hSd ?_
      · obtain ⟨z0, z1, z2, z3, z4, z5⟩ := hZ
        go_simp
      try simp only [Act.put, List.setIfInBounds_toArray, List.set_cons_zero, List.set_cons_succ]
      refine phased_take (i := 3) (oi := { dst := some 52, op := Go.Op.nilCheck (Go.Operand.tmp 51), type := 0, pos := "ref.go:47", after := #[{ on := 2, ground := Go.Ground.data }], guard := none }) (v := .pointer (some ⟨q, 0, none⟩)) rfl (by decide) (by kernel_rfl) (by kernel_rfl) (by kernel_rfl) (by kernel_rfl) (fun _ _ _ h => h) (Or.inl ⟨by rfl, fun Z hZ => ?_⟩) hSd ?_
      · obtain ⟨z0, z1, z2, z3, z4, z5⟩ := hZ
        go_simp
      try simp only [Act.put, List.setIfInBounds_toArray, List.set_cons_zero, List.set_cons_succ]
      refine phased_take (i := 4) (oi := { dst := some 53, op := Go.Op.fieldAddr 30 (Go.Operand.tmp 52) 0, type := 0, pos := "ref.go:47", after := #[{ on := 3, ground := Go.Ground.data }], guard := none }) (v := .pointer (some ⟨q, 0, none⟩)) rfl (by decide) (by kernel_rfl) (by kernel_rfl) (by kernel_rfl) (by kernel_rfl) (fun _ _ _ h => h) (Or.inl ⟨by rfl, fun Z hZ => ?_⟩) hSd ?_
      · obtain ⟨z0, z1, z2, z3, z4, z5⟩ := hZ
        go_simp
      try simp only [Act.put, List.setIfInBounds_toArray, List.set_cons_zero, List.set_cons_succ]
      refine phased_take (i := 5) (oi := { dst := some 54, op := Go.Op.load 27 (Go.Operand.tmp 53), type := 27, pos := "ref.go:47", after := #[{ on := 4, ground := Go.Ground.data }], guard := none }) (v := .slice (some ⟨g0, 0, none⟩) N c0) rfl (by decide) (by kernel_rfl) (by kernel_rfl) (by kernel_rfl) (by kernel_rfl) (fun _ _ _ h => h) (Or.inl ⟨by rfl, fun Z hZ => ?_⟩) hSd ?_
      · obtain ⟨z0, z1, z2, z3, z4, z5⟩ := hZ
        go_simp
      try simp only [Act.put, List.setIfInBounds_toArray, List.set_cons_zero, List.set_cons_succ]
      refine phased_take (i := 6) (oi := { dst := some 55, op := Go.Op.move (Go.Operand.tmp 6), type := 3, pos := "ref.go:47", after := #[], guard := none }) (v := .int .i64 k) rfl (by decide) (by kernel_rfl) (by kernel_rfl) (by kernel_rfl) (by kernel_rfl) (fun _ _ _ h => h) (Or.inl ⟨by rfl, fun Z hZ => ?_⟩) hSd ?_
      · obtain ⟨z0, z1, z2, z3, z4, z5⟩ := hZ
        go_simp
      try simp only [Act.put, List.setIfInBounds_toArray, List.set_cons_zero, List.set_cons_succ]
      refine phased_take (i := 7) (oi := { dst := some 56, op := Go.Op.slice 27 (Go.Operand.tmp 54) none (some (Go.Operand.tmp 55)) none, type := 27, pos := "ref.go:47", after := #[{ on := 5, ground := Go.Ground.data }, { on := 6, ground := Go.Ground.data }], guard := none }) (v := .slice (some ⟨g0, 0, none⟩) k c0) rfl (by decide) (by kernel_rfl) (by kernel_rfl) (by kernel_rfl) (by kernel_rfl) (fun _ _ _ h => h) (Or.inl ⟨by rfl, fun Z hZ => ?_⟩) hSd ?_
      · obtain ⟨z0, z1, z2, z3, z4, z5⟩ := hZ
        go_simp
      try simp only [Act.put, List.setIfInBounds_toArray, List.set_cons_zero, List.set_cons_succ]
      refine phased_take (i := 9) (oi := { dst := some 58, op := Go.Op.load 73 (Go.Operand.tmp 3), type := 73, pos := "ref.go:47", after := #[], guard := none }) (v := .agg #[.string x, .string y.val, .bool y.ex, .bool y.ro, .bool (!y.st)]) rfl (by decide) (by kernel_rfl) (by kernel_rfl) (by kernel_rfl) (by kernel_rfl) (fun _ _ _ h => h) (Or.inl ⟨by rfl, fun Z hZ => ?_⟩) hSd ?_
      · obtain ⟨z0, z1, z2, z3, z4, z5⟩ := hZ
        go_simp
      try simp only [Act.put, List.setIfInBounds_toArray, List.set_cons_zero, List.set_cons_succ]
      refine phased_take (i := 12) (oi := { dst := some 61, op := Go.Op.move (Go.Operand.tmp 0), type := 26, pos := "ref.go:47", after := #[], guard := none }) (v := .pointer (some ⟨q, 0, none⟩)) rfl (by decide) (by kernel_rfl) (by kernel_rfl) (by kernel_rfl) (by kernel_rfl) (fun _ _ _ h => h) (Or.inl ⟨by rfl, fun Z hZ => ?_⟩) hSd ?_
      · obtain ⟨z0, z1, z2, z3, z4, z5⟩ := hZ
        go_simp
      try simp only [Act.put, List.setIfInBounds_toArray, List.set_cons_zero, List.set_cons_succ]
      refine phased_take (i := 13) (oi := { dst := some 62, op := Go.Op.nilCheck (Go.Operand.tmp 61), type := 0, pos := "ref.go:47", after := #[{ on := 12, ground := Go.Ground.data }], guard := none }) (v := .pointer (some ⟨q, 0, none⟩)) rfl (by decide) (by kernel_rfl) (by kernel_rfl) (by kernel_rfl) (by kernel_rfl) (fun _ _ _ h => h) (Or.inl ⟨by rfl, fun Z hZ => ?_⟩) hSd ?_
      · obtain ⟨z0, z1, z2, z3, z4, z5⟩ := hZ
        go_simp
      try simp only [Act.put, List.setIfInBounds_toArray, List.set_cons_zero, List.set_cons_succ]
      refine phased_take (i := 14) (oi := { dst := some 63, op := Go.Op.fieldAddr 30 (Go.Operand.tmp 62) 0, type := 0, pos := "ref.go:47", after := #[{ on := 13, ground := Go.Ground.data }], guard := none }) (v := .pointer (some ⟨q, 0, none⟩)) rfl (by decide) (by kernel_rfl) (by kernel_rfl) (by kernel_rfl) (by kernel_rfl) (fun _ _ _ h => h) (Or.inl ⟨by rfl, fun Z hZ => ?_⟩) hSd ?_
      · obtain ⟨z0, z1, z2, z3, z4, z5⟩ := hZ
        go_simp
      try simp only [Act.put, List.setIfInBounds_toArray, List.set_cons_zero, List.set_cons_succ]
      refine phased_take (i := 15) (oi := { dst := some 64, op := Go.Op.load 27 (Go.Operand.tmp 63), type := 27, pos := "ref.go:47", after := #[{ on := 14, ground := Go.Ground.data }], guard := none }) (v := .slice (some ⟨g0, 0, none⟩) N c0) rfl (by decide) (by kernel_rfl) (by kernel_rfl) (by kernel_rfl) (by kernel_rfl) (fun _ _ _ h => h) (Or.inl ⟨by rfl, fun Z hZ => ?_⟩) hSd ?_
      · obtain ⟨z0, z1, z2, z3, z4, z5⟩ := hZ
        go_simp
      try simp only [Act.put, List.setIfInBounds_toArray, List.set_cons_zero, List.set_cons_succ]
      refine phased_take (i := 16) (oi := { dst := some 65, op := Go.Op.move (Go.Operand.tmp 6), type := 3, pos := "ref.go:47", after := #[], guard := none }) (v := .int .i64 k) rfl (by decide) (by kernel_rfl) (by kernel_rfl) (by kernel_rfl) (by kernel_rfl) (fun _ _ _ h => h) (Or.inl ⟨by rfl, fun Z hZ => ?_⟩) hSd ?_
      · obtain ⟨z0, z1, z2, z3, z4, z5⟩ := hZ
        go_simp
      try simp only [Act.put, List.setIfInBounds_toArray, List.set_cons_zero, List.set_cons_succ]
      refine phased_take (i := 17) (oi := { dst := some 66, op := Go.Op.slice 27 (Go.Operand.tmp 64) (some (Go.Operand.tmp 65)) none none, type := 27, pos := "ref.go:47", after := #[{ on := 15, ground := Go.Ground.data }, { on := 16, ground := Go.Ground.data }], guard := none }) (v := .slice (some ⟨g0, k * 5, none⟩) (N - k) (c0 - k)) rfl (by decide) (by kernel_rfl) (by kernel_rfl) (by kernel_rfl) (by kernel_rfl) (fun _ _ _ h => h) (Or.inl ⟨by rfl, fun Z hZ => ?_⟩) hSd ?_
      · obtain ⟨z0, z1, z2, z3, z4, z5⟩ := hZ
        go_simp
      try simp only [Act.put, List.setIfInBounds_toArray, List.set_cons_zero, List.set_cons_succ]
      refine phased_ready (rs := [1, 10]) (by kernel_rfl) (by simp) ?_
      refine PhReady.cons (o := { dst := some 50, op := Go.Op.buildSlice 27 0 #[], type := 27, pos := "ref.go:47", after := #[], guard := none }) rfl (fun K hK => ?_) (PhReady.cons (o := { dst := some 59, op := Go.Op.buildSlice 27 1 #[(0, Go.Operand.tmp 58)], type := 27, pos := "ref.go:47", after := #[{ on := 9, ground := Go.Ground.data }], guard := none }) rfl (fun K hK => ?_) PhReady.nil)
      · go_simp
        refine hK _ _ (fun _ => ⟨hQ.out _ b1.out, hS.out _ b1.out⟩) ?_
        clear hK K
        try simp only [Act.put]
        try simp only [List.setIfInBounds_toArray, List.set_cons_zero, List.set_cons_succ]
        refine phased_ready (rs := [8, 10]) (by kernel_rfl) (by simp) ?_
        refine PhReady.cons (o := { dst := some 57, op := Go.Op.call { callee := Go.Callee.builtin Go.Builtin.append, args := #[Go.Operand.tmp 50, Go.Operand.tmp 56], argTypes := #[27, 27] }, type := 27, pos := "ref.go:47", after := #[{ on := 1, ground := Go.Ground.data }, { on := 7, ground := Go.Ground.data }], guard := none }) rfl (fun K hK => ?_) (PhReady.cons (o := { dst := some 59, op := Go.Op.buildSlice 27 1 #[(0, Go.Operand.tmp 58)], type := 27, pos := "ref.go:47", after := #[{ on := 9, ground := Go.Ground.data }], guard := none }) rfl (fun K hK => ?_) PhReady.nil)
        · skip
          (refine step_app rfl _ _ 27 rfl (m + 1) 73 i0 _ 5 40 Try.underlying27 hi0 hz0 hz1 hz2 rfl (by decide) _ 0 [] (by rfl) e1H.out (some ⟨g0, 0, none⟩) k c0 F1 (by rfl) hl1H.out (hs1.out _ b1.out) ho1H.out (by omega) (by omega) (Nat.le_trans zX.out b1.out.size) ?_; intro a1 c1 w1 hr1 hg1 _; rw [Nat.zero_add, List.nil_append] at hr1; have hr1H := Lib.hid hr1; have hb1 := below_row e1H.out b1.out (Nat.le_trans zX.out b1.out.size) hg1; have hb1H := Lib.hid hb1; have p0w1 := hQ.out _ hb1; obtain ⟨n0, n1, n2, n3, n4⟩ := hS.out _ hb1; have z1 : Hid (m + 1 ≤ w1.heap.size) := Lib.hid (Nat.le_trans zX.out hb1.size); have b1e := Lib.hid (hb1.alloc z1.out (.cells #[.string x, .string y.val, .bool y.ex, .bool y.ro, .bool (!y.st)] 73)); have p0w1e := hQ.out _ b1e.out; have hEl := Lib.hid (Blk.new w1 73 #[.string x, .string y.val, .bool y.ex, .bool y.ro, .bool (!y.st)]); have hr1e := Lib.hid (hr1.alloc (.cells #[.string x, .string y.val, .bool y.ex, .bool y.ro, .bool (!y.st)] 73)); clear hr1 hg1 hb1)
          try go_simp
          refine hK _ _ (fun _ => ⟨hQ.out _ hb1H.out, hS.out _ hb1H.out⟩) ?_
          clear hK K
          try simp only [Act.put]
          try simp only [List.setIfInBounds_toArray, List.set_cons_zero, List.set_cons_succ]
          refine phased_ready (rs := [10]) (by kernel_rfl) (by simp) ?_
          refine PhReady.cons (o := { dst := some 59, op := Go.Op.buildSlice 27 1 #[(0, Go.Operand.tmp 58)], type := 27, pos := "ref.go:47", after := #[{ on := 9, ground := Go.Ground.data }], guard := none }) rfl (fun K hK => ?_) PhReady.nil
          go_simp
          refine hK _ _ (fun _ => ⟨hQ.out _ b1e.out, hS.out _ b1e.out⟩) ?_
          clear hK K
          try simp only [Act.put]
          try simp only [List.setIfInBounds_toArray, List.set_cons_zero, List.set_cons_succ]
          refine phased_ready (rs := [11]) (by kernel_rfl) (by simp) ?_
          refine PhReady.cons (o := { dst := some 60, op := Go.Op.call { callee := Go.Callee.builtin Go.Builtin.append, args := #[Go.Operand.tmp 57, Go.Operand.tmp 59], argTypes := #[27, 27] }, type := 27, pos := "ref.go:47", after := #[{ on := 8, ground := Go.Ground.data }, { on := 10, ground := Go.Ground.data }, { on := 8, ground := Go.Ground.chain }], guard := none }) rfl (fun K hK => ?_) PhReady.nil
          (refine step_app rfl _ _ 27 rfl (m + 1) 73 i0 _ 5 40 Try.underlying27 hi0 hz0 hz1 hz2 rfl (by decide) _ k F1 (by rfl) hr1e.out _ 1 1 (rcs (x, y)) (by rfl) rfl (src_blk hEl.out) (rcs_one (x, y)) (by omega) (by omega) (Nat.le_trans zX.out b1e.out.size) ?_; intro a2 c2 w2 hr2 hg2 _; have hr2H := Lib.hid hr2; have hb2 := below_row hr1e.out b1e.out (Nat.le_trans zX.out b1e.out.size) hg2; have hb2H := Lib.hid hb2; have p0w2 := hQ.out _ hb2; clear hr2 hg2 hb2)
          try go_simp
          refine hK _ _ (fun _ => ⟨hQ.out _ hb2H.out, hS.out _ hb2H.out⟩) ?_
          clear hK K
          try simp only [Act.put]
          try simp only [List.setIfInBounds_toArray, List.set_cons_zero, List.set_cons_succ]
          refine phased_ready (rs := [18]) (by kernel_rfl) (by simp) ?_
          refine PhReady.cons (o := { dst := some 67, op := Go.Op.call { callee := Go.Callee.builtin Go.Builtin.append, args := #[Go.Operand.tmp 60, Go.Operand.tmp 66], argTypes := #[27, 27] }, type := 27, pos := "ref.go:47", after := #[{ on := 11, ground := Go.Ground.data }, { on := 17, ground := Go.Ground.data }, { on := 11, ground := Go.Ground.chain }], guard := none }) rfl (fun K hK => ?_) PhReady.nil
          (refine step_app rfl _ _ 27 rfl (m + 1) 73 i0 _ 5 40 Try.underlying27 hi0 hz0 hz1 hz2 rfl (by decide) _ (k + 1) (F1 ++ rcs (x, y)) (by rfl) hr2H.out (some ⟨g0, k * 5, none⟩) (N - k) _ F3 (by rfl) hl3H.out (hs3.out _ hb2H.out) ho3H.out (by omega) (by omega) (Nat.le_trans zX.out hb2H.out.size) ?_; intro a3 c3 w3 hr3 hg3 _; have hr3H := Lib.hid hr3; have hb3 := below_row hr2H.out hb2H.out (Nat.le_trans zX.out hb2H.out.size) hg3; have hb3H := Lib.hid hb3; have p0w3 := hQ.out _ hb3; have f0w3 := hQf.out _ hb3; clear hr3 hg3 hb3)
          try go_simp
          refine hK _ _ (fun _ => ⟨hQ.out _ hb3H.out, hS.out _ hb3H.out⟩) ?_
          clear hK K
          try simp only [Act.put]
          try simp only [List.setIfInBounds_toArray, List.set_cons_zero, List.set_cons_succ]
          refine phased_of_any _ _ _ _ (by decide) ?_
          refine wpAny_ready (rs := [19]) (by kernel_rfl) (by simp) ?_
          refine AllReady.cons (o := { dst := some 68, op := Go.Op.nilCheck (Go.Operand.tmp 49), type := 0, pos := "ref.go:47", after := #[{ on := 0, ground := Go.Ground.data }, { on := 0, ground := Go.Ground.phase }, { on := 1, ground := Go.Ground.phase }, { on := 2, ground := Go.Ground.phase }, { on := 3, ground := Go.Ground.phase }, { on := 4, ground := Go.Ground.phase }, { on := 5, ground := Go.Ground.phase }, { on := 6, ground := Go.Ground.phase }, { on := 7, ground := Go.Ground.phase }, { on := 8, ground := Go.Ground.phase }, { on := 9, ground := Go.Ground.phase }, { on := 10, ground := Go.Ground.phase }, { on := 11, ground := Go.Ground.phase }, { on := 12, ground := Go.Ground.phase }, { on := 13, ground := Go.Ground.phase }, { on := 14, ground := Go.Ground.phase }, { on := 15, ground := Go.Ground.phase }, { on := 16, ground := Go.Ground.phase }, { on := 17, ground := Go.Ground.phase }, { on := 18, ground := Go.Ground.phase }], guard := none }) rfl (fun K hK => ?_) AllReady.nil
          go_simp
          refine hK _ _ ?_
          clear hK K
          try simp only [List.setIfInBounds_toArray, List.set_cons_zero, List.set_cons_succ]
          refine wpAny_ready (rs := [20]) (by kernel_rfl) (by simp) ?_
          refine AllReady.cons (o := { dst := some 69, op := Go.Op.fieldAddr 30 (Go.Operand.tmp 68) 0, type := 0, pos := "ref.go:47", after := #[{ on := 19, ground := Go.Ground.data }, { on := 0, ground := Go.Ground.phase }, { on := 1, ground := Go.Ground.phase }, { on := 2, ground := Go.Ground.phase }, { on := 3, ground := Go.Ground.phase }, { on := 4, ground := Go.Ground.phase }, { on := 5, ground := Go.Ground.phase }, { on := 6, ground := Go.Ground.phase }, { on := 7, ground := Go.Ground.phase }, { on := 8, ground := Go.Ground.phase }, { on := 9, ground := Go.Ground.phase }, { on := 10, ground := Go.Ground.phase }, { on := 11, ground := Go.Ground.phase }, { on := 12, ground := Go.Ground.phase }, { on := 13, ground := Go.Ground.phase }, { on := 14, ground := Go.Ground.phase }, { on := 15, ground := Go.Ground.phase }, { on := 16, ground := Go.Ground.phase }, { on := 17, ground := Go.Ground.phase }, { on := 18, ground := Go.Ground.phase }], guard := none }) rfl (fun K hK => ?_) AllReady.nil
          go_simp
          refine hK _ _ ?_
          clear hK K
          try simp only [List.setIfInBounds_toArray, List.set_cons_zero, List.set_cons_succ]
          refine wpAny_ready (rs := [21]) (by kernel_rfl) (by simp) ?_
          refine AllReady.cons (o := { dst := none, op := Go.Op.store 27 (Go.Operand.tmp 69) (Go.Operand.tmp 67), type := 0, pos := "ref.go:47", after := #[{ on := 20, ground := Go.Ground.data }, { on := 18, ground := Go.Ground.data }, { on := 18, ground := Go.Ground.chain }, { on := 0, ground := Go.Ground.phase }, { on := 1, ground := Go.Ground.phase }, { on := 2, ground := Go.Ground.phase }, { on := 3, ground := Go.Ground.phase }, { on := 4, ground := Go.Ground.phase }, { on := 5, ground := Go.Ground.phase }, { on := 6, ground := Go.Ground.phase }, { on := 7, ground := Go.Ground.phase }, { on := 8, ground := Go.Ground.phase }, { on := 9, ground := Go.Ground.phase }, { on := 10, ground := Go.Ground.phase }, { on := 11, ground := Go.Ground.phase }, { on := 12, ground := Go.Ground.phase }, { on := 13, ground := Go.Ground.phase }, { on := 14, ground := Go.Ground.phase }, { on := 15, ground := Go.Ground.phase }, { on := 16, ground := Go.Ground.phase }, { on := 17, ground := Go.Ground.phase }, { on := 18, ground := Go.Ground.phase }], guard := none }) rfl (fun K hK => ?_) AllReady.nil
          go_simp
          refine hK _ _ ?_
          clear hK K
          try simp only [List.setIfInBounds_toArray, List.set_cons_zero, List.set_cons_succ]
          refine wpAny_done (by kernel_rfl) ?_ _
          refine bodyPost_end (results_none rfl _ _ _) rfl ?_
          have hb3w : Below w.heap.size w w3 := by rw [hmH.out]; exact hBWH.out.trans (hb3H.out.mono (by omega))
          refine ⟨rfl, .list (z := m + 1) hH.out hb3w ?_ (by have := hn0H.out; have := hmH.out; omega) hsH.out (by rw [ins_len _ _ _ (by rw [hNH.out]; omega), hNH.out]; omega)⟩
          rw [hFF.out, ins_len _ _ _ (by rw [hNH.out]; omega), hNH.out, ← (show k + 1 + (N - k) = N + 1 by omega)]
          exact hr3H.out
        · go_simp
          refine hK _ _ (fun _ => ⟨hQ.out _ b12.out, hS.out _ b12.out⟩) ?_
          clear hK K
          try simp only [Act.put]
          try simp only [List.setIfInBounds_toArray, List.set_cons_zero, List.set_cons_succ]
          refine phased_ready (rs := [8]) (by kernel_rfl) (by simp) ?_
          refine PhReady.cons (o := { dst := some 57, op := Go.Op.call { callee := Go.Callee.builtin Go.Builtin.append, args := #[Go.Operand.tmp 50, Go.Operand.tmp 56], argTypes := #[27, 27] }, type := 27, pos := "ref.go:47", after := #[{ on := 1, ground := Go.Ground.data }, { on := 7, ground := Go.Ground.data }], guard := none }) rfl (fun K hK => ?_) PhReady.nil
          (refine step_app rfl _ _ 27 rfl (m + 1) 73 i0 _ 5 40 Try.underlying27 hi0 hz0 hz1 hz2 rfl (by decide) _ 0 [] (by rfl) (e1H.out.alloc _) (some ⟨g0, 0, none⟩) k c0 F1 (by rfl) hl1H.out (hs1.out _ b12.out) ho1H.out (by omega) (by omega) (Nat.le_trans zX.out b12.out.size) ?_; intro a1 c1 w1 hr1 hg1 _; rw [Nat.zero_add, List.nil_append] at hr1; have hr1H := Lib.hid hr1; have hb1 := below_row (e1H.out.alloc _) b12.out (Nat.le_trans zX.out b12.out.size) hg1; have hb1H := Lib.hid hb1; have p0w1 := hQ.out _ hb1; obtain ⟨n0, n1, n2, n3, n4⟩ := hS.out _ hb1; have z1 : Hid (m + 1 ≤ w1.heap.size) := Lib.hid (Nat.le_trans zX.out hb1.size); have hEl1 := Lib.hid (keep12.out w1 hg1); clear hr1 hg1 hb1)
          try go_simp
          refine hK _ _ (fun _ => ⟨hQ.out _ hb1H.out, hS.out _ hb1H.out⟩) ?_
          clear hK K
          try simp only [Act.put]
          try simp only [List.setIfInBounds_toArray, List.set_cons_zero, List.set_cons_succ]
          refine phased_ready (rs := [11]) (by kernel_rfl) (by simp) ?_
          refine PhReady.cons (o := { dst := some 60, op := Go.Op.call { callee := Go.Callee.builtin Go.Builtin.append, args := #[Go.Operand.tmp 57, Go.Operand.tmp 59], argTypes := #[27, 27] }, type := 27, pos := "ref.go:47", after := #[{ on := 8, ground := Go.Ground.data }, { on := 10, ground := Go.Ground.data }, { on := 8, ground := Go.Ground.chain }], guard := none }) rfl (fun K hK => ?_) PhReady.nil
          (refine step_app rfl _ _ 27 rfl (m + 1) 73 i0 _ 5 40 Try.underlying27 hi0 hz0 hz1 hz2 rfl (by decide) _ k F1 (by rfl) hr1H.out _ 1 1 (rcs (x, y)) (by rfl) rfl (src_blk hEl1.out) (rcs_one (x, y)) (by omega) (by omega) (Nat.le_trans zX.out hb1H.out.size) ?_; intro a2 c2 w2 hr2 hg2 _; have hr2H := Lib.hid hr2; have hb2 := below_row hr1H.out hb1H.out (Nat.le_trans zX.out hb1H.out.size) hg2; have hb2H := Lib.hid hb2; have p0w2 := hQ.out _ hb2; clear hr2 hg2 hb2)
          try go_simp
          refine hK _ _ (fun _ => ⟨hQ.out _ hb2H.out, hS.out _ hb2H.out⟩) ?_
          clear hK K
          try simp only [Act.put]
          try simp only [List.setIfInBounds_toArray, List.set_cons_zero, List.set_cons_succ]
          refine phased_ready (rs := [18]) (by kernel_rfl) (by simp) ?_
          refine PhReady.cons (o := { dst := some 67, op := Go.Op.call { callee := Go.Callee.builtin Go.Builtin.append, args := #[Go.Operand.tmp 60, Go.Operand.tmp 66], argTypes := #[27, 27] }, type := 27, pos := "ref.go:47", after := #[{ on := 11, ground := Go.Ground.data }, { on := 17, ground := Go.Ground.data }, { on := 11, ground := Go.Ground.chain }], guard := none }) rfl (fun K hK => ?_) PhReady.nil
          (refine step_app rfl _ _ 27 rfl (m + 1) 73 i0 _ 5 40 Try.underlying27 hi0 hz0 hz1 hz2 rfl (by decide) _ (k + 1) (F1 ++ rcs (x, y)) (by rfl) hr2H.out (some ⟨g0, k * 5, none⟩) (N - k) _ F3 (by rfl) hl3H.out (hs3.out _ hb2H.out) ho3H.out (by omega) (by omega) (Nat.le_trans zX.out hb2H.out.size) ?_; intro a3 c3 w3 hr3 hg3 _; have hr3H := Lib.hid hr3; have hb3 := below_row hr2H.out hb2H.out (Nat.le_trans zX.out hb2H.out.size) hg3; have hb3H := Lib.hid hb3; have p0w3 := hQ.out _ hb3; have f0w3 := hQf.out _ hb3; clear hr3 hg3 hb3)
          try go_simp
          refine hK _ _ (fun _ => ⟨hQ.out _ hb3H.out, hS.out _ hb3H.out⟩) ?_
          clear hK K
          try simp only [Act.put]
          try simp only [List.setIfInBounds_toArray, List.set_cons_zero, List.set_cons_succ]
          refine phased_of_any _ _ _ _ (by decide) ?_
          refine wpAny_ready (rs := [19]) (by kernel_rfl) (by simp) ?_
          refine AllReady.cons (o := { dst := some 68, op := Go.Op.nilCheck (Go.Operand.tmp 49), type := 0, pos := "ref.go:47", after := #[{ on := 0, ground := Go.Ground.data }, { on := 0, ground := Go.Ground.phase }, { on := 1, ground := Go.Ground.phase }, { on := 2, ground := Go.Ground.phase }, { on := 3, ground := Go.Ground.phase }, { on := 4, ground := Go.Ground.phase }, { on := 5, ground := Go.Ground.phase }, { on := 6, ground := Go.Ground.phase }, { on := 7, ground := Go.Ground.phase }, { on := 8, ground := Go.Ground.phase }, { on := 9, ground := Go.Ground.phase }, { on := 10, ground := Go.Ground.phase }, { on := 11, ground := Go.Ground.phase }, { on := 12, ground := Go.Ground.phase }, { on := 13, ground := Go.Ground.phase }, { on := 14, ground := Go.Ground.phase }, { on := 15, ground := Go.Ground.phase }, { on := 16, ground := Go.Ground.phase }, { on := 17, ground := Go.Ground.phase }, { on := 18, ground := Go.Ground.phase }], guard := none }) rfl (fun K hK => ?_) AllReady.nil
          go_simp
          refine hK _ _ ?_
          clear hK K
          try simp only [List.setIfInBounds_toArray, List.set_cons_zero, List.set_cons_succ]
          refine wpAny_ready (rs := [20]) (by kernel_rfl) (by simp) ?_
          refine AllReady.cons (o := { dst := some 69, op := Go.Op.fieldAddr 30 (Go.Operand.tmp 68) 0, type := 0, pos := "ref.go:47", after := #[{ on := 19, ground := Go.Ground.data }, { on := 0, ground := Go.Ground.phase }, { on := 1, ground := Go.Ground.phase }, { on := 2, ground := Go.Ground.phase }, { on := 3, ground := Go.Ground.phase }, { on := 4, ground := Go.Ground.phase }, { on := 5, ground := Go.Ground.phase }, { on := 6, ground := Go.Ground.phase }, { on := 7, ground := Go.Ground.phase }, { on := 8, ground := Go.Ground.phase }, { on := 9, ground := Go.Ground.phase }, { on := 10, ground := Go.Ground.phase }, { on := 11, ground := Go.Ground.phase }, { on := 12, ground := Go.Ground.phase }, { on := 13, ground := Go.Ground.phase }, { on := 14, ground := Go.Ground.phase }, { on := 15, ground := Go.Ground.phase }, { on := 16, ground := Go.Ground.phase }, { on := 17, ground := Go.Ground.phase }, { on := 18, ground := Go.Ground.phase }], guard := none }) rfl (fun K hK => ?_) AllReady.nil
          go_simp
          refine hK _ _ ?_
          clear hK K
          try simp only [List.setIfInBounds_toArray, List.set_cons_zero, List.set_cons_succ]
          refine wpAny_ready (rs := [21]) (by kernel_rfl) (by simp) ?_
          refine AllReady.cons (o := { dst := none, op := Go.Op.store 27 (Go.Operand.tmp 69) (Go.Operand.tmp 67), type := 0, pos := "ref.go:47", after := #[{ on := 20, ground := Go.Ground.data }, { on := 18, ground := Go.Ground.data }, { on := 18, ground := Go.Ground.chain }, { on := 0, ground := Go.Ground.phase }, { on := 1, ground := Go.Ground.phase }, { on := 2, ground := Go.Ground.phase }, { on := 3, ground := Go.Ground.phase }, { on := 4, ground := Go.Ground.phase }, { on := 5, ground := Go.Ground.phase }, { on := 6, ground := Go.Ground.phase }, { on := 7, ground := Go.Ground.phase }, { on := 8, ground := Go.Ground.phase }, { on := 9, ground := Go.Ground.phase }, { on := 10, ground := Go.Ground.phase }, { on := 11, ground := Go.Ground.phase }, { on := 12, ground := Go.Ground.phase }, { on := 13, ground := Go.Ground.phase }, { on := 14, ground := Go.Ground.phase }, { on := 15, ground := Go.Ground.phase }, { on := 16, ground := Go.Ground.phase }, { on := 17, ground := Go.Ground.phase }, { on := 18, ground := Go.Ground.phase }], guard := none }) rfl (fun K hK => ?_) AllReady.nil
          go_simp
          refine hK _ _ ?_
          clear hK K
          try simp only [List.setIfInBounds_toArray, List.set_cons_zero, List.set_cons_succ]
          refine wpAny_done (by kernel_rfl) ?_ _
          refine bodyPost_end (results_none rfl _ _ _) rfl ?_
          have hb3w : Below w.heap.size w w3 := by rw [hmH.out]; exact hBWH.out.trans (hb3H.out.mono (by omega))
          refine ⟨rfl, .list (z := m + 1) hH.out hb3w ?_ (by have := hn0H.out; have := hmH.out; omega) hsH.out (by rw [ins_len _ _ _ (by rw [hNH.out]; omega), hNH.out]; omega)⟩
          rw [hFF.out, ins_len _ _ _ (by rw [hNH.out]; omega), hNH.out, ← (show k + 1 + (N - k) = N + 1 by omega)]
          exact hr3H.out
      · go_simp
        refine hK _ _ (fun _ => ⟨hQ.out _ b2.out, hS.out _ b2.out⟩) ?_
        clear hK K
        try simp only [Act.put]
        try simp only [List.setIfInBounds_toArray, List.set_cons_zero, List.set_cons_succ]
        refine phased_ready (rs := [1]) (by kernel_rfl) (by simp) ?_
        refine PhReady.cons (o := { dst := some 50, op := Go.Op.buildSlice 27 0 #[], type := 27, pos := "ref.go:47", after := #[], guard := none }) rfl (fun K hK => ?_) PhReady.nil
        go_simp
        refine hK _ _ (fun _ => ⟨hQ.out _ b21.out, hS.out _ b21.out⟩) ?_
        clear hK K
        try simp only [Act.put]
        try simp only [List.setIfInBounds_toArray, List.set_cons_zero, List.set_cons_succ]
        refine phased_ready (rs := [8]) (by kernel_rfl) (by simp) ?_
        refine PhReady.cons (o := { dst := some 57, op := Go.Op.call { callee := Go.Callee.builtin Go.Builtin.append, args := #[Go.Operand.tmp 50, Go.Operand.tmp 56], argTypes := #[27, 27] }, type := 27, pos := "ref.go:47", after := #[{ on := 1, ground := Go.Ground.data }, { on := 7, ground := Go.Ground.data }], guard := none }) rfl (fun K hK => ?_) PhReady.nil
        (refine step_app rfl _ _ 27 rfl (m + 1) 73 i0 _ 5 40 Try.underlying27 hi0 hz0 hz1 hz2 rfl (by decide) _ 0 [] (by rfl) e21H.out (some ⟨g0, 0, none⟩) k c0 F1 (by rfl) hl1H.out (hs1.out _ b21.out) ho1H.out (by omega) (by omega) (Nat.le_trans zX.out b21.out.size) ?_; intro a1 c1 w1 hr1 hg1 _; rw [Nat.zero_add, List.nil_append] at hr1; have hr1H := Lib.hid hr1; have hb1 := below_row e21H.out b21.out (Nat.le_trans zX.out b21.out.size) hg1; have hb1H := Lib.hid hb1; have p0w1 := hQ.out _ hb1; obtain ⟨n0, n1, n2, n3, n4⟩ := hS.out _ hb1; have z1 : Hid (m + 1 ≤ w1.heap.size) := Lib.hid (Nat.le_trans zX.out hb1.size); have hEl1 := Lib.hid (keep21.out w1 hg1); clear hr1 hg1 hb1)
        try go_simp
        refine hK _ _ (fun _ => ⟨hQ.out _ hb1H.out, hS.out _ hb1H.out⟩) ?_
        clear hK K
        try simp only [Act.put]
        try simp only [List.setIfInBounds_toArray, List.set_cons_zero, List.set_cons_succ]
        refine phased_ready (rs := [11]) (by kernel_rfl) (by simp) ?_
        refine PhReady.cons (o := { dst := some 60, op := Go.Op.call { callee := Go.Callee.builtin Go.Builtin.append, args := #[Go.Operand.tmp 57, Go.Operand.tmp 59], argTypes := #[27, 27] }, type := 27, pos := "ref.go:47", after := #[{ on := 8, ground := Go.Ground.data }, { on := 10, ground := Go.Ground.data }, { on := 8, ground := Go.Ground.chain }], guard := none }) rfl (fun K hK => ?_) PhReady.nil
        (refine step_app rfl _ _ 27 rfl (m + 1) 73 i0 _ 5 40 Try.underlying27 hi0 hz0 hz1 hz2 rfl (by decide) _ k F1 (by rfl) hr1H.out _ 1 1 (rcs (x, y)) (by rfl) rfl (src_blk hEl1.out) (rcs_one (x, y)) (by omega) (by omega) (Nat.le_trans zX.out hb1H.out.size) ?_; intro a2 c2 w2 hr2 hg2 _; have hr2H := Lib.hid hr2; have hb2 := below_row hr1H.out hb1H.out (Nat.le_trans zX.out hb1H.out.size) hg2; have hb2H := Lib.hid hb2; have p0w2 := hQ.out _ hb2; clear hr2 hg2 hb2)
        try go_simp
        refine hK _ _ (fun _ => ⟨hQ.out _ hb2H.out, hS.out _ hb2H.out⟩) ?_
        clear hK K
        try simp only [Act.put]
        try simp only [List.setIfInBounds_toArray, List.set_cons_zero, List.set_cons_succ]
        refine phased_ready (rs := [18]) (by kernel_rfl) (by simp) ?_
        refine PhReady.cons (o := { dst := some 67, op := Go.Op.call { callee := Go.Callee.builtin Go.Builtin.append, args := #[Go.Operand.tmp 60, Go.Operand.tmp 66], argTypes := #[27, 27] }, type := 27, pos := "ref.go:47", after := #[{ on := 11, ground := Go.Ground.data }, { on := 17, ground := Go.Ground.data }, { on := 11, ground := Go.Ground.chain }], guard := none }) rfl (fun K hK => ?_) PhReady.nil
        (refine step_app rfl _ _ 27 rfl (m + 1) 73 i0 _ 5 40 Try.underlying27 hi0 hz0 hz1 hz2 rfl (by decide) _ (k + 1) (F1 ++ rcs (x, y)) (by rfl) hr2H.out (some ⟨g0, k * 5, none⟩) (N - k) _ F3 (by rfl) hl3H.out (hs3.out _ hb2H.out) ho3H.out (by omega) (by omega) (Nat.le_trans zX.out hb2H.out.size) ?_; intro a3 c3 w3 hr3 hg3 _; have hr3H := Lib.hid hr3; have hb3 := below_row hr2H.out hb2H.out (Nat.le_trans zX.out hb2H.out.size) hg3; have hb3H := Lib.hid hb3; have p0w3 := hQ.out _ hb3; have f0w3 := hQf.out _ hb3; clear hr3 hg3 hb3)
        try go_simp
        refine hK _ _ (fun _ => ⟨hQ.out _ hb3H.out, hS.out _ hb3H.out⟩) ?_
        clear hK K
        try simp only [Act.put]
        try simp only [List.setIfInBounds_toArray, List.set_cons_zero, List.set_cons_succ]
        refine phased_of_any _ _ _ _ (by decide) ?_
        refine wpAny_ready (rs := [19]) (by kernel_rfl) (by simp) ?_
        refine AllReady.cons (o := { dst := some 68, op := Go.Op.nilCheck (Go.Operand.tmp 49), type := 0, pos := "ref.go:47", after := #[{ on := 0, ground := Go.Ground.data }, { on := 0, ground := Go.Ground.phase }, { on := 1, ground := Go.Ground.phase }, { on := 2, ground := Go.Ground.phase }, { on := 3, ground := Go.Ground.phase }, { on := 4, ground := Go.Ground.phase }, { on := 5, ground := Go.Ground.phase }, { on := 6, ground := Go.Ground.phase }, { on := 7, ground := Go.Ground.phase }, { on := 8, ground := Go.Ground.phase }, { on := 9, ground := Go.Ground.phase }, { on := 10, ground := Go.Ground.phase }, { on := 11, ground := Go.Ground.phase }, { on := 12, ground := Go.Ground.phase }, { on := 13, ground := Go.Ground.phase }, { on := 14, ground := Go.Ground.phase }, { on := 15, ground := Go.Ground.phase }, { on := 16, ground := Go.Ground.phase }, { on := 17, ground := Go.Ground.phase }, { on := 18, ground := Go.Ground.phase }], guard := none }) rfl (fun K hK => ?_) AllReady.nil
        go_simp
        refine hK _ _ ?_
        clear hK K
        try simp only [List.setIfInBounds_toArray, List.set_cons_zero, List.set_cons_succ]
        refine wpAny_ready (rs := [20]) (by kernel_rfl) (by simp) ?_
        refine AllReady.cons (o := { dst := some 69, op := Go.Op.fieldAddr 30 (Go.Operand.tmp 68) 0, type := 0, pos := "ref.go:47", after := #[{ on := 19, ground := Go.Ground.data }, { on := 0, ground := Go.Ground.phase }, { on := 1, ground := Go.Ground.phase }, { on := 2, ground := Go.Ground.phase }, { on := 3, ground := Go.Ground.phase }, { on := 4, ground := Go.Ground.phase }, { on := 5, ground := Go.Ground.phase }, { on := 6, ground := Go.Ground.phase }, { on := 7, ground := Go.Ground.phase }, { on := 8, ground := Go.Ground.phase }, { on := 9, ground := Go.Ground.phase }, { on := 10, ground := Go.Ground.phase }, { on := 11, ground := Go.Ground.phase }, { on := 12, ground := Go.Ground.phase }, { on := 13, ground := Go.Ground.phase }, { on := 14, ground := Go.Ground.phase }, { on := 15, ground := Go.Ground.phase }, { on := 16, ground := Go.Ground.phase }, { on := 17, ground := Go.Ground.phase }, { on := 18, ground := Go.Ground.phase }], guard := none }) rfl (fun K hK => ?_) AllReady.nil
        go_simp
        refine hK _ _ ?_
        clear hK K
        try simp only [List.setIfInBounds_toArray, List.set_cons_zero, List.set_cons_succ]
        refine wpAny_ready (rs := [21]) (by kernel_rfl) (by simp) ?_
        refine AllReady.cons (o := { dst := none, op := Go.Op.store 27 (Go.Operand.tmp 69) (Go.Operand.tmp 67), type := 0, pos := "ref.go:47", after := #[{ on := 20, ground := Go.Ground.data }, { on := 18, ground := Go.Ground.data }, { on := 18, ground := Go.Ground.chain }, { on := 0, ground := Go.Ground.phase }, { on := 1, ground := Go.Ground.phase }, { on := 2, ground := Go.Ground.phase }, { on := 3, ground := Go.Ground.phase }, { on := 4, ground := Go.Ground.phase }, { on := 5, ground := Go.Ground.phase }, { on := 6, ground := Go.Ground.phase }, { on := 7, ground := Go.Ground.phase }, { on := 8, ground := Go.Ground.phase }, { on := 9, ground := Go.Ground.phase }, { on := 10, ground := Go.Ground.phase }, { on := 11, ground := Go.Ground.phase }, { on := 12, ground := Go.Ground.phase }, { on := 13, ground := Go.Ground.phase }, { on := 14, ground := Go.Ground.phase }, { on := 15, ground := Go.Ground.phase }, { on := 16, ground := Go.Ground.phase }, { on := 17, ground := Go.Ground.phase }, { on := 18, ground := Go.Ground.phase }], guard := none }) rfl (fun K hK => ?_) AllReady.nil
        go_simp
        refine hK _ _ ?_
        clear hK K
        try simp only [List.setIfInBounds_toArray, List.set_cons_zero, List.set_cons_succ]
        refine wpAny_done (by kernel_rfl) ?_ _
        refine bodyPost_end (results_none rfl _ _ _) rfl ?_
        have hb3w : Below w.heap.size w w3 := by rw [hmH.out]; exact hBWH.out.trans (hb3H.out.mono (by omega))
        refine ⟨rfl, .list (z := m + 1) hH.out hb3w ?_ (by have := hn0H.out; have := hmH.out; omega) hsH.out (by rw [ins_len _ _ _ (by rw [hNH.out]; omega), hNH.out]; omega)⟩
        rw [hFF.out, ins_len _ _ _ (by rw [hNH.out]; omega), hNH.out, ← (show k + 1 + (N - k) = N + 1 by omega)]
        exact hr3H.out
end Go.Proofs.Ytklepnldoajghaa
