/- A token behind the others. No condition. -/
import Derived.Test.YtnhbcmhinhncfaaGreatDoorLxA
namespace Go.Proofs.YtnhbcmhinhncfaaGreatDoor
open Go.RowKit Go.PlainAid
attribute [local go_sem] Oper.semAt_some

/-- A token, as its five cells. -/
structure Tk where
  kind : Int
  text : ByteArray
  place : Nat
  doc : ByteArray
  raw : Bool
deriving DecidableEq
def Tk.cells (t : Tk) : List Value := [.int .i64 t.kind, .string t.text, .int .i64 t.place, .string t.doc, .bool t.raw]
def tv (ts : List Tk) : List Value := ts.flatMap Tk.cells
theorem tv_len (ts : List Tk) : (tv ts).length = ts.length * 5 := by
  induction ts with
  | nil => rfl
  | cons p ps ih => simp only [tv, List.flatMap_cons, List.length_append, List.length_cons] at ih ⊢; rw [ih]; simp [Tk.cells]; omega
theorem tv_app (ts : List Tk) (p : Tk) : tv (ts ++ [p]) = tv ts ++ p.cells := by simp [tv]

/-- A reader's block: the text, the place, the tokens' header, the delimiters' header. -/
abbrev rdC (s : ByteArray) (i : Nat) (a0 : Option Addr) (n0 c0 : Nat) (a1 : Option Addr) (n1 c1 : Nat) : Array Value := #[.string s, .int .i64 i, .slice a0 n0 c0, .slice a1 n1 c1]
theorem infoTk : (Tryz.prog.info? 58).map (fun i => (i.zero, i.size, i.bytes)) = some (some (.agg #[.int .i64 0, .string ⟨#[]⟩, .int .i64 0, .string ⟨#[]⟩, .bool false]), 5, 56) := by kernel_rfl
theorem Fr.refl (b : Nat) (v : Option Nat) (w : World) : Fr b v w w := ⟨rfl, rfl, rfl, Nat.le_refl _, fun _ _ _ _ => rfl⟩

section
variable {s : ByteArray} {i kind size b n₀ gg cap n1 c1 c0 : Nat} {a0 a1 : Option Addr} {ts : List Tk} {w w1 : World}
theorem tokA (hB : Blk w1 b 92 (rdC s i a0 ts.length c0 a1 n1 c1)) (hr : w1.ownsRow n₀ 58 5 (.slice (some ⟨gg, 0, none⟩) (ts.length + 1) cap) (ts.length + 1) (tv ts ++ [.int .i64 kind, .string (s.extract i (i + size)), .int .i64 i, .string ⟨#[]⟩, .bool false])) (hF : Fr b (Value.ownBlock (.slice a0 ts.length c0)) w w1) (hgb : b ≠ gg) (hat : Value.ownBlock (.slice a0 ts.length c0) = some gg ∨ w.heap.size ≤ gg) :
    ∃ a2 c2, (∀ k, Value.ownBlock (.slice a2 (ts.length + 1) c2) = some k → Value.ownBlock (.slice a0 ts.length c0) = some k ∨ w.heap.size ≤ k) ∧ Blk ((w1.setCell ⟨b, 2, none⟩ (.slice (some ⟨gg, 0, none⟩) (ts.length + 1) cap)).setCell ⟨b, 1, none⟩ (.int .i64 ((i + size : Nat) : Int))) b 92 (rdC s (i + size) a2 (ts.length + 1) c2 a1 n1 c1) ∧
      ((w1.setCell ⟨b, 2, none⟩ (.slice (some ⟨gg, 0, none⟩) (ts.length + 1) cap)).setCell ⟨b, 1, none⟩ (.int .i64 ((i + size : Nat) : Int))).ownsRow n₀ 58 5 (.slice a2 (ts.length + 1) c2) (ts.length + 1) (tv (ts ++ [⟨kind, s.extract i (i + size), i, ⟨#[]⟩, false⟩])) ∧
      Fr b (Value.ownBlock (.slice a0 ts.length c0)) w ((w1.setCell ⟨b, 2, none⟩ (.slice (some ⟨gg, 0, none⟩) (ts.length + 1) cap)).setCell ⟨b, 1, none⟩ (.int .i64 ((i + size : Nat) : Int))) := by
  refine ⟨some ⟨gg, 0, none⟩, cap, (fun k hk' => (show gg = k by simpa [Value.ownBlock] using hk') ▸ hat), (hB.set_ 2 _).set_ 1 _, ?_, (hF.set_ _).set_ _⟩
  rw [tv_app]
  exact row_keep hr (fun g hg => by
    obtain rfl : gg = g := by simpa [Value.ownBlock] using hg
    exact (Below.heap_setCell _ _ _ _ (Ne.symm hgb)).trans (Below.heap_setCell _ _ _ _ (Ne.symm hgb)))
end

set_option maxRecDepth 100000 in
set_option maxHeartbeats 6400000 in
theorem token_any (s : ByteArray) (i kind size b n₀ : Nat) (a0 a1 : Option Addr) (c0 n1 c1 : Nat) (ts : List Tk) (w : World)
    (hB : Blk w b 92 (rdC s i a0 ts.length c0 a1 n1 c1)) (hrow : w.ownsRow n₀ 58 5 (.slice a0 ts.length c0) ts.length (tv ts)) (hlen : ts.length < 100000) (hs : s.size ≤ 100000) (hi : i + size ≤ s.size) (hn : n₀ ≤ w.heap.size) :
    Calls Tryz.prog 55 #[.pointer (some ⟨b, 0, none⟩), .int .i64 kind, .int .i64 size] w fun e w' => e = .returned (.tuple #[]) ∧ ∃ a2 c2, (∀ k, Value.ownBlock (.slice a2 (ts.length + 1) c2) = some k → Value.ownBlock (.slice a0 ts.length c0) = some k ∨ w.heap.size ≤ k) ∧ Blk w' b 92 (rdC s (i + size) a2 (ts.length + 1) c2 a1 n1 c1) ∧
      w'.ownsRow n₀ 58 5 (.slice a2 (ts.length + 1) c2) (ts.length + 1) (tv (ts ++ [⟨kind, s.extract i (i + size), i, ⟨#[]⟩, false⟩])) ∧ Fr b (Value.ownBlock (.slice a0 ts.length c0)) w w' := by
  obtain ⟨i0, hi0, hz0, hz1, hz2⟩ := info_parts infoTk
  have hwr : IntKind.i64.wrap ((i : Int) + (size : Int)) = (i : Int) + (size : Int) := IntWalk.i64_in _ (by omega)
  have hi1 : (0 : Int) ≤ (i : Int) + (size : Int) := by omega
  have hi2 : (i : Int) + (size : Int) ≤ (s.size : Int) := by omega
  have hi3 : (i : Int) ≤ (i : Int) + (size : Int) := by omega
  have hi4 : ((i : Int) + (size : Int)).toNat = i + size := by omega
  have hoff := row_off hB (by decide) hrow
  have hlt := hB.lt
  have x0 : w.drew.cell? ⟨b, 0, none⟩ = some (.string s) := hB.cell 0
  have x1 : w.drew.cell? ⟨b, 1, none⟩ = some (.int .i64 i) := hB.cell 1
  have k1 : w.drew.cell? ⟨b, 2, none⟩ = some (.slice a0 ts.length c0) := hB.cell 2
  have hB0 := Lib.hid hB
  have hr0 := Lib.hid hrow
  clear hB hrow
  have hbl : b < w.drew.heap.size := hlt
  have hbl2 : ∀ o, b < (w.drew.alloc o).heap.size := fun o => by rw [World.size_alloc]; omega
  have hW9 : ∀ o, (w.alloc o).drew.heap.size = w.heap.size + 1 := fun o => by show (w.alloc o).heap.size = _; rw [World.size_alloc]
  have z0 : (w.alloc (.cells #[.int .i64 kind, .string (s.extract i (i + size)), .int .i64 i, .string ⟨#[]⟩, .bool false] 58)).drew.cell? ⟨b, 0, none⟩ = some (.string s) := cell_al hbl x0
  have z1 : (w.alloc (.cells #[.int .i64 kind, .string (s.extract i (i + size)), .int .i64 i, .string ⟨#[]⟩, .bool false] 58)).drew.cell? ⟨b, 1, none⟩ = some (.int .i64 i) := cell_al hbl x1
  have k2 : (w.alloc (.cells #[.int .i64 kind, .string (s.extract i (i + size)), .int .i64 i, .string ⟨#[]⟩, .bool false] 58)).drew.cell? ⟨b, 2, none⟩ = some (.slice a0 ts.length c0) := cell_al hbl k1
  go_enter Tryz.func55, Tryz.ntmps55
  go_wp2_with fail
  refine wp_region_noPanic ?_
  refine wp_region_held_drew (S := (fun w' => w'.cell? ⟨b, 0, none⟩ = some (.string s) ∧ w'.cell? ⟨b, 1, none⟩ = some (.int .i64 i))) (by kernel_rfl) ⟨x0, x1⟩ (fun hHeld => ?_)
  refine wpAnyH_take (i := 0) (v := ?_) rfl (by kernel_rfl) (by kernel_rfl) (by kernel_rfl) (fun _ _ _ h => h) (Or.inl ⟨by rfl, ?_⟩) hHeld ?_
  rotate_left
  · intro w hSw
    try dsimp only at hSw
    go_simp
    try with_reducible rfl
  simp only [Act.put, List.setIfInBounds_toArray]
  refine wpAnyH_take (i := 1) (v := ?_) rfl (by kernel_rfl) (by kernel_rfl) (by kernel_rfl) (fun _ _ _ h => h) (Or.inl ⟨by rfl, ?_⟩) hHeld ?_
  rotate_left
  · intro w hSw
    try dsimp only at hSw
    go_simp
    try with_reducible rfl
  simp only [Act.put]
  refine wpAnyH_take (i := 2) (v := ?_) rfl (by kernel_rfl) (by kernel_rfl) (by kernel_rfl) (fun _ _ _ h => h) (Or.inl ⟨by rfl, ?_⟩) hHeld ?_
  rotate_left
  · intro w hSw
    try dsimp only at hSw
    go_simp
    try with_reducible rfl
  simp only [Act.put]
  refine wpAnyH_take (i := 3) (v := ?_) rfl (by kernel_rfl) (by kernel_rfl) (by kernel_rfl) (fun _ _ _ h => h) (Or.inl ⟨by rfl, ?_⟩) hHeld ?_
  rotate_left
  · intro w hSw
    try dsimp only at hSw
    go_simp
    try with_reducible rfl
  simp only [Act.put]
  refine wpAnyH_take (i := 5) (v := ?_) rfl (by kernel_rfl) (by kernel_rfl) (by kernel_rfl) (fun _ _ _ h => h) (Or.inl ⟨by rfl, ?_⟩) hHeld ?_
  rotate_left
  · intro w hSw
    try dsimp only at hSw
    go_simp
    try with_reducible rfl
  simp only [Act.put]
  refine wpAnyH_take (i := 6) (v := ?_) rfl (by kernel_rfl) (by kernel_rfl) (by kernel_rfl) (fun _ _ _ h => h) (Or.inl ⟨by rfl, ?_⟩) hHeld ?_
  rotate_left
  · intro w hSw
    try dsimp only at hSw
    go_simp
    try with_reducible rfl
  simp only [Act.put]
  refine wpAnyH_take (i := 7) (v := ?_) rfl (by kernel_rfl) (by kernel_rfl) (by kernel_rfl) (fun _ _ _ h => h) (Or.inl ⟨by rfl, ?_⟩) hHeld ?_
  rotate_left
  · intro w hSw
    try dsimp only at hSw
    go_simp
    try with_reducible rfl
  simp only [Act.put]
  refine wpAnyH_take (i := 8) (v := ?_) rfl (by kernel_rfl) (by kernel_rfl) (by kernel_rfl) (fun _ _ _ h => h) (Or.inl ⟨by rfl, ?_⟩) hHeld ?_
  rotate_left
  · intro w hSw
    try dsimp only at hSw
    go_simp
    try with_reducible rfl
  simp only [Act.put]
  refine wpAnyH_take (i := 9) (v := ?_) rfl (by kernel_rfl) (by kernel_rfl) (by kernel_rfl) (fun _ _ _ h => h) (Or.inl ⟨by rfl, ?_⟩) hHeld ?_
  rotate_left
  · intro w hSw
    try dsimp only at hSw
    go_simp
    try with_reducible rfl
  simp only [Act.put]
  refine wpAnyH_take (i := 10) (v := ?_) rfl (by kernel_rfl) (by kernel_rfl) (by kernel_rfl) (fun _ _ _ h => h) (Or.inl ⟨by rfl, ?_⟩) hHeld ?_
  rotate_left
  · intro w hSw
    try dsimp only at hSw
    go_simp
    try with_reducible rfl
  simp only [Act.put]
  refine wpAnyH_take (i := 11) (v := ?_) rfl (by kernel_rfl) (by kernel_rfl) (by kernel_rfl) (fun _ _ _ h => h) (Or.inl ⟨by rfl, ?_⟩) hHeld ?_
  rotate_left
  · intro w hSw
    try dsimp only at hSw
    go_simp
    try with_reducible rfl
  simp only [Act.put]
  refine wpAnyH_take (i := 12) (v := ?_) rfl (by kernel_rfl) (by kernel_rfl) (by kernel_rfl) (fun _ _ _ h => h) (Or.inl ⟨by rfl, ?_⟩) hHeld ?_
  rotate_left
  · intro w hSw
    try dsimp only at hSw
    go_simp
    try with_reducible rfl
  simp only [Act.put]
  refine wpAnyH_take (i := 13) (v := ?_) rfl (by kernel_rfl) (by kernel_rfl) (by kernel_rfl) (fun _ _ _ h => h) (Or.inl ⟨by rfl, ?_⟩) hHeld ?_
  rotate_left
  · intro w hSw
    try dsimp only at hSw
    go_simp
    try with_reducible rfl
  simp only [Act.put]
  refine wpAnyH_take (i := 14) (v := ?_) rfl (by kernel_rfl) (by kernel_rfl) (by kernel_rfl) (fun _ _ _ h => h) (Or.inl ⟨by rfl, ?_⟩) hHeld ?_
  rotate_left
  · intro w hSw
    try dsimp only at hSw
    go_simp
    try with_reducible rfl
  simp only [Act.put]
  refine wpAnyH_take (i := 15) (v := ?_) rfl (by kernel_rfl) (by kernel_rfl) (by kernel_rfl) (fun _ _ _ h => h) (Or.inl ⟨by rfl, ?_⟩) hHeld ?_
  rotate_left
  · intro w hSw
    try dsimp only at hSw
    go_simp
    try with_reducible rfl
  simp only [Act.put]
  refine wpAnyH_take (i := 16) (v := ?_) rfl (by kernel_rfl) (by kernel_rfl) (by kernel_rfl) (fun _ _ _ h => h) (Or.inl ⟨by rfl, ?_⟩) hHeld ?_
  rotate_left
  · intro w hSw
    try dsimp only at hSw
    go_simp
    try with_reducible rfl
  simp only [Act.put]
  refine wpAnyH_take (i := 17) (v := ?_) rfl (by kernel_rfl) (by kernel_rfl) (by kernel_rfl) (fun _ _ _ h => h) (Or.inl ⟨by rfl, ?_⟩) hHeld ?_
  rotate_left
  · intro w hSw
    try dsimp only at hSw
    go_simp
    try with_reducible rfl
  simp only [Act.put]
  refine wpAnyH_take (i := 18) (v := ?_) rfl (by kernel_rfl) (by kernel_rfl) (by kernel_rfl) (fun _ _ _ h => h) (Or.inl ⟨by rfl, ?_⟩) hHeld ?_
  rotate_left
  · intro w hSw
    try dsimp only at hSw
    go_simp
    try with_reducible rfl
  simp only [Act.put]
  refine wpAnyH_take (i := 19) (v := ?_) rfl (by kernel_rfl) (by kernel_rfl) (by kernel_rfl) (fun _ _ _ h => h) (Or.inl ⟨by rfl, ?_⟩) hHeld ?_
  rotate_left
  · intro w hSw
    try dsimp only at hSw
    go_simp
    try with_reducible rfl
  simp only [Act.put]
  refine wpAnyH_take (i := 20) (v := ?_) rfl (by kernel_rfl) (by kernel_rfl) (by kernel_rfl) (fun _ _ _ h => h) (Or.inl ⟨by rfl, ?_⟩) hHeld ?_
  rotate_left
  · intro w hSw
    try dsimp only at hSw
    go_simp
    try with_reducible rfl
  simp only [Act.put]
  refine wpAnyH_take (i := 21) (v := ?_) rfl (by kernel_rfl) (by kernel_rfl) (by kernel_rfl) (fun _ _ _ h => h) (Or.inl ⟨by rfl, ?_⟩) hHeld ?_
  rotate_left
  · intro w hSw
    try dsimp only at hSw
    go_simp
    try with_reducible rfl
  simp only [Act.put]
  refine wpAnyH_take (i := 22) (v := ?_) rfl (by kernel_rfl) (by kernel_rfl) (by kernel_rfl) (fun _ _ _ h => h) (Or.inl ⟨by rfl, ?_⟩) hHeld ?_
  rotate_left
  · intro w hSw
    try dsimp only at hSw
    go_simp
    try with_reducible rfl
  simp only [Act.put]
  refine wpAnyH_take (i := 23) (v := ?_) rfl (by kernel_rfl) (by kernel_rfl) (by kernel_rfl) (fun _ _ _ h => h) (Or.inl ⟨by rfl, ?_⟩) hHeld ?_
  rotate_left
  · intro w hSw
    try dsimp only at hSw
    go_simp
    try with_reducible rfl
  simp only [Act.put]
  refine wpAnyH_take (i := 24) (v := ?_) rfl (by kernel_rfl) (by kernel_rfl) (by kernel_rfl) (fun _ _ _ h => h) (Or.inl ⟨by rfl, ?_⟩) hHeld ?_
  rotate_left
  · intro w hSw
    try dsimp only at hSw
    go_simp
    try with_reducible rfl
  simp only [Act.put]
  refine wpAnyH_take (i := 25) (v := ?_) rfl (by kernel_rfl) (by kernel_rfl) (by kernel_rfl) (fun _ _ _ h => h) (Or.inl ⟨by rfl, ?_⟩) hHeld ?_
  rotate_left
  · intro w hSw
    try dsimp only at hSw
    go_simp
    try with_reducible rfl
  simp only [Act.put]
  refine wpAnyH_ready (rs := [4, 26]) (by kernel_rfl) (by simp) ?_
  refine AllReadyH.cons rfl (fun K hK => ?_) (AllReadyH.cons rfl (fun K hK => ?_) AllReadyH.nil)
  · clear hHeld
    go_simp
    refine hK.out _ _ ⟨x0, x1⟩ (fun hHeld => ?_)
    clear hK K
    try simp only [Act.put, List.setIfInBounds_toArray, List.set_cons_zero, List.set_cons_succ]
    refine wpAnyH_ready (rs := [26]) (by kernel_rfl) (by simp) ?_
    refine AllReadyH.cons rfl (fun K hK => ?_) AllReadyH.nil
    clear hHeld
    go_simp
    refine hK.out _ _ ⟨z0, z1⟩ (fun hHeld => ?_)
    clear hK K
    try simp only [Act.put, List.setIfInBounds_toArray, List.set_cons_zero, List.set_cons_succ]
    refine wpAnyH_ready (rs := [27]) (by kernel_rfl) (by simp) ?_
    refine AllReadyH.cons (o := { dst := some 33, op := .call { callee := .builtin .append, args := #[.tmp 10, .tmp 32], argTypes := #[54, 54] }, type := 54, pos := "reader.go:53", after := #[{ on := 4, ground := .data }, { on := 26, ground := .data }], guard := none }) rfl (fun K hK => ?_) AllReadyH.nil
    clear hHeld
    refine step_append_lies _ (by rfl) _ _ _ (by rfl) n₀ 58 i0 _ 5 56 Tryz.underlying54 hi0 hz0 hz1 hz2 rfl (by omega) (.slice a0 ts.length c0) ts.length (tv ts) (by rfl) (World.ownsRow.alloc (show World.ownsRow w.drew _ _ _ _ _ _ from hr0.out) _)
      ⟨w.heap.size, 0, none⟩ 1 1 [.int .i64 kind, .string (s.extract i (i + size)), .int .i64 i, .string ⟨#[]⟩, .bool false] (by rfl) (by rfl) (World.news_of_block (cs := #[.int .i64 kind, .string (s.extract i (i + size)), .int .i64 i, .string ⟨#[]⟩, .bool false]) (t := 58) (fr := (0, 0)) (heap_alloc_new w.drew _)) (by simp [Value.oneCell'])
      (by omega) (by unfold maxLen; omega) (by omega) (by rw [hW9]; omega) (w.heap.size + 1) (hW9 _) ?_
    intro gg cap w1 hown1 hgrow hat hlt1
    have y0 := (hgrow.cell_far _ (hbl2 _) hoff).trans z0
    have y1 := (hgrow.cell_far _ (hbl2 _) hoff).trans z1
    have hB9 : Blk w1 b 92 (rdC s i a0 ts.length c0 a1 n1 c1) := (hgrow.block b (hbl2 _) hoff).trans ((Below.heap_alloc w.drew _ b hbl).trans hB0.out)
    have hF9 : Fr b (Value.ownBlock (.slice a0 ts.length c0)) w w1 := ⟨hgrow.os, hgrow.tape, hgrow.output, Nat.le_trans (by rw [hW9]; omega) hgrow.size, fun k hk _ hne => (hgrow.block k (by rw [hW9]; omega) hne).trans (Below.heap_alloc w.drew _ k hk)⟩
    have hgb : b ≠ gg := gg_ne hoff hat (by omega)
    have u2 : w1.frozen? ⟨b, 2, none⟩ = false := hB9.frozen 2
    have v0 : (w1.setCell ⟨b, 2, none⟩ (.slice (some ⟨gg, 0, none⟩) (ts.length + 1) cap)).cell? ⟨b, 0, none⟩ = some (.string s) := (hB9.set_ 2 _).cell 0
    have v1 : (w1.setCell ⟨b, 2, none⟩ (.slice (some ⟨gg, 0, none⟩) (ts.length + 1) cap)).cell? ⟨b, 1, none⟩ = some (.int .i64 i) := (hB9.set_ 2 _).cell 1
    have v3 : (w1.setCell ⟨b, 2, none⟩ (.slice (some ⟨gg, 0, none⟩) (ts.length + 1) cap)).frozen? ⟨b, 1, none⟩ = false := (hB9.set_ 2 _).frozen 1
    have u3 : w1.cell? ⟨b, 2, none⟩ = some (.slice a0 ts.length c0) := hB9.cell 2
    refine hK.out _ _ ⟨y0, y1⟩ (fun hHeld => ?_)
    clear hK K
    try simp only [Act.put, List.setIfInBounds_toArray, List.set_cons_zero, List.set_cons_succ]
    refine wpAnyH_take (i := 28) (v := ?_) rfl (by kernel_rfl) (by kernel_rfl) (by kernel_rfl) (fun _ _ _ h => h) (Or.inl ⟨by rfl, ?_⟩) hHeld ?_
    rotate_left
    · intro w hSw
      try dsimp only at hSw
      go_simp
      try with_reducible rfl
    simp only [Act.put, List.setIfInBounds_toArray]
    refine wpAnyH_take (i := 29) (v := ?_) rfl (by kernel_rfl) (by kernel_rfl) (by kernel_rfl) (fun _ _ _ h => h) (Or.inl ⟨by rfl, ?_⟩) hHeld ?_
    rotate_left
    · intro w hSw
      try dsimp only at hSw
      go_simp
      try with_reducible rfl
    simp only [Act.put]
    refine wpAnyH_ready (rs := [30]) (by kernel_rfl) (by simp) ?_
    refine AllReadyH.cons rfl (fun K hK => ?_) AllReadyH.nil
    clear hHeld
    go_simp
    refine hK.out _ _ ⟨v0, v1⟩ (fun hHeld => ?_)
    clear hK K
    try simp only [Act.put, List.setIfInBounds_toArray, List.set_cons_zero, List.set_cons_succ]
    refine wpAnyH_done (by kernel_rfl) ?_ _
    refine NoPanic.normal ?_
    go_wp2
    go_end0
    refine ⟨rfl, ?_⟩
    exact tokA hB9 hown1 hF9 hgb (hat.imp id (fun e => by omega))
  · clear hHeld
    go_simp
    refine hK.out _ _ ⟨z0, z1⟩ (fun hHeld => ?_)
    clear hK K
    try simp only [Act.put, List.setIfInBounds_toArray, List.set_cons_zero, List.set_cons_succ]
    refine wpAnyH_ready (rs := [4]) (by kernel_rfl) (by simp) ?_
    refine AllReadyH.cons rfl (fun K hK => ?_) AllReadyH.nil
    clear hHeld
    go_simp
    refine hK.out _ _ ⟨z0, z1⟩ (fun hHeld => ?_)
    clear hK K
    try simp only [Act.put, List.setIfInBounds_toArray, List.set_cons_zero, List.set_cons_succ]
    refine wpAnyH_ready (rs := [27]) (by kernel_rfl) (by simp) ?_
    refine AllReadyH.cons (o := { dst := some 33, op := .call { callee := .builtin .append, args := #[.tmp 10, .tmp 32], argTypes := #[54, 54] }, type := 54, pos := "reader.go:53", after := #[{ on := 4, ground := .data }, { on := 26, ground := .data }], guard := none }) rfl (fun K hK => ?_) AllReadyH.nil
    clear hHeld
    refine step_append_lies _ (by rfl) _ _ _ (by rfl) n₀ 58 i0 _ 5 56 Tryz.underlying54 hi0 hz0 hz1 hz2 rfl (by omega) (.slice a0 ts.length c0) ts.length (tv ts) (by rfl) (World.ownsRow.alloc (show World.ownsRow w.drew _ _ _ _ _ _ from hr0.out) _)
      ⟨w.heap.size, 0, none⟩ 1 1 [.int .i64 kind, .string (s.extract i (i + size)), .int .i64 i, .string ⟨#[]⟩, .bool false] (by rfl) (by rfl) (World.news_of_block (cs := #[.int .i64 kind, .string (s.extract i (i + size)), .int .i64 i, .string ⟨#[]⟩, .bool false]) (t := 58) (fr := (0, 0)) (heap_alloc_new w.drew _)) (by simp [Value.oneCell'])
      (by omega) (by unfold maxLen; omega) (by omega) (by rw [hW9]; omega) (w.heap.size + 1) (hW9 _) ?_
    intro gg cap w1 hown1 hgrow hat hlt1
    have y0 := (hgrow.cell_far _ (hbl2 _) hoff).trans z0
    have y1 := (hgrow.cell_far _ (hbl2 _) hoff).trans z1
    have hB9 : Blk w1 b 92 (rdC s i a0 ts.length c0 a1 n1 c1) := (hgrow.block b (hbl2 _) hoff).trans ((Below.heap_alloc w.drew _ b hbl).trans hB0.out)
    have hF9 : Fr b (Value.ownBlock (.slice a0 ts.length c0)) w w1 := ⟨hgrow.os, hgrow.tape, hgrow.output, Nat.le_trans (by rw [hW9]; omega) hgrow.size, fun k hk _ hne => (hgrow.block k (by rw [hW9]; omega) hne).trans (Below.heap_alloc w.drew _ k hk)⟩
    have hgb : b ≠ gg := gg_ne hoff hat (by omega)
    have u2 : w1.frozen? ⟨b, 2, none⟩ = false := hB9.frozen 2
    have v0 : (w1.setCell ⟨b, 2, none⟩ (.slice (some ⟨gg, 0, none⟩) (ts.length + 1) cap)).cell? ⟨b, 0, none⟩ = some (.string s) := (hB9.set_ 2 _).cell 0
    have v1 : (w1.setCell ⟨b, 2, none⟩ (.slice (some ⟨gg, 0, none⟩) (ts.length + 1) cap)).cell? ⟨b, 1, none⟩ = some (.int .i64 i) := (hB9.set_ 2 _).cell 1
    have v3 : (w1.setCell ⟨b, 2, none⟩ (.slice (some ⟨gg, 0, none⟩) (ts.length + 1) cap)).frozen? ⟨b, 1, none⟩ = false := (hB9.set_ 2 _).frozen 1
    have u3 : w1.cell? ⟨b, 2, none⟩ = some (.slice a0 ts.length c0) := hB9.cell 2
    refine hK.out _ _ ⟨y0, y1⟩ (fun hHeld => ?_)
    clear hK K
    try simp only [Act.put, List.setIfInBounds_toArray, List.set_cons_zero, List.set_cons_succ]
    refine wpAnyH_take (i := 28) (v := ?_) rfl (by kernel_rfl) (by kernel_rfl) (by kernel_rfl) (fun _ _ _ h => h) (Or.inl ⟨by rfl, ?_⟩) hHeld ?_
    rotate_left
    · intro w hSw
      try dsimp only at hSw
      go_simp
      try with_reducible rfl
    simp only [Act.put, List.setIfInBounds_toArray]
    refine wpAnyH_take (i := 29) (v := ?_) rfl (by kernel_rfl) (by kernel_rfl) (by kernel_rfl) (fun _ _ _ h => h) (Or.inl ⟨by rfl, ?_⟩) hHeld ?_
    rotate_left
    · intro w hSw
      try dsimp only at hSw
      go_simp
      try with_reducible rfl
    simp only [Act.put]
    refine wpAnyH_ready (rs := [30]) (by kernel_rfl) (by simp) ?_
    refine AllReadyH.cons rfl (fun K hK => ?_) AllReadyH.nil
    clear hHeld
    go_simp
    refine hK.out _ _ ⟨v0, v1⟩ (fun hHeld => ?_)
    clear hK K
    try simp only [Act.put, List.setIfInBounds_toArray, List.set_cons_zero, List.set_cons_succ]
    refine wpAnyH_done (by kernel_rfl) ?_ _
    refine NoPanic.normal ?_
    go_wp2
    go_end0
    refine ⟨rfl, ?_⟩
    exact tokA hB9 hown1 hF9 hgb (hat.imp id (fun e => by omega))
end Go.Proofs.YtnhbcmhinhncfaaGreatDoor
