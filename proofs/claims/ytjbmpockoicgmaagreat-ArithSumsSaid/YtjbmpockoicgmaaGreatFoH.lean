/- The worker over form: the maker's methods; value, between, logic. Condition: it lies as stated. -/
import Derived.Test.YtjbmpockoicgmaaGreatFoG
import Derived.Defers
import Derived.BigQuiet
import Derived.Laws.ResultCell
import Derived.Deep.RegionHeld3
namespace Go.Proofs.YtjbmpockoicgmaaGreat.F
open Go.RowKit Go.Shelf Go.PlainAid
set_option linter.unusedVariables false
set_option linter.unusedSimpArgs false
attribute [local go_sem] Oper.semAt_some

/-- Nothing, as a value; a block of nothing. -/
abbrev un : Value := .agg #[]
abbrev o49 : Obj := .cells #[] 49
theorem ld49 (w : World) (a : Addr) : (loadVar 49 a).run Tryz.prog w = .ok un w := by kernel_rfl
theorem st49 (w : World) (a : Addr) : (storeVar 49 a un).run Tryz.prog w = .ok () w := by kernel_rfl
theorem as49 (a : Addr) (w : World) : (asAddr (.pointer (some a))).run Tryz.prog w = .ok a w := by kernel_rfl
theorem results49 {fn : Func} {p : Tmp} (h : fn.results = #[.cell p 49]) (tmps : Array Value) (a : Addr) (hp : tmps.getD p undef = .pointer (some a)) (w : World) : (results fn tmps).run Tryz.prog w = .ok un w := by
  have hp' : tmps[p]?.getD undef = .pointer (some a) := by simpa using hp
  simp [results, h, hp', asAddr, ld49]
theorem results49t {fn : Func} {p u : Tmp} (h : fn.results = #[.cell p 49, .tmp u]) (tmps : Array Value) (a : Addr) (hp : tmps.getD p undef = .pointer (some a)) (w : World) : (results fn tmps).run Tryz.prog w = .ok (.tuple #[un, tmps.getD u undef]) w := by
  have hp' : tmps[p]?.getD undef = .pointer (some a) := by simpa using hp
  simp [results, h, hp', asAddr, ld49]
theorem bAl (w : World) : Below w.heap.size w (w.alloc o49) := alB _ _
theorem belAl {w W : World} (h : Below w.heap.size w W) (o : Obj) : Below w.heap.size w (W.alloc o) := h.alloc h.size o
section
variable {b G np : Nat} {S : Nat → Prop} {w : World} {s : Ws Nm}
set_option maxRecDepth 100000 in
theorem number_f (x : Int) (w : World) : Calls Tryz.prog 121 #[un, .int .i64 x] w fun e w' => e = .returned un ∧ Below w.heap.size w w' := by
  have h49 := ld49
  have s49 := st49
  go_enter Tryz.func121, Tryz.ntmps121
  go_wp2
  refine bodyPost_ret (results49 rfl _ _ rfl _) rfl ⟨rfl, ?_⟩
  exact belAl (alB _ _) _
set_option maxRecDepth 100000 in
theorem value_f (nm : ByteArray) (w : World) : Calls Tryz.prog 123 #[un, .string nm] w fun e w' => e = .returned (.tuple #[un, .int .i64 0]) ∧ Below w.heap.size w w' := by
  have h49 := ld49
  have s49 := st49
  go_enter Tryz.func123, Tryz.ntmps123
  go_wp2
  refine bodyPost_ret (results49t rfl _ _ rfl _) rfl ⟨rfl, ?_⟩
  exact belAl (alB _ _) _
set_option maxRecDepth 100000 in
theorem ahead_f (nm : ByteArray) (w : World) : Calls Tryz.prog 118 #[un, .string nm, un] w fun e w' => e = .returned un ∧ Below w.heap.size w w' := by
  have h49 := ld49
  have s49 := st49
  go_enter Tryz.func118, Tryz.ntmps118
  go_wp2
  refine bodyPost_ret (results49 rfl _ _ rfl _) rfl ⟨rfl, ?_⟩
  exact belAl (belAl (alB _ _) _) _
set_option maxRecDepth 100000 in
theorem between_f (nm : ByteArray) (w : World) : Calls Tryz.prog 120 #[un, .string nm, un, un] w fun e w' => e = .returned (.tuple #[un, .int .i64 0]) ∧ Below w.heap.size w w' := by
  have h49 := ld49
  have s49 := st49
  go_enter Tryz.func120, Tryz.ntmps120
  go_wp2
  refine bodyPost_ret (results49t rfl _ _ rfl _) rfl ⟨rfl, ?_⟩
  exact belAl (belAl (belAl (alB _ _) _) _) _
set_option maxRecDepth 100000 in
theorem truth_f (w : World) : Calls Tryz.prog 122 #[un, un] w fun e w' => e = .returned (.bool false) ∧ Below w.heap.size w w' := by
  have h49 := ld49
  have s49 := st49
  go_enter Tryz.func122, Tryz.ntmps122
  go_wp2
  go_ret
  exact ⟨rfl, belAl (alB _ _) _⟩
set_option maxRecDepth 100000 in
theorem assign_f (nm : ByteArray) (w : World) : Calls Tryz.prog 119 #[un, .string nm, un] w fun e w' => e = .returned (.tuple #[]) ∧ Below w.heap.size w w' := by
  have h49 := ld49
  have s49 := st49
  go_enter Tryz.func119, Tryz.ntmps119
  go_wp2
  go_end0
  exact ⟨rfl, belAl (alB _ _) _⟩
set_option maxRecDepth 100000 in
set_option maxHeartbeats 4000000 in
theorem value_w (h : At b G np S w s) (nm : ByteArray) : Calls Tryz.prog 35 #[.pointer (some ⟨b, 0, none⟩), .string nm] w fun e w' => e = .returned un ∧ At b G np S w' (valueM NM nm s).2 ∧ Fr S w S w' := by
  have h49 := ld49
  have s49 := st49
  have hv := Lib.hid (show valueM NM nm s = if worksM s then ((), failM 0 s) else ((), s) from rfl)
  obtain ⟨W1, hW1⟩ : ∃ W, (w.alloc o49).alloc o49 = W := ⟨_, rfl⟩
  have hb1 : Below w.heap.size w W1 := by rw [← hW1]; exact belAl (alB _ _) _
  have hA := h.below hb1
  have hwk := Lib.hid (works_any hA)
  have hAH := Lib.hid hA
  have hF1 := Lib.hid (Fr.of_below (S := S) hb1)
  obtain ⟨a, c, hA⟩ := hA
  have c0 : W1.cell? ⟨b, 0, none⟩ = some (mv np) := hA.blk.cell 0
  clear hA hb1 h
  have hmt : ∀ w, (method 245 52 un "shyard/arith.value").run Tryz.prog w = .ok (123, un) w := fun w => by kernel_rfl
  go_enter Tryz.func35, Tryz.ntmps35
  go_upto_region 2 with fail
  clear hW1
  cases hW : worksM s
  · rw [hW] at hwk hv
    go_wp2_with (first | (go_at_call 38; refine hwk.out.mono ?_; rintro e w2 ⟨rfl, rfl⟩))
    refine bodyPost_ret (results49 rfl _ _ rfl _) rfl ?_
    rw [hv.out]
    exact ⟨rfl, hAH.out, hF1.out⟩
  · rw [hW] at hwk hv
    go_wp2_with (first | (go_at_call 38; refine hwk.out.mono ?_; rintro e w2 ⟨rfl, rfl⟩) | (go_at_call 123; refine (value_f _ _).mono ?_; rintro e w3 ⟨rfl, hb3⟩; have hA3 := Lib.hid (hAH.out.below hb3); have hF3 := Lib.hid (Fr.of_below (S := S) hb3); clear hb3) | (go_at_call 22; refine (fail_any hA3.out _).mono ?_; rintro e w4 ⟨rfl, hA4, hF4⟩; have hA4H := Lib.hid hA4; have hF4H := Lib.hid hF4; clear hA4 hF4))
    refine bodyPost_ret (results49 rfl _ _ rfl _) rfl ?_
    rw [hv.out]
    exact ⟨rfl, hA4H.out, hF1.out.trans (hF3.out.trans hF4H.out)⟩
set_option maxRecDepth 100000 in
set_option maxHeartbeats 4000000 in
theorem logic_w (h : At b G np S w s) (yes : Bool) : Calls Tryz.prog 67 #[.pointer (some ⟨b, 0, none⟩), .bool yes] w fun e w' => e = .returned un ∧ Below w.heap.size w w' := by
  have h49 := ld49
  have s49 := st49
  obtain ⟨W1, hW1⟩ : ∃ W, w.alloc o49 = W := ⟨_, rfl⟩
  have hb1 : Below w.heap.size w W1 := by rw [← hW1]; exact alB _ _
  have hA := h.below hb1
  have hb1H := Lib.hid hb1
  obtain ⟨a, c, hA⟩ := hA
  have c0 : W1.cell? ⟨b, 0, none⟩ = some (mv np) := hA.blk.cell 0
  clear hA hb1 h
  have hmt : ∀ w, (method 245 52 un "shyard/arith.number").run Tryz.prog w = .ok (121, un) w := fun w => by kernel_rfl
  go_enter Tryz.func67, Tryz.ntmps67
  go_upto_region 1 with fail
  clear hW1
  cases yes <;>
  · go_wp2_with (go_at_call 121; refine (number_f _ _).mono ?_; rintro e w2 ⟨rfl, hb2⟩; have hb2H := Lib.hid hb2; clear hb2)
    refine bodyPost_ret (results49 rfl _ _ rfl _) rfl ?_
    exact ⟨rfl, hb1H.out.trans (hb2H.out.mono hb1H.out.size)⟩
set_option maxRecDepth 100000 in
set_option maxHeartbeats 4000000 in
theorem between_w (h : At b G np S w s) (op : ByteArray) (x y : I64) : Calls Tryz.prog 37 #[.pointer (some ⟨b, 0, none⟩), .string op, un, un] w fun e w' => e = .returned un ∧ At b G np S w' (betwM NM op x y s).2 ∧ Fr S w S w' := by
  have h49 := ld49
  have s49 := st49
  have hv := Lib.hid (show betwM NM op x y s = if worksM s then ((), failM 0 s) else ((), s) from rfl)
  obtain ⟨W1, hW1⟩ : ∃ W, (((w.alloc o49).alloc o49).alloc o49).alloc o49 = W := ⟨_, rfl⟩
  have hb1 : Below w.heap.size w W1 := by rw [← hW1]; exact belAl (belAl (belAl (alB _ _) _) _) _
  have hA := h.below hb1
  have hwk := Lib.hid (works_any hA)
  have hAH := Lib.hid hA
  have hF1 := Lib.hid (Fr.of_below (S := S) hb1)
  obtain ⟨a, c, hA⟩ := hA
  have c0 : W1.cell? ⟨b, 0, none⟩ = some (mv np) := hA.blk.cell 0
  clear hA hb1 h
  have hmt : ∀ w, (method 245 52 un "shyard/arith.between").run Tryz.prog w = .ok (120, un) w := fun w => by kernel_rfl
  go_enter Tryz.func37, Tryz.ntmps37
  go_upto_region 2 with fail
  clear hW1
  cases hW : worksM s
  · rw [hW] at hwk hv
    go_wp2_with (first | (go_at_call 38; refine hwk.out.mono ?_; rintro e w2 ⟨rfl, rfl⟩))
    refine bodyPost_ret (results49 rfl _ _ rfl _) rfl ?_
    rw [hv.out]
    exact ⟨rfl, hAH.out, hF1.out⟩
  · rw [hW] at hwk hv
    go_upto_region 4 with (first | (go_at_call 38; refine hwk.out.mono ?_; rintro e w2 ⟨rfl, rfl⟩))
    have cd : W1.drew.cell? ⟨b, 0, none⟩ = some (mv np) := c0
    have hAD : Hid (At b G np S W1.drew s) := Lib.hid (hAH.out.below ⟨rfl, rfl, rfl, Nat.le_refl _, fun _ _ => rfl⟩)
    have hFD : Hid (Fr S w S W1.drew) := Lib.hid (hF1.out.trans (Fr.of_below ⟨rfl, rfl, rfl, Nat.le_refl _, fun _ _ => rfl⟩))
    go_region_held3 (fun Z => Z.cell? ⟨b, 0, none⟩ = some (mv np)) (first | with_reducible exact cd | with_reducible exact c3 | fail) ((first | (go_at_call 120; refine (between_f _ _).mono ?_; rintro e w3 ⟨rfl, hb3⟩; have hA3 := Lib.hid (hAD.out.below hb3); have c3 : w3.cell? ⟨b, 0, none⟩ = some (mv np) := (by obtain ⟨_, _, h9⟩ := hA3.out; exact h9.blk.cell 0); have hF3 := Lib.hid (Fr.of_below (S := S) hb3); clear hb3) | fail))
    go_wp2_with (go_at_call 22; refine (fail_any hA3.out _).mono ?_; rintro e w4 ⟨rfl, hA4, hF4⟩; have hA4H := Lib.hid hA4; have hF4H := Lib.hid hF4; clear hA4 hF4)
    refine bodyPost_ret (results49 rfl _ _ rfl _) rfl ?_
    rw [hv.out]
    exact ⟨rfl, hA4H.out, hFD.out.trans (hF3.out.trans hF4H.out)⟩
end
end Go.Proofs.YtjbmpockoicgmaaGreat.F
