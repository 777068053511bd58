/- Bytes, Count. Condition: the tree lies as stated. -/
import Derived.Test.YtmilagppbepnbaaGreatSpb
import Derived.RegionIn
import Derived.Lib.IndexLaws
import Derived.Lib.IndexBytes
import Derived.Stop.RegionWithIn
import Derived.Laws.IdiomStrings
import Derived.Lib.BufferWrite
namespace Go.Proofs.YtmilagppbepnbaaGreat
open Go.RowKit Go.Shelf Go.PlainAid
attribute [local go_sem] Oper.semAt_some

theorem len_lives : ∀ (ps : List (Option Nat)) (f : Fs), ps.length = f.length → (∀ (i : Nat) I, f[i]? = some (some I) → ∃ q, ps[i]? = some (some q)) → (∀ i : Nat, f[i]? = some none → ps[i]? = some none) → (lives ps).length = countM f
  | [], [], _, _, _ => rfl
  | [], _ :: _, h, _, _ => by simp at h
  | _ :: _, [], h, _, _ => by simp at h
  | o :: ps, x :: f, h, h1, h2 => by
    have ih := len_lives ps f (by simpa using h) (fun i I hi => by have := h1 (i + 1) I (by simpa using hi); simpa using this) (fun i hi => by have := h2 (i + 1) (by simpa using hi); simpa using this)
    cases x with
    | none =>
      have e : o = none := by simpa using h2 0 rfl
      subst e
      exact ih
    | some I =>
      obtain ⟨q, hq⟩ := h1 0 I rfl
      have e : o = some q := by simpa using hq
      subst e
      have e2 : lives (some q :: ps) = q :: lives ps := rfl
      rw [e2, List.length_cons, ih]
      rfl
theorem count_le : ∀ f : Fs, countM f ≤ f.length
  | [] => Nat.le_refl _
  | none :: l => by have := count_le l; simp only [countM, List.length_cons]; omega
  | some _ :: l => by have := count_le l; simp only [countM, List.length_cons]; omega
theorem InvG.drew {n₀ : Nat} {X XT : Nat → Prop} {w0 W : World} {T : List Nat} (h : InvG n₀ X XT w0 T W) : InvG n₀ X XT w0 T W.drew := ⟨h.ts, h.os, h.tape, h.output, h.n0, h.block⟩
section
variable {w : World} {B : Nat → Nat → Prop} {p : Nat} {f : Fs} {sv : Value} {ps : List (Option Nat)}
theorem FsAt.slots (h : FsAt w B p f sv ps) {w1 : World} (hb : Below w.heap.size w w1) {b : Nat} (hx : Blk w1 b 213 #[.pointer (some ⟨p, 0, none⟩)]) : SlotsAt w1 b p sv ps := ⟨hx, blk_beneath h.blk hb, row_beneath h.row hb⟩
set_option maxRecDepth 100000 in
set_option maxHeartbeats 2000000 in
theorem count_in (n : Nat) (hn : 3 ≤ n) (h : FsAt w B p f sv ps) (hlen : f.length ≤ 100000) : CallsIn Fence.wide n Tryz.prog 44 #[.pointer (some ⟨p, 0, none⟩)] w fun e w' => e = .returned (.int .i64 (countM f : Nat)) ∧ Below w.heap.size w w' := by
  have h1 : 1 ≤ n := by omega
  have hpl := h.lt 0 p h.bp
  obtain ⟨c, hc⟩ : ∃ c, w.heap.size = c := ⟨_, rfl⟩
  obtain ⟨w0, hw0⟩ : ∃ x, (w.alloc (.cells #[.int .i64 0] 3)).alloc (.cells #[.pointer (some ⟨p, 0, none⟩)] 213) = x := ⟨_, rfl⟩
  have hb0 : Below w.heap.size w w0 := by rw [← hw0]; exact (alB _ _).alloc (by simp) _
  have hs0 : w0.heap.size = c + 2 := by rw [← hw0]; simp [hc]
  have kc : Blk w0 c 3 #[.int .i64 0] := by rw [← hw0, ← hc]; exact (Blk.new _ _ _).alloc _
  have kb : Blk w0 (c + 1) 213 #[.pointer (some ⟨p, 0, none⟩)] := by rw [← hw0]; exact newB _ _ _ (by simp [hc])
  have hsl := h.slots hb0 kb
  have hsv : ∀ g, sv.ownBlock = some g → g < c := fun g hg => by have := h.lt 0 g (h.bs g hg); omega
  have hpsl : ps.length ≤ 100000 := by rw [h.len]; exact hlen
  have c0 : w.cell? ⟨p, 0, none⟩ = some sv := h.blk.cell 0
  have hw0H := Lib.hid hw0
  have hslH := Lib.hid hsl
  have hb0H := Lib.hid hb0
  have hcH := Lib.hid hc
  have hH := Lib.hid h
  clear h hw0 hsl hb0
  refine callsIn_of_wp_marks Tryz.func44 rfl trivial ?_ rfl
  simp only [Tryz.ntmps44, List.size_toArray, List.length_cons, List.length_nil, Nat.reduceAdd, Nat.reduceSub, Array.replicate_succ, Array.replicate_zero, List.push_toArray, List.append_toArray, List.nil_append, List.cons_append]
  gi_wp2_with (refine ⟨trivial, ?_⟩; gi_at_call 54; refine (callsIn_wide.2 (all_any p _)).mono ?_; rintro e w' ⟨rfl, rfl⟩)
  rw [hw0H.out]
  apply range_law rfl h1 (gf := 99) (lb := #[.pointer (some ⟨c + 1, 0, none⟩)]) rfl trivial (enters_of Tryz.func99 (by kernel_rfl) rfl)
    (all_stops (n - 1) (by omega) w0.heap.size (c + 1) p sv ps (fun g => g = c) w0 hslH.out (by omega) (by omega) (fun g hg => by have := hsv g hg; omega) hpsl) (fun k hk => by cases hk) (fun _ _ _ _ _ _ _ hk h => keepN_b hk h) (Below.refl _ _) (fun _ => rfl)
    (fun T pre W => InvG w0.heap.size (fun g => g = c) (fun _ => False) w0 T W ∧ Blk W c 3 #[.int .i64 ((pre.length : Nat) : Int)]) (fun _ _ _ _ => False) (fun T T' pre A B hi he => ⟨hi.1.ext (fun _ h => h.elim) he, blk_ext hi.2 hi.1.ts (by omega) (fun h => h) he⟩) (fun _ _ _ _ _ _ h _ => h) ⟨InvG.start (fun k hk => by cases hk) (Nat.le_refl _), kc⟩
    (fun q _ => { tmps := #[.pointer (some ⟨p, 0, none⟩), undef, .int .i64 0, .pointer (some ⟨c, 0, none⟩), .pointer (some ⟨p, 0, none⟩), .bool true, .pointer (some ⟨p, 0, none⟩), .pointer (some ⟨p, 0, none⟩), .pointer (some ⟨p, 0, none⟩), .func (.func 99) #[] #[.pointer (some ⟨c + 1, 0, none⟩)], .pointer (some ⟨q, 0, none⟩), undef, undef, undef], defers := [] }) (fun _ W => W) (fun _ _ => Below.refl _ _) (fun _ _ _ _ h => h) ?assign ?body ?done ?stop
  case assign =>
    intro l x W K hK
    dsimp only [encN]
    gi_wp2
    simpa using hK
  case body =>
    intro l T pre x W W' o hsp _ _ hW' ⟨hI, hC⟩
    clear hW'
    have y0 : W'.cell? ⟨c, 0, none⟩ = some (.int .i64 ((pre.length : Nat) : Int)) := hC.cell 0
    have g0 : W'.frozen? ⟨c, 0, none⟩ = false := hC.frozen 0
    have hl3 : pre.length ≤ 100000 := by
      have h9 := hsp.length_le
      have h8 := lives_len ps ps.length
      rw [List.take_length] at h8
      simp at h9
      omega
    have hIH := Lib.hid hI
    have hCH := Lib.hid hC
    clear hI hC
    gi_wp2
    refine ⟨⟨hIH.out.set (.inl rfl) _, ?_⟩, keepsT hIH.out (by simp) (fun g hg _ => Below.heap_setCell _ _ _ _ (fun e => by
      have e' : g = c := e
      rcases hg with h | h
      · omega
      · exact h)), keepN_set (S := fun g => g = c) (KeepN.refl _ _ _) (.inl rfl) _⟩
    have h9 := hCH.out.set_ 0 (.int .i64 ((pre.length : Int) + 1))
    rw [show ((pre ++ [x]).length : Nat) = pre.length + 1 by simp]
    exact h9
  case done =>
    rintro D T xs W hD _ rfl ⟨hI, hC⟩ hK
    have y0 : W.cell? ⟨c, 0, none⟩ = some (.int .i64 (countM f : Nat)) := by rw [← len_lives ps f hH.out.len (fun i I hi => by obtain ⟨q, hq, _⟩ := hH.out.some_ i I hi; exact ⟨q, hq⟩) hH.out.none_]; exact hC.cell 0
    have hIH := Lib.hid hI
    have hKH := Lib.hid hK
    clear hI hK hC
    gi_wp2
    refine ⟨by simp, .inl ⟨_, _, rfl, run_takeDeferred hKH.out, ?_⟩⟩
    refine ⟨_, results_tmp rfl _ _ _, rfl, ?_⟩
    exact (hIH.out.toBelow hb0H.out (fun g hg => by have := hcH.out; omega) (Nat.le_refl _)).trans (belowK_b (w := w) (Nat.le_refl _) W D _ _ (by rw [hs0] at hD; have := hcH.out; omega) hKH.out rfl rfl)
  case stop =>
    rintro D c T pre W _ _ _ h _
    exact h.elim
theorem count_any (h : FsAt w B p f sv ps) (hlen : f.length ≤ 100000) : Calls Tryz.prog 44 #[.pointer (some ⟨p, 0, none⟩)] w fun e w' => e = .returned (.int .i64 (countM f : Nat)) ∧ Below w.heap.size w w' := callsIn_wide.1 (count_in 3 (Nat.le_refl _) h hlen)
end
end Go.Proofs.YtmilagppbepnbaaGreat
/- The pieces of a path; begin, endsWithSlash. No condition but the text's size. -/
namespace Go.Proofs.YtmilagppbepnbaaGreat
open Go.RowKit Go.Shelf Go.PlainAid
attribute [local go_sem] Oper.semAt_some

set_option maxHeartbeats 1000000 in
theorem cutl_some (t : ByteArray) (k : Nat) (hs : t.size ≤ maxLen) (hk : k < t.size) (h : Lib.indexByte t.data.toList 47 = k) (w : World) : Calls Tryz.prog 294 #[.string t, .string ⟨#[47]⟩] w fun e w' => e = .returned (.tuple #[.string (t.extract 0 k), .string (t.extract (k + 1) t.size), .bool true]) ∧ ∃ m, w' = w.drewN m := by
  unfold maxLen at hs
  go_enter Tryz.func294, Tryz.ntmps294
  go_wp2_with (go_at_call 306; refine (Tryz.stringslite_Index_one t 47 _).mono ?_; rintro e w' ⟨rfl, rfl⟩; rw [h])
  go_quiet (fail)
  go_wp2
  go_ret3
  exact ⟨rfl, _, rfl⟩
set_option maxHeartbeats 1000000 in
theorem cutl_none (t : ByteArray) (h : Lib.indexByte t.data.toList 47 = -1) (w : World) : Calls Tryz.prog 294 #[.string t, .string ⟨#[47]⟩] w fun e w' => e = .returned (.tuple #[.string t, .string ⟨#[]⟩, .bool false]) ∧ ∃ m, w' = w.drewN m := by
  go_enter Tryz.func294, Tryz.ntmps294
  go_wp2_with (go_at_call 306; refine (Tryz.stringslite_Index_one t 47 _).mono ?_; rintro e w' ⟨rfl, rfl⟩; rw [h])
  go_ret3
  exact ⟨rfl, 0, rfl⟩
/-- What stands ahead of the first /, and behind it. -/
def headP (t : ByteArray) : ByteArray := if 0 ≤ Lib.indexByte t.data.toList 47 then t.extract 0 (Lib.indexByte t.data.toList 47).toNat else t
def tailP (t : ByteArray) : ByteArray := if 0 ≤ Lib.indexByte t.data.toList 47 then t.extract ((Lib.indexByte t.data.toList 47).toNat + 1) t.size else ⟨#[]⟩
def slashP (t : ByteArray) : Bool := decide (0 ≤ Lib.indexByte t.data.toList 47)
theorem idx_lt {l : List UInt8} {c : UInt8} (h : 0 ≤ Lib.indexByte l c) : (Lib.indexByte l c).toNat < l.length := by
  have h1 := (Lib.indexByte_some (l := l) (c := c) (o := (Lib.indexByte l c).toNat) (by omega)).1
  exact (List.getElem?_eq_some_iff.1 h1).1
theorem idx_neg' : ∀ (l : List UInt8) (c : UInt8), -1 ≤ Lib.indexByte l c
  | [], _ => by simp [Lib.indexByte]
  | b :: l, c => by
    have := idx_neg' l c
    unfold Lib.indexByte
    split
    · omega
    · split
      · omega
      · omega
theorem cut_any' (t : ByteArray) (w : World) (hs : t.size ≤ maxLen) : Calls Tryz.prog 271 #[.string t, .string ⟨#[47]⟩] w fun e w' => e = .returned (.tuple #[.string (headP t), .string (tailP t), .bool (slashP t)]) ∧ ∃ m, w' = w.drewN m := by
  by_cases h : 0 ≤ Lib.indexByte t.data.toList 47
  · have h1 : headP t = t.extract 0 (Lib.indexByte t.data.toList 47).toNat := by unfold headP; rw [if_pos h]
    have h2 : tailP t = t.extract ((Lib.indexByte t.data.toList 47).toNat + 1) t.size := by unfold tailP; rw [if_pos h]
    have h3 : slashP t = true := decide_eq_true h
    rw [h1, h2, h3]
    obtain ⟨k, hk⟩ : ∃ k, (Lib.indexByte t.data.toList 47).toNat = k := ⟨_, rfl⟩
    have hkl := idx_lt h
    rw [hk] at hkl ⊢
    have hc := Lib.hid (cutl_some t k hs (by rw [Array.length_toList] at hkl; exact hkl) (by omega))
    clear h h1 h2 h3 hk hkl
    go_enter Tryz.func271, Tryz.ntmps271
    go_wp2_with (go_at_call 294; refine (hc.out _).mono ?_; rintro e w' ⟨rfl, m, rfl⟩)
    go_ret3
    exact ⟨rfl, _, rfl⟩
  · have h1 : headP t = t := by unfold headP; rw [if_neg h]
    have h2 : tailP t = ⟨#[]⟩ := by unfold tailP; rw [if_neg h]
    have h3 : slashP t = false := decide_eq_false h
    rw [h1, h2, h3]
    have hc := Lib.hid (cutl_none t (by have := idx_neg' t.data.toList 47; omega))
    clear h h1 h2 h3
    go_enter Tryz.func271, Tryz.ntmps271
    go_wp2_with (go_at_call 294; refine (hc.out _).mono ?_; rintro e w' ⟨rfl, m, rfl⟩)
    go_ret3
    exact ⟨rfl, _, rfl⟩

theorem go_slash : ∀ (a acc r : List UInt8), (∀ x ∈ a, x ≠ 47) → piecesGo acc (a ++ 47 :: r) = (if acc ++ a = [] then [] else [acc ++ a]) ++ piecesGo [] r
  | [], acc, r, _ => by
    rw [List.nil_append, piecesGo, if_pos rfl, List.append_nil]
    by_cases h : acc = []
    · rw [if_pos h, if_pos h]; rfl
    · rw [if_neg h, if_neg h]; rfl
  | b :: a, acc, r, h => by
    rw [List.cons_append, piecesGo, if_neg (h b (List.mem_cons_self ..)), go_slash a (acc ++ [b]) r (fun x hx => h x (List.mem_cons_of_mem _ hx))]
    simp
theorem go_end : ∀ (a acc : List UInt8), (∀ x ∈ a, x ≠ 47) → piecesGo acc a = if acc ++ a = [] then [] else [acc ++ a]
  | [], acc, _ => by rw [piecesGo, List.append_nil]
  | b :: a, acc, h => by
    rw [piecesGo, if_neg (h b (List.mem_cons_self ..)), go_end a (acc ++ [b]) (fun x hx => h x (List.mem_cons_of_mem _ hx))]
    simp
theorem ba_ext {a b : ByteArray} (h : a.data.toList = b.data.toList) : a = b := by
  obtain ⟨⟨x⟩⟩ := a
  obtain ⟨⟨y⟩⟩ := b
  obtain rfl : x = y := h
  rfl
theorem ba_nil {t : ByteArray} : t.data.toList = [] ↔ t.size = 0 := by
  rw [← List.length_eq_zero_iff, Array.length_toList]
  rfl
theorem extract_list (t : ByteArray) (i j : Nat) : (t.extract i j).data.toList = (t.data.toList.take j).drop i := by
  rw [ByteArray.data_extract, Array.toList_extract]
  simp [List.drop_take]
/-- The pieces of a text: the first, and those behind the first /. -/
theorem pieces_step (t : ByteArray) : pieces t = (if (headP t).size = 0 then [] else [headP t]) ++ pieces (tailP t) := by
  by_cases h : 0 ≤ Lib.indexByte t.data.toList 47
  · obtain ⟨k, hk⟩ : ∃ k : Nat, Lib.indexByte t.data.toList 47 = k := ⟨_, (Int.toNat_of_nonneg h).symm⟩
    obtain ⟨h1, h2⟩ := Lib.indexByte_some hk
    obtain ⟨hkl, hkv⟩ := List.getElem?_eq_some_iff.1 h1
    have eh : headP t = t.extract 0 k := by unfold headP; rw [if_pos h, hk]; rfl
    have et : tailP t = t.extract (k + 1) t.size := by unfold tailP; rw [if_pos h, hk]; rfl
    have lh : (headP t).data.toList = t.data.toList.take k := by rw [eh, extract_list]; rfl
    have lt' : (tailP t).data.toList = t.data.toList.drop (k + 1) := by
      rw [et, extract_list, List.take_of_length_le (by rw [Array.length_toList]; exact Nat.le_refl _)]
    have hs : t.data.toList = t.data.toList.take k ++ 47 :: t.data.toList.drop (k + 1) := by
      rw [← hkv, List.getElem_cons_drop, List.take_append_drop]
    have hno : ∀ x ∈ t.data.toList.take k, x ≠ 47 := fun x hx e => by
      obtain ⟨j, hj⟩ := List.mem_iff_getElem?.1 hx
      have hjk : j < k := by have := (List.getElem?_eq_some_iff.1 hj).1; rw [List.length_take] at this; omega
      rw [List.getElem?_take_of_lt hjk, e] at hj
      exact h2 j hjk hj
    unfold pieces
    rw [hs, go_slash _ _ _ hno, List.map_append, ← lt', List.nil_append, ← lh]
    congr 1
    by_cases h0 : (headP t).size = 0
    · rw [if_pos h0, if_pos (ba_nil.2 h0)]; rfl
    · rw [if_neg h0, if_neg (fun e => h0 (ba_nil.1 e))]
      simp
  · have hn := Lib.indexByte_none (l := t.data.toList) (c := 47) (by have := idx_neg' t.data.toList 47; omega)
    have eh : headP t = t := by unfold headP; rw [if_neg h]
    have et : tailP t = ⟨#[]⟩ := by unfold tailP; rw [if_neg h]
    have hno : ∀ x ∈ t.data.toList, x ≠ 47 := fun x hx e => by
      obtain ⟨j, hj⟩ := List.mem_iff_getElem?.1 hx
      exact hn j (by rw [hj, e])
    rw [eh, et]
    unfold pieces
    rw [go_end _ _ hno, List.nil_append]
    by_cases h0 : t.size = 0
    · rw [if_pos h0, if_pos (ba_nil.2 h0)]; rfl
    · rw [if_neg h0, if_neg (fun e => h0 (ba_nil.1 e))]
      simp [piecesGo]
theorem pieces_nil {t : ByteArray} (h : t.size = 0) : pieces t = [] := by
  unfold pieces
  rw [ba_nil.2 h]
  rfl
theorem tail_lt {t : ByteArray} (h : t.size ≠ 0) : (tailP t).size < t.size := by
  unfold tailP
  split
  · rename_i h0
    have := idx_lt h0
    rw [Array.length_toList] at this
    rw [ByteArray.size_extract]
    show min _ _ - _ < _
    omega
  · show 0 < _; omega
end Go.Proofs.YtmilagppbepnbaaGreat
/- The iterator over a path's pieces; begin, endsWithSlash, enter, step. Condition: the tree lies as stated. -/
namespace Go.Proofs.YtmilagppbepnbaaGreat
open Go.RowKit Go.Shelf Go.PlainAid
attribute [local go_sem] Oper.semAt_some

theorem pieces_any (s : ByteArray) (w : World) : Calls Tryz.prog 250 #[.string s] w fun e w' => e = .returned (.func (.func 270) #[] #[.pointer (some ⟨w.heap.size, 0, none⟩)]) ∧ w' = w.alloc (.cells #[.string s] 9) := by
  go_enter Tryz.func250, Tryz.ntmps250
  go_wp2
  go_ret
  exact ⟨rfl, rfl⟩
def strSize (W : World) (b : Nat) : Nat := match W.cell? ⟨b, 0, none⟩ with
  | some (.string s) => s.size
  | _ => 0
theorem strSize_of {W : World} {b : Nat} {t : ByteArray} (h : Blk W b 9 #[.string t]) : strSize W b = t.size := by
  unfold strSize
  rw [h.cell 0]
  rfl
def encS (x : ByteArray) : Array Value := #[.string x]
theorem Ext.setIn {T : List Nat} {A : World} {c o : Nat} (hc : c ∈ T) (u : Value) : Ext T A T (A.setCell ⟨c, o, none⟩ u) :=
  ⟨rfl, rfl, rfl, by simp, fun k _ hk => Below.heap_setCell _ _ _ _ (fun e => hk (by rw [show k = c from e]; exact hc)), fun _ h => .inl h⟩
theorem Ext.drewN (T : List Nat) (A : World) (n : Nat) : Ext T A T (A.drewN n) := ⟨rfl, rfl, rfl, Nat.le_refl _, fun _ _ _ => rfl, fun _ h => .inl h⟩
section
variable (l b : Nat) (s : ByteArray) (Kp : List ByteArray → ByteArray → World → World → Prop) (J Jx : List Nat → List ByteArray → World → Prop) (hJ : Abide J)
  (hY : ∀ T pre x W, pre ++ [x] <+: pieces s → J T pre W → YieldAt Fence.wide 0 Tryz.prog l (encS x) W fun e W' => (e = .returned (.bool true) ∧ J T (pre ++ [x]) W' ∧ Keeps T W W' ∧ Kp pre x W W') ∨ (e = .returned (.bool false) ∧ Jx T (pre ++ [x]) W' ∧ Keeps T W W'))
include hJ hY
set_option maxRecDepth 100000 in
set_option maxHeartbeats 3000000 in
theorem pieces1_in (d : Nat) (hd : 1 ≤ d) (hs : s.size ≤ maxLen) (W : World) (hb : Blk W b 9 #[.string s]) (h0 : J [b] [] W) :
    CallsIn Fence.wide d Tryz.prog 270 #[.func (.yield l) #[] #[], .pointer (some ⟨b, 0, none⟩)] W fun e W' => (∃ v, e = .returned v) ∧ ((∃ T ys, ys = pieces s ∧ J T ys W') ∨ (∃ T pre, pre <+: pieces s ∧ Jx T pre W')) := by
  have hbH := Lib.hid hb
  have h0H := Lib.hid h0
  have hYH := Lib.hid hY
  have hJH := Lib.hid hJ
  clear hb h0 hY hJ
  refine callsIn_of_wp Tryz.func270 rfl trivial ?_ rfl
  simp only [Tryz.ntmps270, List.size_toArray, List.length_cons, List.length_nil, Nat.reduceAdd, Nat.reduceSub, Array.replicate_succ, Array.replicate_zero, List.push_toArray, List.append_toArray, List.nil_append, List.cons_append]
  gi_wp2
  gi_loopw [4] (fun _ wr => ∃ (t : ByteArray) (xs : List ByteArray), t.size ≤ maxLen ∧ Hid (Blk wr b 9 #[.string t]) ∧ Hid (xs ++ pieces t = pieces s) ∧ Hid (J [b] xs wr)) (fun _ wr => strSize wr b)
  case atStart => exact ⟨s, [], hs, hbH, Lib.hid rfl, h0H⟩
  case round =>
    obtain ⟨t, xs, ht, hB, hX, hJ⟩ := hrel
    have y0 : wr.cell? ⟨b, 0, none⟩ = some (.string t) := hB.out.cell 0
    by_cases hz : t.size = 0
    · obtain rfl : t = ⟨#[]⟩ := ba_ext (by rw [ba_nil.2 hz])
      gi_wp2
      go_end0
      refine ⟨⟨_, rfl⟩, .inl ⟨[b], _, rfl, ?_⟩⟩
      have h9 := hX.out
      rw [pieces_nil rfl, List.append_nil] at h9
      rw [← h9]
      exact hJ.out
    · have hne : (t.toList.isEmpty) = false := by
        rw [Lib.toList_data]
        cases h : t.data.toList with
        | nil => exact absurd (ba_nil.1 h) hz
        | cons a l => rfl
      have hcut := Lib.hid (fun w => cut_any' t w ht)
      have hst := Lib.hid (pieces_step t)
      have htl := Lib.hid (tail_lt hz)
      have hts : (tailP t).size ≤ maxLen := by have := htl.out; unfold maxLen at *; omega
      have hszr : Hid (strSize wr b = t.size) := Lib.hid (strSize_of hB.out)
      have f0 : wr.frozen? ⟨b, 0, none⟩ = false := hB.out.frozen 0
      by_cases hh : (headP t).size = 0
      · have hhe : headP t = ⟨#[]⟩ := ba_ext (by rw [ba_nil.2 hh])
        have hX2 : Hid (xs ++ pieces (tailP t) = pieces s) := Lib.hid (by have h9 := hX.out; rw [hst.out, if_pos hh] at h9; exact h9)
        have hheH := Lib.hid hhe
        clear hhe hh
        gi_wp2_with (refine ⟨trivial, ?_⟩; gi_at_call 271; refine (callsIn_wide.2 (hcut.out _)).mono ?_; rintro e w' ⟨rfl, m, rfl⟩; rw [hheH.out])
        have hB8 := Lib.hid (show Blk (wr.drewN m) b 9 #[.string t] from hB.out)
        have hJ8 := Lib.hid (hJH.out _ _ _ _ _ hJ.out (Ext.drewN [b] wr m))
        obtain ⟨W8, hW8⟩ : ∃ W8, wr.drewN m = W8 := ⟨_, rfl⟩
        rw [hW8] at hB8 hJ8 ⊢
        clear hW8
        have y8 : W8.cell? ⟨b, 0, none⟩ = some (.string t) := hB8.out.cell 0
        have f8 : W8.frozen? ⟨b, 0, none⟩ = false := hB8.out.frozen 0
        have hB9 := Lib.hid (hB8.out.set_ 0 (.string (tailP t)))
        have hs9 : Hid (strSize (W8.setCell ⟨b, 0, none⟩ (.string (tailP t))) b = (tailP t).size) := Lib.hid (strSize_of hB9.out)
        refine ⟨fun _ h => (by cases h), ?_⟩
        gi_wp2
        go_roundw
        case rel => exact ⟨tailP t, xs, hts, hB9, hX2, Lib.hid (hJH.out _ _ _ _ _ hJ8.out (Ext.setIn (List.mem_singleton.2 rfl) _))⟩
        case measure => rw [hs9.out, hszr.out]; exact htl.out
      · have hh2 : ((headP t).toList.isEmpty) = false := by
          rw [Lib.toList_data]
          cases h : (headP t).data.toList with
          | nil => exact absurd (ba_nil.1 h) hh
          | cons a l => rfl
        have hX2 : Hid (xs ++ [headP t] ++ pieces (tailP t) = pieces s) := Lib.hid (by have h9 := hX.out; rw [hst.out, if_neg hh, ← List.append_assoc] at h9; exact h9)
        have hpre : Hid (xs ++ [headP t] <+: pieces s) := Lib.hid ⟨_, hX2.out⟩
        have hhH := Lib.hid hh
        clear hh
        gi_wp2_with (refine ⟨trivial, ?_⟩; gi_at_call 271; refine (callsIn_wide.2 (hcut.out _)).mono ?_; rintro e w' ⟨rfl, m, rfl⟩; have hB8 := Lib.hid (show Blk (wr.drewN m) b 9 #[.string t] from hB.out); have hJ8 := Lib.hid (hJH.out _ _ _ _ _ hJ.out (Ext.drewN [b] wr m)); obtain ⟨fn, tmps, assign, body, hy, hYR⟩ := yield_wide (m' := d - 1) (hYH.out [b] _ (headP t) _ hpre.out hJ8.out); have hYRH := Lib.hid hYR; dsimp only [encS] at hy; clear hYR)
        refine hYRH.out.mono ?_
        rintro e W3 (⟨rfl, hJ3, hk3, _⟩ | ⟨rfl, hJx3, _⟩)
        · have hJ3H := Lib.hid hJ3
          have hB3 : Hid (Blk W3 b 9 #[.string t]) := Lib.hid ((hk3.block b (List.mem_singleton.2 rfl) hB8.out.lt).trans hB8.out)
          have y8 : W3.cell? ⟨b, 0, none⟩ = some (.string t) := hB3.out.cell 0
          have f8 : W3.frozen? ⟨b, 0, none⟩ = false := hB3.out.frozen 0
          have hB9 := Lib.hid (hB3.out.set_ 0 (.string (tailP t)))
          have hs9 : Hid (strSize (W3.setCell ⟨b, 0, none⟩ (.string (tailP t))) b = (tailP t).size) := Lib.hid (strSize_of hB9.out)
          clear hJ3 hk3 hy
          gi_wp2
          go_roundw
          case rel => exact ⟨tailP t, xs ++ [headP t], hts, hB9, hX2, Lib.hid (hJH.out _ _ _ _ _ hJ3H.out (Ext.setIn (List.mem_singleton.2 rfl) _))⟩
          case measure => rw [hs9.out, hszr.out]; exact htl.out
        · have hJxH := Lib.hid hJx3
          clear hJx3
          gi_wp2
          refine bodyPost_ret (results_none rfl _ _ _) rfl ?_
          exact ⟨⟨_, rfl⟩, .inr ⟨[b], _, hpre.out, hJxH.out⟩⟩
end
theorem pieces_stops (d : Nat) (hd : 1 ≤ d) (b : Nat) (s : ByteArray) (Kp : List ByteArray → ByteArray → World → World → Prop) (w : World) (hs : s.size ≤ maxLen) (hb : Blk w b 9 #[.string s]) :
    SeqT Fence.wide d Tryz.prog 270 #[.pointer (some ⟨b, 0, none⟩)] encS Kp (fun xs => xs = pieces s) (fun pre => pre <+: pieces s) [b] w := by
  intro l J Jx W hW hJ _ hY h0
  exact pieces1_in l b s Kp J Jx hJ (fun T pre x W h1 h2 => yield_wide (hY T pre x W h1 h2)) d hd hs W (blk_beneath hb hW) h0
theorem begin_any (dir : Int) (s : ByteArray) (w : World) (hs : s.size ≤ maxLen) : Calls Tryz.prog 249 #[.int .i64 dir, .string s] w fun e w' => e = .returned (.tuple #[.int .i64 (beginM dir s).1, .int .i64 (beginM dir s).2]) ∧ w' = w := by
  unfold maxLen at hs
  have hM : Hid (beginM dir s = if s.size = 0 then (0, 2) else if 256 < s.size then (0, 36) else if s.data.toList.head? = some 47 then (1, 0) else (dir, 0)) := Lib.hid rfl
  rw [hM.out]
  by_cases h0 : s.size = 0
  · rw [if_pos h0]
    obtain rfl : s = ⟨#[]⟩ := ba_ext (by rw [ba_nil.2 h0])
    clear hM
    go_enter Tryz.func249, Tryz.ntmps249
    go_wp2
    go_ret2
    exact ⟨rfl, rfl⟩
  · rw [if_neg h0]
    have hne : (s.toList.isEmpty) = false := by
      rw [Lib.toList_data]
      cases h : s.data.toList with
      | nil => exact absurd (ba_nil.1 h) h0
      | cons a l => rfl
    by_cases h1 : 256 < s.size
    · rw [if_pos h1]
      clear hM
      go_enter Tryz.func249, Tryz.ntmps249
      go_wp2
      go_ret2
      exact ⟨rfl, rfl⟩
    · rw [if_neg h1]
      have hp : 0 < s.size := by omega
      have hd : s.data.toList.head? = some s[0] := by rw [List.head?_eq_getElem?, Lib.data_getElem? s 0 hp]
      have hdH := Lib.hid hd
      clear hM hd
      by_cases h2 : s[0] = 47
      · rw [if_pos (by rw [hdH.out, h2])]
        have h2' : s[0].toNat = 47 := by rw [h2]; rfl
        have h2'' : ((s[0].toNat : Int) == 47) = true := by rw [h2']; rfl
        go_enter Tryz.func249, Tryz.ntmps249
        go_wp2
        go_ret2
        exact ⟨rfl, rfl⟩
      · rw [if_neg (by rw [hdH.out]; intro e; exact h2 (Option.some.inj e))]
        have h2' : ¬ s[0].toNat = 47 := fun e => h2 (UInt8.toNat_inj.1 e)
        have h2'' : ((s[0].toNat : Int) == 47) = false := beq_eq_false_iff_ne.2 (by omega)
        go_enter Tryz.func249, Tryz.ntmps249
        go_wp2
        go_ret2
        exact ⟨rfl, rfl⟩
theorem suf47 (l : List UInt8) : Lib.hasSuffix l [47] = (l.getLast? == some 47) := by
  rcases List.eq_nil_or_concat l with rfl | ⟨l', b, rfl⟩
  · rfl
  · rw [List.concat_eq_append, List.getLast?_append]
    simp only [Lib.hasSuffix, List.isSuffixOf, List.reverse_append, List.reverse_cons, List.reverse_nil, List.nil_append, List.singleton_append, List.isPrefixOf, Bool.and_true]
    rw [Bool.eq_iff_iff]
    simp
    exact eq_comm
theorem slashed_any (s : ByteArray) (w : World) (hs : s.size ≤ maxLen) : Calls Tryz.prog 207 #[.string s] w fun e w' => e = .returned (.bool (slashed s)) ∧ w' = w := by
  unfold maxLen at hs
  have hc := Lib.hid (Tryz.strings_HasSuffix s ⟨#[47]⟩ w (by omega))
  have hsf : Hid (Lib.hasSuffix s.data.toList [47] = slashed s) := Lib.hid (suf47 _)
  go_enter Tryz.func207, Tryz.ntmps207
  go_wp2_with (go_at_call 252; refine hc.out.mono ?_; rintro e w' ⟨rfl, rfl⟩; rw [hsf.out])
  go_ret
  exact ⟨rfl, rfl⟩
section
variable {w : World} {B : Nat → Nat → Prop} {p : Nat} {f : Fs} {sv : Value} {ps : List (Option Nat)}
theorem enter_any (h : FsAt w B p f sv ps) {n : Int} {I : Ino} (hn : node f n = some I) (hlen : f.length ≤ 100000) : Calls Tryz.prog 254 #[.pointer (some ⟨p, 0, none⟩), .int .i64 n] w fun e w' => e = .returned (.int .i64 (enterM f n : Nat)) ∧ w' = w := by
  have hM : Hid (enterM f n = if I.isDir then (if I.may 1 then 0 else 13) else 20) := Lib.hid (by unfold enterM; rw [hn])
  obtain ⟨i, q, rfl, _, _, h4, dv, ev, h5⟩ := node_where h hn
  have hc := Lib.hid (node_yes h h4 hlen)
  have hi := Lib.hid (isDir_any h5)
  have hm := Lib.hid (may_any h5 1)
  rw [hM.out]
  clear h hn h4 h5 hM
  cases h1 : I.isDir with
  | false =>
    rw [if_neg (by decide)]
    have h1H := Lib.hid h1
    clear h1
    go_enter Tryz.func254, Tryz.ntmps254
    go_wp2_with (first | (go_at_call 58; refine hc.out.mono ?_; rintro e w' ⟨rfl, rfl⟩) | (go_at_call 132; refine hi.out.mono ?_; rintro e w' ⟨rfl, rfl⟩; rw [h1H.out]))
    go_ret
    exact ⟨rfl, rfl⟩
  | true =>
    rw [if_pos rfl]
    have h1H := Lib.hid h1
    clear h1
    cases h2 : I.may 1 with
    | false =>
      rw [if_neg (by decide)]
      have h2H := Lib.hid h2
      clear h2
      go_enter Tryz.func254, Tryz.ntmps254
      go_wp2_with (first | (go_at_call 58; refine hc.out.mono ?_; rintro e w' ⟨rfl, rfl⟩) | (go_at_call 132; refine hi.out.mono ?_; rintro e w' ⟨rfl, rfl⟩; rw [h1H.out]) | (go_at_call 208; refine hm.out.mono ?_; rintro e w' ⟨rfl, rfl⟩; rw [h2H.out]))
      go_ret
      exact ⟨rfl, rfl⟩
    | true =>
      rw [if_pos rfl]
      have h2H := Lib.hid h2
      clear h2
      go_enter Tryz.func254, Tryz.ntmps254
      go_wp2_with (first | (go_at_call 58; refine hc.out.mono ?_; rintro e w' ⟨rfl, rfl⟩) | (go_at_call 132; refine hi.out.mono ?_; rintro e w' ⟨rfl, rfl⟩; rw [h1H.out]) | (go_at_call 208; refine hm.out.mono ?_; rintro e w' ⟨rfl, rfl⟩; rw [h2H.out]))
      go_ret
      exact ⟨rfl, rfl⟩
end
end Go.Proofs.YtmilagppbepnbaaGreat
/- One step of a way. Condition: the tree lies as stated. -/
namespace Go.Proofs.YtmilagppbepnbaaGreat
open Go.RowKit Go.Shelf Go.PlainAid
attribute [local go_sem] Oper.semAt_some

theorem str_eq {a b : ByteArray} : (a.toList == b.toList) = decide (a = b) := by
  by_cases h : a = b
  · subst h; simp
  · rw [decide_eq_false h]
    rw [← Bool.not_eq_true]
    intro e
    exact h (toList_inj (eq_of_beq e))
theorem str_dot {x : ByteArray} (h : x ≠ dotT) : (x.toList == [46]) = false := by
  have h1 : (x.toList == dotT.toList) = false := by rw [str_eq]; exact decide_eq_false h
  rw [Lib.toList_data dotT] at h1
  exact h1
theorem str_dots {x : ByteArray} (h : x ≠ dotsT) : (x.toList == [46, 46]) = false := by
  have h1 : (x.toList == dotsT.toList) = false := by rw [str_eq]; exact decide_eq_false h
  rw [Lib.toList_data dotsT] at h1
  exact h1
section
variable {w : World} {B : Nat → Nat → Prop} {p : Nat} {f : Fs} {sv : Value} {ps : List (Option Nat)}
theorem step_any (h : FsAt w B p f sv ps) {n : Int} {I : Ino} (hn : node f n = some I) (hf : FineF f) (x : ByteArray) : Calls Tryz.prog 251 #[.pointer (some ⟨p, 0, none⟩), .int .i64 n, .string x] w fun e w' => e = .returned (.tuple #[.int .i64 (stepM f n x).1, .int .i64 (stepM f n x).2]) ∧ Below w.heap.size w w' := by
  have hlen : f.length ≤ 100000 := by have := hf.1; omega
  have he := Lib.hid (enter_any h hn hlen)
  have hM : Hid (stepM f n x = if enterM f n ≠ 0 then (0, enterM f n) else if x = dotT then (if n = 0 then (0, 2) else (n, 0)) else if x = dotsT then (if 0 < I.links ∧ I.parent ≠ 0 then ((I.parent : Int), 0) else (0, 2)) else if 32 < x.size then (0, 36) else if lookM I.ents x = 0 then (0, 2) else ((lookM I.ents x : Int), 0)) := Lib.hid (by unfold stepM; rw [hn])
  rw [hM.out]
  obtain ⟨i, q, rfl, _, hi, h4, dv, ev, h5⟩ := node_where h hn
  have hc := Lib.hid (node_yes h h4 hlen)
  have hlo := Lib.hid (lookup_any h5 (hf.2 i I hi) x)
  have c2 : w.cell? ⟨q, 2, none⟩ = some (.int .i64 I.links) := h5.blk.cell 2
  have c6 : w.cell? ⟨q, 6, none⟩ = some (.int .i64 I.parent) := h5.blk.cell 6
  have hi9 : i ≤ 100000 := by have := (List.getElem?_eq_some_iff.1 hi).1; omega
  obtain ⟨E, hE⟩ : ∃ E, enterM f ((i : Int) + 1) = E := ⟨_, rfl⟩
  rw [hE] at he ⊢
  clear h hn h4 h5 hM hf hi hE
  by_cases h1 : E = 0
  · subst h1
    rw [if_neg (fun h => h rfl), if_neg (show ¬ (i : Int) + 1 = 0 by omega)]
    by_cases h2 : x = dotT
    · rw [if_pos h2]
      subst h2
      have hni : ¬ (i : Int) + 1 = 0 := by omega
      have hnb : (((i : Int) + 1) == 0) = false := beq_eq_false_iff_ne.2 hni
      unfold dotT
      go_enter Tryz.func251, Tryz.ntmps251
      go_wp2_with (first | (go_at_call 254; refine he.out.mono ?_; rintro e w' ⟨rfl, rfl⟩) | (go_at_call 58; refine hc.out.mono ?_; rintro e w' ⟨rfl, rfl⟩))
      go_ret2
      exact ⟨rfl, Below.refl _ _⟩
    · rw [if_neg h2]
      have e2 := str_dot h2
      by_cases h3 : x = dotsT
      · rw [if_pos h3]
        subst h3
        unfold dotsT
        by_cases h4 : 0 < I.links
        · by_cases h5 : I.parent = 0
          · rw [if_neg (fun h => h.2 h5)]
            rw [h5] at c6
            go_enter Tryz.func251, Tryz.ntmps251
            go_wp2_with (first | (go_at_call 254; refine he.out.mono ?_; rintro e w' ⟨rfl, rfl⟩) | (go_at_call 58; refine hc.out.mono ?_; rintro e w' ⟨rfl, rfl⟩))
            go_ret2
            exact ⟨rfl, Below.refl _ _⟩
          · rw [if_pos ⟨h4, h5⟩]
            have e5 : ((I.parent : Int) == 0) = false := beq_eq_false_iff_ne.2 (by omega)
            go_enter Tryz.func251, Tryz.ntmps251
            go_wp2_with (first | (go_at_call 254; refine he.out.mono ?_; rintro e w' ⟨rfl, rfl⟩) | (go_at_call 58; refine hc.out.mono ?_; rintro e w' ⟨rfl, rfl⟩))
            go_ret2
            exact ⟨rfl, Below.refl _ _⟩
        · rw [if_neg (fun h => h4 h.1)]
          go_enter Tryz.func251, Tryz.ntmps251
          go_wp2_with (first | (go_at_call 254; refine he.out.mono ?_; rintro e w' ⟨rfl, rfl⟩) | (go_at_call 58; refine hc.out.mono ?_; rintro e w' ⟨rfl, rfl⟩))
          go_ret2
          exact ⟨rfl, Below.refl _ _⟩
      · rw [if_neg h3]
        have e3 := str_dots h3
        by_cases h4 : 32 < x.size
        · rw [if_pos h4]
          go_enter Tryz.func251, Tryz.ntmps251
          go_wp2_with (first | (go_at_call 254; refine he.out.mono ?_; rintro e w' ⟨rfl, rfl⟩) | (go_at_call 58; refine hc.out.mono ?_; rintro e w' ⟨rfl, rfl⟩))
          go_ret2
          exact ⟨rfl, Below.refl _ _⟩
        · rw [if_neg h4]
          by_cases h5 : lookM I.ents x = 0
          · rw [if_pos h5]
            rw [h5] at hlo
            go_enter Tryz.func251, Tryz.ntmps251
            go_wp2_with (first | (go_at_call 254; refine he.out.mono ?_; rintro e w' ⟨rfl, rfl⟩) | (go_at_call 58; refine hc.out.mono ?_; rintro e w' ⟨rfl, rfl⟩) | (go_at_call 131; refine hlo.out.mono ?_; rintro e w1 ⟨rfl, hb⟩))
            go_ret2
            exact ⟨rfl, hb⟩
          · rw [if_neg h5]
            obtain ⟨k, hk⟩ : ∃ k, lookM I.ents x = k := ⟨_, rfl⟩
            rw [hk] at hlo h5 ⊢
            have e5 : ((k : Int) == 0) = false := beq_eq_false_iff_ne.2 (by omega)
            clear hk
            go_enter Tryz.func251, Tryz.ntmps251
            go_wp2_with (first | (go_at_call 254; refine he.out.mono ?_; rintro e w' ⟨rfl, rfl⟩) | (go_at_call 58; refine hc.out.mono ?_; rintro e w' ⟨rfl, rfl⟩) | (go_at_call 131; refine hlo.out.mono ?_; rintro e w1 ⟨rfl, hb⟩))
            go_ret2
            exact ⟨rfl, hb⟩
  · rw [if_pos h1]
    have e1 : ((E : Int) != 0) = true := by simp; omega
    go_enter Tryz.func251, Tryz.ntmps251
    go_wp2_with (go_at_call 254; refine he.out.mono ?_; rintro e w' ⟨rfl, rfl⟩)
    go_ret2
    exact ⟨rfl, Below.refl _ _⟩
end
end Go.Proofs.YtmilagppbepnbaaGreat
/- A way along a path. Condition: the tree lies as stated, and leads where there is something. -/
namespace Go.Proofs.YtmilagppbepnbaaGreat
open Go.RowKit Go.Shelf Go.PlainAid
attribute [local go_sem] Oper.semAt_some

/-- Where a step leads there is something. -/
def Closed (f : Fs) : Prop := (node f 1).isSome ∧ ∀ n x, (node f n).isSome → (stepM f n x).2 = 0 → (node f (stepM f n x).1).isSome
theorem steps_on {f : Fs} {n : Int} {p : ByteArray} (l : List ByteArray) (h : (stepM f n p).2 = 0) : stepsM f n (p :: l) = stepsM f (stepM f n p).1 l := by rw [stepsM, if_neg (fun h' => h' h)]
theorem steps_off {f : Fs} {n : Int} {p : ByteArray} (l : List ByteArray) (h : (stepM f n p).2 ≠ 0) : stepsM f n (p :: l) = (0, (stepM f n p).2) := by rw [stepsM, if_pos h]
theorem steps_ok (f : Fs) (x : ByteArray) : ∀ (l : List ByteArray) (n : Int), (stepsM f n l).2 = 0 → (stepM f (stepsM f n l).1 x).2 = 0 → stepsM f n (l ++ [x]) = ((stepM f (stepsM f n l).1 x).1, 0)
  | [], n, _, h => by
    have h' : (stepM f n x).2 = 0 := h
    rw [List.nil_append, steps_on [] h']
    rfl
  | p :: l, n, h, hx => by
    by_cases h1 : (stepM f n p).2 = 0
    · rw [steps_on l h1] at h hx ⊢
      rw [List.cons_append, steps_on (l ++ [x]) h1]
      exact steps_ok f x l _ h hx
    · rw [steps_off l h1] at h; exact absurd h h1
theorem steps_no (f : Fs) (x : ByteArray) : ∀ (l : List ByteArray) (n : Int), (stepsM f n l).2 = 0 → (stepM f (stepsM f n l).1 x).2 ≠ 0 → stepsM f n (l ++ [x]) = (0, (stepM f (stepsM f n l).1 x).2)
  | [], n, _, h => by
    have h' : (stepM f n x).2 ≠ 0 := h
    rw [List.nil_append, steps_off [] h']
    rfl
  | p :: l, n, h, hx => by
    by_cases h1 : (stepM f n p).2 = 0
    · rw [steps_on l h1] at h hx ⊢
      rw [List.cons_append, steps_on (l ++ [x]) h1]
      exact steps_no f x l _ h hx
    · rw [steps_off l h1] at h; exact absurd h h1
theorem steps_bad (f : Fs) : ∀ (l t : List ByteArray) (n : Int), (stepsM f n l).2 ≠ 0 → stepsM f n (l ++ t) = (0, (stepsM f n l).2)
  | [], _, _, h => absurd rfl h
  | p :: l, t, n, h => by
    by_cases h1 : (stepM f n p).2 = 0
    · rw [steps_on l h1] at h ⊢
      rw [List.cons_append, steps_on (l ++ t) h1]
      exact steps_bad f l t _ h
    · rw [steps_off l h1, List.cons_append, steps_off (l ++ t) h1]
theorem steps_live {f : Fs} (hc : Closed f) : ∀ (l : List ByteArray) (n : Int), (node f n).isSome → (stepsM f n l).2 = 0 → (node f (stepsM f n l).1).isSome
  | [], _, h, _ => h
  | p :: l, n, h, h0 => by
    by_cases h1 : (stepM f n p).2 = 0
    · rw [steps_on l h1] at h0 ⊢
      exact steps_live hc l _ (hc.2 _ _ h h1) h0
    · rw [steps_off l h1] at h0; exact absurd h0 h1
theorem begin_live {f : Fs} (hc : Closed f) {dir : Int} (hd : (node f dir).isSome) (s : ByteArray) (h : (beginM dir s).2 = 0) : (node f (beginM dir s).1).isSome := by
  unfold beginM at h ⊢
  split at h
  · cases h
  · rename_i h1
    rw [if_neg h1]
    split at h
    · cases h
    · rename_i h2
      rw [if_neg h2]
      split
      · exact hc.1
      · exact hd
section
variable {w : World} {B : Nat → Nat → Prop} {p : Nat} {f : Fs} {sv : Value} {ps : List (Option Nat)}
set_option maxRecDepth 100000 in
set_option maxHeartbeats 4000000 in
theorem walk_in (n : Nat) (hn : 3 ≤ n) (h : FsAt w B p f sv ps) (hf : FineF f) (hcl : Closed f) (dir : Int) (hd : (node f dir).isSome) (s : ByteArray) (hs : s.size ≤ maxLen) :
    CallsIn Fence.wide n Tryz.prog 203 #[.pointer (some ⟨p, 0, none⟩), .int .i64 dir, .string s] w fun e w' => e = .returned (.tuple #[.int .i64 (walkM f dir s).1, .int .i64 (walkM f dir s).2]) ∧ Below w.heap.size w w' := by
  have h1 : 1 ≤ n := by omega
  have hpl := h.lt 0 p h.bp
  obtain ⟨z, hz⟩ : ∃ z, w.heap.size = z := ⟨_, rfl⟩
  have hH := Lib.hid h
  have hzH := Lib.hid hz
  have hbe := Lib.hid (fun w => begin_any dir s w hs)
  have hsl := Lib.hid (fun w => slashed_any s w hs)
  clear h
  refine callsIn_of_wp_marks Tryz.func203 rfl trivial ?_ rfl
  simp only [Tryz.ntmps203, List.size_toArray, List.length_cons, List.length_nil, Nat.reduceAdd, Nat.reduceSub, Array.replicate_succ, Array.replicate_zero, List.push_toArray, List.append_toArray, List.nil_append, List.cons_append]
  obtain ⟨m, hm⟩ : ∃ m, beginM dir s = m := ⟨_, rfl⟩
  have hlv := begin_live hcl hd s
  have hW : Hid (walkM f dir s = if (beginM dir s).2 ≠ 0 then (0, (beginM dir s).2) else if (stepsM f (beginM dir s).1 (pieces s)).2 ≠ 0 then (0, (stepsM f (beginM dir s).1 (pieces s)).2) else if slashed s && !isDir f (stepsM f (beginM dir s).1 (pieces s)).1 then (0, 20) else ((stepsM f (beginM dir s).1 (pieces s)).1, 0)) := Lib.hid rfl
  rw [hm] at hbe hlv hW
  obtain ⟨d0, e0⟩ := m
  have hfH := Lib.hid hf
  have hclH := Lib.hid hcl
  clear hf hcl hd hm
  by_cases he : e0 = 0
  · subst he
    have hlv2 := Lib.hid (hlv rfl)
    clear hlv
    dsimp only at hW hlv2 hbe
    rw [hW.out, if_neg (fun h => h rfl)]
    obtain ⟨R, hR⟩ : ∃ R, (if (stepsM f d0 (pieces s)).2 ≠ 0 then (0, (stepsM f d0 (pieces s)).2) else if slashed s && !isDir f (stepsM f d0 (pieces s)).1 then (0, 20) else ((stepsM f d0 (pieces s)).1, 0)) = R := ⟨_, rfl⟩
    rw [hR]
    have hRH := Lib.hid hR
    clear hR
    obtain ⟨w0, hw0⟩ : ∃ x, (((((w.alloc (.cells #[.pointer (some ⟨p, 0, none⟩)] 54)).alloc (.cells #[.int .i64 0] 3)).alloc (.cells #[.int .i64 0] 42)).alloc (.cells #[.int .i64 d0] 3)).alloc (.cells #[.int .i64 0] 42)).alloc (.cells #[.string s] 9) = x := ⟨_, rfl⟩
    have hb0 : Hid (Below z w w0) := Lib.hid (by rw [← hw0, ← hz]; exact (((((alB _ _).alloc (by simp) _).alloc (by simp; omega) _).alloc (by simp; omega) _).alloc (by simp; omega) _).alloc (by simp; omega) _)
    have hs0 : w0.heap.size = z + 6 := by rw [← hw0]; simp [hz]
    have k0 : Blk w0 z 54 #[.pointer (some ⟨p, 0, none⟩)] := by rw [← hw0, ← hz]; exact (((((Blk.new _ _ _).alloc _).alloc _).alloc _).alloc _).alloc _
    have k1 : Blk w0 (z + 1) 3 #[.int .i64 0] := by rw [← hw0]; exact ((((newB _ _ (z + 1) (by simp [hz])).alloc _).alloc _).alloc _).alloc _
    have k2 : Blk w0 (z + 2) 42 #[.int .i64 0] := by rw [← hw0]; exact (((newB _ _ (z + 2) (by simp [hz])).alloc _).alloc _).alloc _
    have k3 : Blk w0 (z + 3) 3 #[.int .i64 d0] := by rw [← hw0]; exact ((newB _ _ (z + 3) (by simp [hz])).alloc _).alloc _
    have k4 : Blk w0 (z + 4) 42 #[.int .i64 0] := by rw [← hw0]; exact (newB _ _ (z + 4) (by simp [hz])).alloc _
    have k5 : Blk w0 (z + 5) 9 #[.string s] := by rw [← hw0]; exact newB _ _ (z + 5) (by simp [hz])
    have hw0H := Lib.hid hw0
    clear hw0
    gi_wp2_with (first | (refine ⟨trivial, ?_⟩; gi_at_call 249; refine (callsIn_wide.2 (hbe.out _)).mono ?_; rintro e w' ⟨rfl, rfl⟩) | (refine ⟨trivial, ?_⟩; gi_at_call 250; refine (callsIn_wide.2 (pieces_any s _)).mono ?_; rintro e w' ⟨rfl, rfl⟩))
    rw [hw0H.out]
    have hFs : Hid (∀ W, (∀ g, g < z → W.heap[g]? = w0.heap[g]?) → z ≤ W.heap.size → FsAt W B p f sv ps) := Lib.hid (fun W hg hsz => hH.out.keep (by rw [hz]; exact hsz) (fun i g hB => by have := hH.out.lt i g hB; rw [hz] at this; exact (hg g this).trans (hb0.out.block g this)))
    apply range_law rfl h1 (gf := 270) (lb := #[.pointer (some ⟨z + 5, 0, none⟩)]) rfl trivial (enters_of Tryz.func270 (by kernel_rfl) rfl)
      (pieces_stops (n - 1) (by omega) (z + 5) s (fun _ _ _ _ => True) w0 hs k5) (fun k hk => by rw [List.mem_singleton.1 hk]; omega) (fun _ _ _ _ _ _ _ _ _ => trivial) (Below.refl _ _) (fun _ => rfl)
      (fun T pre W => InvG (z + 6) (fun g => z + 1 ≤ g) (fun g => g = z + 5) w0 T W ∧ (stepsM f d0 pre).2 = 0 ∧ Blk W (z + 1) 3 #[.int .i64 0] ∧ Blk W (z + 2) 42 #[.int .i64 0] ∧ Blk W (z + 3) 3 #[.int .i64 (stepsM f d0 pre).1] ∧ Blk W (z + 4) 42 #[.int .i64 0])
      (fun c T pre W => c = .ret ∧ InvG (z + 6) (fun g => z + 1 ≤ g) (fun g => g = z + 5) w0 T W ∧ (stepsM f d0 pre).2 ≠ 0 ∧ Blk W (z + 1) 3 #[.int .i64 0] ∧ Blk W (z + 2) 42 #[.int .i64 (stepsM f d0 pre).2])
      (fun T T' pre A B hi he => ⟨hi.1.ext (fun g h => by omega) he, hi.2.1, blk_ext hi.2.2.1 hi.1.ts (by omega) (by omega) he, blk_ext hi.2.2.2.1 hi.1.ts (by omega) (by omega) he, blk_ext hi.2.2.2.2.1 hi.1.ts (by omega) (by omega) he, blk_ext hi.2.2.2.2.2 hi.1.ts (by omega) (by omega) he⟩)
      (fun c T T' pre A B hi he => ⟨hi.1, hi.2.1.ext (fun g h => by omega) he, hi.2.2.1, blk_ext hi.2.2.2.1 hi.2.1.ts (by omega) (by omega) he, blk_ext hi.2.2.2.2 hi.2.1.ts (by omega) (by omega) he⟩)
      ⟨InvG.start (fun k hk => List.mem_singleton.1 hk) (by omega), rfl, k1, k2, k3, k4⟩
      ?_ (fun _ W => W) (fun _ _ => Below.refl _ _) (fun _ _ _ _ h => h) ?assign ?body ?done ?stop
    case assign =>
      intro l x W K hK
      dsimp only [encS]
      gi_wp2
      exact hK
    case body =>
      intro l T pre x W W' o hsp _ _ hW' ⟨hI, h2, m1, m2, m3, m4⟩
      clear hW'
      have hA := Lib.hid (hFs.out W' (fun g hg => hI.block g (by omega) (by omega)) (by have := hI.n0; omega))
      have m0 : Blk W' z 54 #[.pointer (some ⟨p, 0, none⟩)] := (hI.block z (by omega) (by omega)).trans k0
      obtain ⟨cur, hcur⟩ : ∃ c, (stepsM f d0 pre).1 = c := ⟨_, rfl⟩
      have hlc := steps_live hclH.out pre d0 hlv2.out h2
      rw [hcur] at hlc m3
      obtain ⟨J, hJ⟩ := Option.isSome_iff_exists.1 hlc
      have hst := Lib.hid (step_any hA.out hJ hfH.out x)
      have y0 : W'.cell? ⟨z, 0, none⟩ = some (.pointer (some ⟨p, 0, none⟩)) := m0.cell 0
      have y3 : W'.cell? ⟨z + 1 + 1 + 1, 0, none⟩ = some (.int .i64 cur) := m3.cell 0
      have hok := steps_ok f x pre d0 h2
      have hno := steps_no f x pre d0 h2
      rw [hcur] at hok hno
      obtain ⟨r, hr⟩ : ∃ r, stepM f cur x = r := ⟨_, rfl⟩
      rw [hr] at hst hok hno
      obtain ⟨rn, re⟩ := r
      dsimp only at hst hok hno
      have hokH := Lib.hid hok
      have hnoH := Lib.hid hno
      have hIH := Lib.hid hI
      have mH := Lib.hid (And.intro m1 (And.intro m2 (And.intro m3 m4)))
      clear hI hok hno hr hcur m0 m1 m2 m3 m4 hJ hlc h2
      by_cases hre : re = 0
      · subst hre
        gi_wp2_with fail
        refine ⟨trivial, (fun h => by cases h), ?_⟩
        refine (CallsIn.inRound l (callsIn_wide.2 hst.out)).mono ?_
        rintro e W2 ⟨rfl, hb⟩
        have q3 := Lib.hid (blk_beneath mH.out.2.2.1 hb)
        have q4 := Lib.hid (blk_beneath mH.out.2.2.2 hb)
        have x3 : W2.cell? ⟨z + 1 + 1 + 1, 0, none⟩ = some (.int .i64 cur) := q3.out.cell 0
        have g3 : W2.frozen? ⟨z + 1 + 1 + 1, 0, none⟩ = false := q3.out.frozen 0
        have x4 : W2.cell? ⟨z + 1 + 1 + 1 + 1, 0, none⟩ = some (.int .i64 0) := q4.out.cell 0
        have g4 : W2.frozen? ⟨z + 1 + 1 + 1 + 1, 0, none⟩ = false := q4.out.frozen 0
        have hbH := Lib.hid hb
        clear hb
        gi_wp2
        refine ⟨⟨((hIH.out.below hbH.out).set (c := z + 3) (.inl (by omega)) _).set (c := z + 4) (.inl (by omega)) _, by rw [hokH.out (by simp)], ((blk_beneath mH.out.1 hbH.out).far (by show z + 1 ≠ z + 3; omega) _).far (by show z + 1 ≠ z + 4; omega) _, ((blk_beneath mH.out.2.1 hbH.out).far (by show z + 2 ≠ z + 3; omega) _).far (by show z + 2 ≠ z + 4; omega) _, ?_, ?_⟩, keepsT hIH.out (by simp only [World.size_setCell]; exact hbH.out.size) (fun g hg hl => (Below.heap_setCell _ _ _ _ (fun e => by have e' : g = z + 4 := e; omega)).trans ((Below.heap_setCell _ _ _ _ (fun e => by have e' : g = z + 3 := e; omega)).trans (hbH.out.block g hl))), trivial⟩
        · rw [hokH.out (by simp)]; exact (q3.out.set_ 0 (.int .i64 rn)).far (by show z + 3 ≠ z + 4; omega) _
        · exact (q4.out.far (by show z + 4 ≠ z + 3; omega) _).set_ 0 (.int .i64 0)
      · have he2 : ((re : Int) != 0) = true := by simp; omega
        have hreH := Lib.hid hre
        clear hre
        gi_wp2_with fail
        refine ⟨trivial, (fun h => by cases h), ?_⟩
        refine (CallsIn.inRound l (callsIn_wide.2 hst.out)).mono ?_
        rintro e W2 ⟨rfl, hb⟩
        have q1 := Lib.hid (blk_beneath mH.out.1 hb)
        have q2 := Lib.hid (blk_beneath mH.out.2.1 hb)
        have q3 := Lib.hid (blk_beneath mH.out.2.2.1 hb)
        have q4 := Lib.hid (blk_beneath mH.out.2.2.2 hb)
        have x1 : W2.cell? ⟨z + 1, 0, none⟩ = some (.int .i64 0) := q1.out.cell 0
        have g1 : W2.frozen? ⟨z + 1, 0, none⟩ = false := q1.out.frozen 0
        have x2 : W2.cell? ⟨z + 1 + 1, 0, none⟩ = some (.int .i64 0) := q2.out.cell 0
        have g2 : W2.frozen? ⟨z + 1 + 1, 0, none⟩ = false := q2.out.frozen 0
        have x3 : W2.cell? ⟨z + 1 + 1 + 1, 0, none⟩ = some (.int .i64 cur) := q3.out.cell 0
        have g3 : W2.frozen? ⟨z + 1 + 1 + 1, 0, none⟩ = false := q3.out.frozen 0
        have x4 : W2.cell? ⟨z + 1 + 1 + 1 + 1, 0, none⟩ = some (.int .i64 0) := q4.out.cell 0
        have g4 : W2.frozen? ⟨z + 1 + 1 + 1 + 1, 0, none⟩ = false := q4.out.frozen 0
        have hbH := Lib.hid hb
        clear hb
        gi_wp2
        gi_region
        all_goals
          gi_wp2
          have hnx := hnoH.out hreH.out
          refine ⟨⟨rfl, ?_, by rw [hnx]; exact hreH.out, ?_, ?_⟩, keepsT hIH.out (by simp only [World.drew, World.size_setCell]; exact hbH.out.size) (fun g hg hl => ?_)⟩
          · first
              | exact (((((hIH.out.below hbH.out).set (c := z + 3) (.inl (by omega)) _).set (c := z + 4) (.inl (by omega)) _).set (c := z + 1) (.inl (by omega)) _).set (c := z + 2) (.inl (by omega)) _).drew
              | exact (((((hIH.out.below hbH.out).set (c := z + 3) (.inl (by omega)) _).set (c := z + 4) (.inl (by omega)) _).set (c := z + 2) (.inl (by omega)) _).set (c := z + 1) (.inl (by omega)) _).drew
          · first
              | exact (((q1.out.far (p := ⟨z + 3, 0, none⟩) (by show z + 1 ≠ z + 3; omega) _).far (p := ⟨z + 4, 0, none⟩) (by show z + 1 ≠ z + 4; omega) _).set_ 0 (.int .i64 0)).far (p := ⟨z + 2, 0, none⟩) (by show z + 1 ≠ z + 2; omega) _
              | exact (((q1.out.far (p := ⟨z + 3, 0, none⟩) (by show z + 1 ≠ z + 3; omega) _).far (p := ⟨z + 4, 0, none⟩) (by show z + 1 ≠ z + 4; omega) _).far (p := ⟨z + 2, 0, none⟩) (by show z + 1 ≠ z + 2; omega) _).set_ 0 (.int .i64 0)
          · rw [hnx]
            first
              | exact (((q2.out.far (p := ⟨z + 3, 0, none⟩) (by show z + 2 ≠ z + 3; omega) _).far (p := ⟨z + 4, 0, none⟩) (by show z + 2 ≠ z + 4; omega) _).far (p := ⟨z + 1, 0, none⟩) (by show z + 2 ≠ z + 1; omega) _).set_ 0 (.int .i64 re)
              | exact (((q2.out.far (p := ⟨z + 3, 0, none⟩) (by show z + 2 ≠ z + 3; omega) _).far (p := ⟨z + 4, 0, none⟩) (by show z + 2 ≠ z + 4; omega) _).set_ 0 (.int .i64 re)).far (p := ⟨z + 1, 0, none⟩) (by show z + 2 ≠ z + 1; omega) _
          · exact (Below.heap_setCell _ _ _ _ (fun e => by dsimp only at e; omega)).trans ((Below.heap_setCell _ _ _ _ (fun e => by dsimp only at e; omega)).trans ((Below.heap_setCell _ _ _ _ (fun e => by dsimp only at e; omega)).trans ((Below.heap_setCell _ _ _ _ (fun e => by dsimp only at e; omega)).trans (hbH.out.block g hl))))
    case done =>
      rintro D T xs W hD _ rfl ⟨hI, h2, m1, m2, m3, m4⟩ hK
      have hA := Lib.hid (hFs.out W (fun g hg => hI.block g (by omega) (by omega)) (by have := hI.n0; omega))
      have m0 : Blk W z 54 #[.pointer (some ⟨p, 0, none⟩)] := (hI.block z (by omega) (by omega)).trans k0
      have hlc := steps_live hclH.out (pieces s) d0 hlv2.out h2
      have hR2 := hRH.out
      rw [if_neg (fun h => h h2)] at hR2
      obtain ⟨cur, hcur⟩ : ∃ c, (stepsM f d0 (pieces s)).1 = c := ⟨_, rfl⟩
      rw [hcur] at hlc m3 hR2
      obtain ⟨J, hJ⟩ := Option.isSome_iff_exists.1 hlc
      have hid : isDir f cur = J.isDir := by unfold isDir; rw [hJ]
      obtain ⟨i, q, rfl, _, _, i4, dv, ev, i5⟩ := node_where hA.out hJ
      have hno := Lib.hid (node_yes hA.out i4 (by have := hfH.out.1; omega))
      have hdi := Lib.hid (isDir_any i5)
      have y0 : W.cell? ⟨z, 0, none⟩ = some (.pointer (some ⟨p, 0, none⟩)) := m0.cell 0
      have y1 : W.cell? ⟨z + 1, 0, none⟩ = some (.int .i64 0) := m1.cell 0
      have f1 : W.frozen? ⟨z + 1, 0, none⟩ = false := m1.frozen 0
      have y2 : W.cell? ⟨z + 1 + 1, 0, none⟩ = some (.int .i64 0) := m2.cell 0
      have f2 : W.frozen? ⟨z + 1 + 1, 0, none⟩ = false := m2.frozen 0
      have y3 : W.cell? ⟨z + 1 + 1 + 1, 0, none⟩ = some (.int .i64 ((i : Int) + 1)) := m3.cell 0
      have hIH := Lib.hid hI
      have mH := Lib.hid (And.intro m1 m2)
      have hKH := Lib.hid hK
      have hend : Hid (∀ u v : Value, ∀ W2, W2 = (W.setCell ⟨z + 1, 0, none⟩ u).setCell ⟨z + 2, 0, none⟩ v → W2.heap[D]? = some (.deferred (some [])) ∧ (W2.putObj D (.deferred none)).cell? ⟨z + 1, 0, none⟩ = some u ∧ (W2.putObj D (.deferred none)).cell? ⟨z + 2, 0, none⟩ = some v ∧ Below w.heap.size w (W2.putObj D (.deferred none))) := Lib.hid (fun u v W2 e => by
        subst e
        have hD2 : ((W.setCell ⟨z + 1, 0, none⟩ u).setCell ⟨z + 2, 0, none⟩ v).heap[D]? = some (.deferred (some [])) := (Below.heap_setCell _ _ _ _ (fun e => by dsimp only at e; omega)).trans ((Below.heap_setCell _ _ _ _ (fun e => by dsimp only at e; omega)).trans hK)
        have b1 : Blk (((W.setCell ⟨z + 1, 0, none⟩ u).setCell ⟨z + 2, 0, none⟩ v).putObj D (.deferred none)) (z + 1) 3 #[u] := (World.putObj_heap_other (by omega)).trans ((m1.set_ 0 u).far (p := ⟨z + 2, 0, none⟩) (by show z + 1 ≠ z + 2; omega) v)
        have b2 : Blk (((W.setCell ⟨z + 1, 0, none⟩ u).setCell ⟨z + 2, 0, none⟩ v).putObj D (.deferred none)) (z + 2) 42 #[v] := (World.putObj_heap_other (by omega)).trans ((m2.far (p := ⟨z + 1, 0, none⟩) (by show z + 2 ≠ z + 1; omega) u).set_ 0 v)
        refine ⟨hD2, b1.cell 0, b2.cell 0, ?_⟩
        have hbW := hI.toBelow (w := w) (by rw [hz]; exact hb0.out) (fun g hg => by omega) (by omega)
        exact ((hbW.setCell (p := ⟨z + 1, 0, none⟩) (by show w.heap.size ≤ z + 1; omega) u).setCell (p := ⟨z + 2, 0, none⟩) (by show w.heap.size ≤ z + 2; omega) v).trans (belowK_b (w := w) (Nat.le_refl _) _ D _ _ (by omega) hD2 rfl rfl))
      clear hI m0 m1 m2 m3 m4 hlc hJ hA i4 i5 hK h2 hcur
      rw [hid] at hR2
      cases hsd : slashed s with
      | false =>
        rw [hsd] at hsl hR2
        rw [if_neg (by simp)] at hR2
        subst hR2
        gi_wp2_with (refine ⟨trivial, ?_⟩; gi_at_call 207; refine (callsIn_wide.2 (hsl.out _)).mono ?_; rintro e w' ⟨rfl, rfl⟩)
        refine ⟨trivial, ?_⟩
        gi_wp2
        refine ⟨trivial, ?_⟩
        gi_wp2
        obtain ⟨hD2, q1, q2, hbl⟩ := hend.out (.int .i64 ((i : Int) + 1)) (.int .i64 0) _ rfl
        refine ⟨by simp, .inl ⟨_, _, rfl, run_takeDeferred hD2, ?_⟩⟩
        refine ⟨.tuple #[.int .i64 ((i : Int) + 1), .int .i64 0], ?_, rfl, hzH.out ▸ hbl⟩
        simp [results, Tryz.results203, go_sem, q1, q2]
      | true =>
        rw [hsd] at hsl hR2
        cases hjd : J.isDir with
        | true =>
          rw [hjd] at hdi hR2
          rw [if_neg (by simp)] at hR2
          subst hR2
          gi_wp2_with (first | (refine ⟨trivial, ?_⟩; gi_at_call 207; refine (callsIn_wide.2 (hsl.out _)).mono ?_; rintro e w' ⟨rfl, rfl⟩) | (refine ⟨trivial, ?_⟩; gi_at_call 58; refine (callsIn_wide.2 hno.out).mono ?_; rintro e w' ⟨rfl, rfl⟩) | (refine ⟨trivial, ?_⟩; gi_at_call 132; refine (callsIn_wide.2 hdi.out).mono ?_; rintro e w' ⟨rfl, rfl⟩))
          obtain ⟨hD2, q1, q2, hbl⟩ := hend.out (.int .i64 ((i : Int) + 1)) (.int .i64 0) _ rfl
          refine ⟨by simp, .inl ⟨_, _, rfl, run_takeDeferred hD2, ?_⟩⟩
          refine ⟨.tuple #[.int .i64 ((i : Int) + 1), .int .i64 0], ?_, rfl, hzH.out ▸ hbl⟩
          simp [results, Tryz.results203, go_sem, q1, q2]
        | false =>
          rw [hjd] at hdi hR2
          rw [if_pos (by simp)] at hR2
          subst hR2
          gi_wp2_with (first | (refine ⟨trivial, ?_⟩; gi_at_call 207; refine (callsIn_wide.2 (hsl.out _)).mono ?_; rintro e w' ⟨rfl, rfl⟩) | (refine ⟨trivial, ?_⟩; gi_at_call 58; refine (callsIn_wide.2 hno.out).mono ?_; rintro e w' ⟨rfl, rfl⟩) | (refine ⟨trivial, ?_⟩; gi_at_call 132; refine (callsIn_wide.2 hdi.out).mono ?_; rintro e w' ⟨rfl, rfl⟩))
          obtain ⟨hD2, q1, q2, hbl⟩ := hend.out (.int .i64 0) (.int .i64 20) _ rfl
          refine ⟨by simp, .inl ⟨_, _, rfl, run_takeDeferred hD2, ?_⟩⟩
          refine ⟨.tuple #[.int .i64 0, .int .i64 20], ?_, rfl, hzH.out ▸ hbl⟩
          simp [results, Tryz.results203, go_sem, q1, q2]
    case stop =>
      rintro D c T pre W hD _ hsp ⟨rfl, hI, h2, m1, m2⟩ hK
      have hR2 := hRH.out
      obtain ⟨t, ht⟩ := hsp
      have hbad := steps_bad f pre t d0 h2
      rw [ht] at hbad
      rw [hbad, if_pos h2] at hR2
      subst hR2
      have b1 : Blk (W.putObj D (.deferred none)) (z + 1) 3 #[.int .i64 0] := (World.putObj_heap_other (by omega)).trans m1
      have b2 : Blk (W.putObj D (.deferred none)) (z + 2) 42 #[.int .i64 (stepsM f d0 pre).2] := (World.putObj_heap_other (by omega)).trans m2
      have q1 : (W.putObj D (.deferred none)).cell? ⟨z + 1, 0, none⟩ = some (.int .i64 0) := b1.cell 0
      have q2 : (W.putObj D (.deferred none)).cell? ⟨z + 2, 0, none⟩ = some (.int .i64 (stepsM f d0 pre).2) := b2.cell 0
      have hbW : Below w.heap.size w (W.putObj D (.deferred none)) := (hI.toBelow (w := w) (by rw [hz]; exact hb0.out) (fun g hg => by omega) (by omega)).trans (belowK_b (w := w) (Nat.le_refl _) W D _ _ (by omega) hK rfl rfl)
      have hKH := Lib.hid hK
      clear hI m1 m2 h2 hbad ht b1 b2 hK
      gi_wp2
      refine ⟨by simp, .inl ⟨_, _, rfl, run_takeDeferred hKH.out, ?_⟩⟩
      refine ⟨.tuple #[.int .i64 0, .int .i64 (stepsM f d0 pre).2], ?_, rfl, hzH.out ▸ hbW⟩
      simp [results, Tryz.results203, go_sem, q1, q2]
  · dsimp only at hW hbe
    rw [hW.out, if_pos he]
    have he2 : ((e0 : Int) != 0) = true := by simp; omega
    obtain ⟨w1, hw1⟩ : ∃ x, ((((w.alloc (.cells #[.pointer (some ⟨p, 0, none⟩)] 54)).alloc (.cells #[.int .i64 0] 3)).alloc (.cells #[.int .i64 0] 42)).alloc (.cells #[.int .i64 d0] 3)).alloc (.cells #[.int .i64 e0] 42) = x := ⟨_, rfl⟩
    have hb1 : Hid (Below z w w1) := Lib.hid (by rw [← hw1, ← hz]; exact ((((alB _ _).alloc (by simp) _).alloc (by simp; omega) _).alloc (by simp; omega) _).alloc (by simp; omega) _)
    have k1 : Blk w1 (z + 1) 3 #[.int .i64 0] := by rw [← hw1]; exact (((newB _ _ (z + 1) (by simp [hz])).alloc _).alloc _).alloc _
    have k2 : Blk w1 (z + 2) 42 #[.int .i64 0] := by rw [← hw1]; exact ((newB _ _ (z + 2) (by simp [hz])).alloc _).alloc _
    have k4 : Blk w1 (z + 4) 42 #[.int .i64 e0] := by rw [← hw1]; exact newB _ _ (z + 4) (by simp [hz])
    have hw1H := Lib.hid hw1
    have x1 : w1.cell? ⟨z + 1, 0, none⟩ = some (.int .i64 0) := k1.cell 0
    have g1 : w1.frozen? ⟨z + 1, 0, none⟩ = false := k1.frozen 0
    have x2 : w1.cell? ⟨z + 1 + 1, 0, none⟩ = some (.int .i64 0) := k2.cell 0
    have g2 : w1.frozen? ⟨z + 1 + 1, 0, none⟩ = false := k2.frozen 0
    have x4 : w1.cell? ⟨z + 1 + 1 + 1 + 1, 0, none⟩ = some (.int .i64 e0) := k4.cell 0
    have kH := Lib.hid (And.intro k1 k2)
    clear hw1 k1 k2 k4 hlv
    gi_upto_region 3 with (refine ⟨trivial, ?_⟩; gi_at_call 249; refine (callsIn_wide.2 (hbe.out _)).mono ?_; rintro e w' ⟨rfl, rfl⟩)
    rw [hw1H.out]
    have hF : Hid (∀ W2, (W2 = (w1.setCell ⟨z + 1, 0, none⟩ (.int .i64 0)).setCell ⟨z + 2, 0, none⟩ (.int .i64 e0) ∨ W2 = (w1.setCell ⟨z + 2, 0, none⟩ (.int .i64 e0)).setCell ⟨z + 1, 0, none⟩ (.int .i64 0)) → W2.drew.cell? ⟨z + 1, 0, none⟩ = some (.int .i64 0) ∧ W2.drew.cell? ⟨z + 2, 0, none⟩ = some (.int .i64 e0) ∧ Below z w W2.drew) := Lib.hid (fun W2 e => by
      rcases e with rfl | rfl
      · have hbb := (hb1.out.setCell (p := ⟨z + 1, 0, none⟩) (by show z ≤ z + 1; omega) (.int .i64 0)).setCell (p := ⟨z + 2, 0, none⟩) (by show z ≤ z + 2; omega) (.int .i64 e0)
        exact ⟨((kH.out.1.set_ 0 (.int .i64 0)).far (p := ⟨z + 2, 0, none⟩) (by show z + 1 ≠ z + 2; omega) _).cell 0, ((kH.out.2.far (p := ⟨z + 1, 0, none⟩) (by show z + 2 ≠ z + 1; omega) _).set_ 0 (.int .i64 e0)).cell 0, ⟨hbb.os, hbb.tape, hbb.output, hbb.size, hbb.block⟩⟩
      · have hbb := (hb1.out.setCell (p := ⟨z + 2, 0, none⟩) (by show z ≤ z + 2; omega) (.int .i64 e0)).setCell (p := ⟨z + 1, 0, none⟩) (by show z ≤ z + 1; omega) (.int .i64 0)
        exact ⟨((kH.out.1.far (p := ⟨z + 2, 0, none⟩) (by show z + 1 ≠ z + 2; omega) _).set_ 0 (.int .i64 0)).cell 0, ((kH.out.2.set_ 0 (.int .i64 e0)).far (p := ⟨z + 1, 0, none⟩) (by show z + 2 ≠ z + 1; omega) _).cell 0, ⟨hbb.os, hbb.tape, hbb.output, hbb.size, hbb.block⟩⟩)
    gi_region
    all_goals
      gi_wp2
      obtain ⟨qa, qb, hbl⟩ := hF.out _ (by first | exact .inl rfl | exact .inr rfl)
      refine ⟨.tuple #[.int .i64 0, .int .i64 e0], ?_, rfl, hbl⟩
      simp [results, Tryz.results203, go_sem, qa, qb]
theorem walk_any (h : FsAt w B p f sv ps) (hf : FineF f) (hcl : Closed f) (dir : Int) (hd : (node f dir).isSome) (s : ByteArray) (hs : s.size ≤ maxLen) :
    Calls Tryz.prog 203 #[.pointer (some ⟨p, 0, none⟩), .int .i64 dir, .string s] w fun e w' => e = .returned (.tuple #[.int .i64 (walkM f dir s).1, .int .i64 (walkM f dir s).2]) ∧ Below w.heap.size w w' := callsIn_wide.1 (walk_in 3 (Nat.le_refl _) h hf hcl dir hd s hs)
end
end Go.Proofs.YtmilagppbepnbaaGreat
/- A way along a path, up to its last piece. Condition: the tree lies as stated, and leads where there is something. -/
namespace Go.Proofs.YtmilagppbepnbaaGreat
open Go.RowKit Go.Shelf Go.PlainAid
attribute [local go_sem] Oper.semAt_some

theorem aheads_first (f : Fs) (n : Int) (x : ByteArray) {last : ByteArray} (h : last.size = 0) (l : List ByteArray) : aheadsM f n last (x :: l) = aheadsM f n x l := by rw [aheadsM, if_pos h]
theorem aheads_on (f : Fs) (n : Int) (x : ByteArray) {last : ByteArray} (h : last.size ≠ 0) (h1 : (stepM f n last).2 = 0) (l : List ByteArray) : aheadsM f n last (x :: l) = aheadsM f (stepM f n last).1 x l := by rw [aheadsM, if_neg h, if_neg (fun h' => h' h1)]
theorem aheads_off (f : Fs) (n : Int) (x : ByteArray) {last : ByteArray} (h : last.size ≠ 0) (h1 : (stepM f n last).2 ≠ 0) (l : List ByteArray) : aheadsM f n last (x :: l) = (0, ⟨#[]⟩, (stepM f n last).2) := by rw [aheadsM, if_neg h, if_pos h1]
theorem aheads_snoc (f : Fs) (x : ByteArray) : ∀ (l : List ByteArray) (n : Int) (last : ByteArray), (aheadsM f n last l).2.2 = 0 → aheadsM f n last (l ++ [x]) = aheadsM f (aheadsM f n last l).1 (aheadsM f n last l).2.1 [x]
  | [], n, last, _ => rfl
  | p :: l, n, last, h => by
    by_cases h0 : last.size = 0
    · rw [aheads_first f n p h0] at h ⊢
      rw [List.cons_append, aheads_first f n p h0]
      exact aheads_snoc f x l _ _ h
    · by_cases h1 : (stepM f n last).2 = 0
      · rw [aheads_on f n p h0 h1] at h ⊢
        rw [List.cons_append, aheads_on f n p h0 h1]
        exact aheads_snoc f x l _ _ h
      · rw [aheads_off f n p h0 h1] at h; exact absurd h h1
theorem aheads_bad (f : Fs) : ∀ (l t : List ByteArray) (n : Int) (last : ByteArray), (aheadsM f n last l).2.2 ≠ 0 → aheadsM f n last (l ++ t) = (0, ⟨#[]⟩, (aheadsM f n last l).2.2)
  | [], _, _, _, h => absurd rfl h
  | p :: l, t, n, last, h => by
    by_cases h0 : last.size = 0
    · rw [aheads_first f n p h0] at h ⊢
      rw [List.cons_append, aheads_first f n p h0]
      exact aheads_bad f l t _ _ h
    · by_cases h1 : (stepM f n last).2 = 0
      · rw [aheads_on f n p h0 h1] at h ⊢
        rw [List.cons_append, aheads_on f n p h0 h1]
        exact aheads_bad f l t _ _ h
      · rw [aheads_off f n p h0 h1, List.cons_append, aheads_off f n p h0 h1]
theorem aheads_live {f : Fs} (hc : Closed f) : ∀ (l : List ByteArray) (n : Int) (last : ByteArray), (node f n).isSome → (aheadsM f n last l).2.2 = 0 → (node f (aheadsM f n last l).1).isSome
  | [], _, _, h, _ => h
  | p :: l, n, last, h, h9 => by
    by_cases h0 : last.size = 0
    · rw [aheads_first f n p h0] at h9 ⊢
      exact aheads_live hc l _ _ h h9
    · by_cases h1 : (stepM f n last).2 = 0
      · rw [aheads_on f n p h0 h1] at h9 ⊢
        exact aheads_live hc l _ _ (hc.2 _ _ h h1) h9
      · rw [aheads_off f n p h0 h1] at h9; exact absurd h9 h1
theorem tri {z : Nat} {W : World} {a b c : Value} (m1 : Blk W (z + 1) 3 #[a]) (m2 : Blk W (z + 2) 9 #[b]) (m3 : Blk W (z + 3) 42 #[c]) (u v x : Value) {W2 : World} (h : W2 = (((W.setCell ⟨z + 1, 0, none⟩ u).setCell ⟨z + 2, 0, none⟩ v).setCell ⟨z + 3, 0, none⟩ x) ∨ W2 = (((W.setCell ⟨z + 1, 0, none⟩ u).setCell ⟨z + 3, 0, none⟩ x).setCell ⟨z + 2, 0, none⟩ v) ∨ W2 = (((W.setCell ⟨z + 2, 0, none⟩ v).setCell ⟨z + 1, 0, none⟩ u).setCell ⟨z + 3, 0, none⟩ x) ∨ W2 = (((W.setCell ⟨z + 2, 0, none⟩ v).setCell ⟨z + 3, 0, none⟩ x).setCell ⟨z + 1, 0, none⟩ u) ∨ W2 = (((W.setCell ⟨z + 3, 0, none⟩ x).setCell ⟨z + 1, 0, none⟩ u).setCell ⟨z + 2, 0, none⟩ v) ∨ W2 = (((W.setCell ⟨z + 3, 0, none⟩ x).setCell ⟨z + 2, 0, none⟩ v).setCell ⟨z + 1, 0, none⟩ u)) :
    Blk W2 (z + 1) 3 #[u] ∧ Blk W2 (z + 2) 9 #[v] ∧ Blk W2 (z + 3) 42 #[x] ∧ (∀ g, g ≠ z + 1 → g ≠ z + 2 → g ≠ z + 3 → W2.heap[g]? = W.heap[g]?) ∧ W2.os = W.os ∧ W2.tape = W.tape ∧ W2.output = W.output ∧ W2.heap.size = W.heap.size := by
  rcases h with rfl | rfl | rfl | rfl | rfl | rfl
  · exact ⟨(((m1.set_ 0 u).far (p := ⟨z + 2, 0, none⟩) (by show z + 1 ≠ z + 2; omega) v).far (p := ⟨z + 3, 0, none⟩) (by show z + 1 ≠ z + 3; omega) x), (((m2.far (p := ⟨z + 1, 0, none⟩) (by show z + 2 ≠ z + 1; omega) u).set_ 0 v).far (p := ⟨z + 3, 0, none⟩) (by show z + 2 ≠ z + 3; omega) x), (((m3.far (p := ⟨z + 1, 0, none⟩) (by show z + 3 ≠ z + 1; omega) u).far (p := ⟨z + 2, 0, none⟩) (by show z + 3 ≠ z + 2; omega) v).set_ 0 x), fun g h1 h2 h3 => (Below.heap_setCell _ _ _ _ (fun e => h3 e)).trans ((Below.heap_setCell _ _ _ _ (fun e => h2 e)).trans (Below.heap_setCell _ _ _ _ (fun e => h1 e))), rfl, rfl, rfl, by simp⟩
  · exact ⟨(((m1.set_ 0 u).far (p := ⟨z + 3, 0, none⟩) (by show z + 1 ≠ z + 3; omega) x).far (p := ⟨z + 2, 0, none⟩) (by show z + 1 ≠ z + 2; omega) v), (((m2.far (p := ⟨z + 1, 0, none⟩) (by show z + 2 ≠ z + 1; omega) u).far (p := ⟨z + 3, 0, none⟩) (by show z + 2 ≠ z + 3; omega) x).set_ 0 v), (((m3.far (p := ⟨z + 1, 0, none⟩) (by show z + 3 ≠ z + 1; omega) u).set_ 0 x).far (p := ⟨z + 2, 0, none⟩) (by show z + 3 ≠ z + 2; omega) v), fun g h1 h2 h3 => (Below.heap_setCell _ _ _ _ (fun e => h2 e)).trans ((Below.heap_setCell _ _ _ _ (fun e => h3 e)).trans (Below.heap_setCell _ _ _ _ (fun e => h1 e))), rfl, rfl, rfl, by simp⟩
  · exact ⟨(((m1.far (p := ⟨z + 2, 0, none⟩) (by show z + 1 ≠ z + 2; omega) v).set_ 0 u).far (p := ⟨z + 3, 0, none⟩) (by show z + 1 ≠ z + 3; omega) x), (((m2.set_ 0 v).far (p := ⟨z + 1, 0, none⟩) (by show z + 2 ≠ z + 1; omega) u).far (p := ⟨z + 3, 0, none⟩) (by show z + 2 ≠ z + 3; omega) x), (((m3.far (p := ⟨z + 2, 0, none⟩) (by show z + 3 ≠ z + 2; omega) v).far (p := ⟨z + 1, 0, none⟩) (by show z + 3 ≠ z + 1; omega) u).set_ 0 x), fun g h1 h2 h3 => (Below.heap_setCell _ _ _ _ (fun e => h3 e)).trans ((Below.heap_setCell _ _ _ _ (fun e => h1 e)).trans (Below.heap_setCell _ _ _ _ (fun e => h2 e))), rfl, rfl, rfl, by simp⟩
  · exact ⟨(((m1.far (p := ⟨z + 2, 0, none⟩) (by show z + 1 ≠ z + 2; omega) v).far (p := ⟨z + 3, 0, none⟩) (by show z + 1 ≠ z + 3; omega) x).set_ 0 u), (((m2.set_ 0 v).far (p := ⟨z + 3, 0, none⟩) (by show z + 2 ≠ z + 3; omega) x).far (p := ⟨z + 1, 0, none⟩) (by show z + 2 ≠ z + 1; omega) u), (((m3.far (p := ⟨z + 2, 0, none⟩) (by show z + 3 ≠ z + 2; omega) v).set_ 0 x).far (p := ⟨z + 1, 0, none⟩) (by show z + 3 ≠ z + 1; omega) u), fun g h1 h2 h3 => (Below.heap_setCell _ _ _ _ (fun e => h1 e)).trans ((Below.heap_setCell _ _ _ _ (fun e => h3 e)).trans (Below.heap_setCell _ _ _ _ (fun e => h2 e))), rfl, rfl, rfl, by simp⟩
  · exact ⟨(((m1.far (p := ⟨z + 3, 0, none⟩) (by show z + 1 ≠ z + 3; omega) x).set_ 0 u).far (p := ⟨z + 2, 0, none⟩) (by show z + 1 ≠ z + 2; omega) v), (((m2.far (p := ⟨z + 3, 0, none⟩) (by show z + 2 ≠ z + 3; omega) x).far (p := ⟨z + 1, 0, none⟩) (by show z + 2 ≠ z + 1; omega) u).set_ 0 v), (((m3.set_ 0 x).far (p := ⟨z + 1, 0, none⟩) (by show z + 3 ≠ z + 1; omega) u).far (p := ⟨z + 2, 0, none⟩) (by show z + 3 ≠ z + 2; omega) v), fun g h1 h2 h3 => (Below.heap_setCell _ _ _ _ (fun e => h2 e)).trans ((Below.heap_setCell _ _ _ _ (fun e => h1 e)).trans (Below.heap_setCell _ _ _ _ (fun e => h3 e))), rfl, rfl, rfl, by simp⟩
  · exact ⟨(((m1.far (p := ⟨z + 3, 0, none⟩) (by show z + 1 ≠ z + 3; omega) x).far (p := ⟨z + 2, 0, none⟩) (by show z + 1 ≠ z + 2; omega) v).set_ 0 u), (((m2.far (p := ⟨z + 3, 0, none⟩) (by show z + 2 ≠ z + 3; omega) x).set_ 0 v).far (p := ⟨z + 1, 0, none⟩) (by show z + 2 ≠ z + 1; omega) u), (((m3.set_ 0 x).far (p := ⟨z + 2, 0, none⟩) (by show z + 3 ≠ z + 2; omega) v).far (p := ⟨z + 1, 0, none⟩) (by show z + 3 ≠ z + 1; omega) u), fun g h1 h2 h3 => (Below.heap_setCell _ _ _ _ (fun e => h1 e)).trans ((Below.heap_setCell _ _ _ _ (fun e => h2 e)).trans (Below.heap_setCell _ _ _ _ (fun e => h3 e))), rfl, rfl, rfl, by simp⟩
end Go.Proofs.YtmilagppbepnbaaGreat
/- walkAhead. Condition: the tree lies as stated, and leads where there is something. -/
namespace Go.Proofs.YtmilagppbepnbaaGreat
open Go.RowKit Go.Shelf Go.PlainAid
attribute [local go_sem] Oper.semAt_some

section
variable {w : World} {B : Nat → Nat → Prop} {p : Nat} {f : Fs} {sv : Value} {ps : List (Option Nat)}
set_option maxRecDepth 100000 in
set_option maxHeartbeats 8000000 in
theorem ahead_in (n : Nat) (hn : 3 ≤ n) (h : FsAt w B p f sv ps) (hf : FineF f) (hcl : Closed f) (dir : Int) (hd : (node f dir).isSome) (s : ByteArray) (hs : s.size ≤ maxLen) :
    CallsIn Fence.wide n Tryz.prog 210 #[.pointer (some ⟨p, 0, none⟩), .int .i64 dir, .string s] w fun e w' => e = .returned (.tuple #[.int .i64 (aheadM f dir s).1, .string (aheadM f dir s).2.1, .int .i64 (aheadM f dir s).2.2]) ∧ Below w.heap.size w w' := by
  have h1 : 1 ≤ n := by omega
  have hpl := h.lt 0 p h.bp
  obtain ⟨z, hz⟩ : ∃ z, w.heap.size = z := ⟨_, rfl⟩
  have hH := Lib.hid h
  have hzH := Lib.hid hz
  have hbe := Lib.hid (fun w => begin_any dir s w hs)
  clear h
  refine callsIn_of_wp_marks Tryz.func210 rfl trivial ?_ rfl
  simp only [Tryz.ntmps210, List.size_toArray, List.length_cons, List.length_nil, Nat.reduceAdd, Nat.reduceSub, Array.replicate_succ, Array.replicate_zero, List.push_toArray, List.append_toArray, List.nil_append, List.cons_append]
  obtain ⟨m, hm⟩ : ∃ m, beginM dir s = m := ⟨_, rfl⟩
  have hlv := begin_live hcl hd s
  have hW : Hid (aheadM f dir s = if (beginM dir s).2 ≠ 0 then (0, ⟨#[]⟩, (beginM dir s).2) else lastM f (aheadsM f (beginM dir s).1 ⟨#[]⟩ (pieces s))) := Lib.hid rfl
  rw [hm] at hbe hlv hW
  obtain ⟨d0, e0⟩ := m
  have hfH := Lib.hid hf
  have hclH := Lib.hid hcl
  clear hf hcl hd hm
  by_cases he : e0 = 0
  · subst he
    have hlv2 := Lib.hid (hlv rfl)
    clear hlv
    dsimp only at hW hlv2 hbe
    rw [hW.out, if_neg (fun h => h rfl)]
    obtain ⟨R, hR⟩ : ∃ R, lastM f (aheadsM f d0 ⟨#[]⟩ (pieces s)) = R := ⟨_, rfl⟩
    rw [hR]
    have hRH := Lib.hid hR
    clear hR
    obtain ⟨w0, hw0⟩ : ∃ x, (((((((w.alloc (.cells #[.pointer (some ⟨p, 0, none⟩)] 54)).alloc (.cells #[.int .i64 0] 3)).alloc (.cells #[.string ⟨#[]⟩] 9)).alloc (.cells #[.int .i64 0] 42)).alloc (.cells #[.int .i64 d0] 3)).alloc (.cells #[.int .i64 0] 42)).alloc (.cells #[.string ⟨#[]⟩] 9)).alloc (.cells #[.string s] 9) = x := ⟨_, rfl⟩
    have hb0 : Hid (Below z w w0) := Lib.hid (by rw [← hw0, ← hz]; exact (((((((alB _ _).alloc (by simp) _).alloc (by simp; omega) _).alloc (by simp; omega) _).alloc (by simp; omega) _).alloc (by simp; omega) _).alloc (by simp; omega) _).alloc (by simp; omega) _)
    have hs0 : w0.heap.size = z + 8 := by rw [← hw0]; simp [hz]
    have k0 : Blk w0 z 54 #[.pointer (some ⟨p, 0, none⟩)] := by rw [← hw0, ← hz]; exact (((((((Blk.new _ _ _).alloc _).alloc _).alloc _).alloc _).alloc _).alloc _).alloc _
    have k1 : Blk w0 (z + 1) 3 #[.int .i64 0] := by rw [← hw0]; exact ((((((newB _ _ (z + 1) (by simp [hz])).alloc _).alloc _).alloc _).alloc _).alloc _).alloc _
    have k2 : Blk w0 (z + 2) 9 #[.string ⟨#[]⟩] := by rw [← hw0]; exact (((((newB _ _ (z + 2) (by simp [hz])).alloc _).alloc _).alloc _).alloc _).alloc _
    have k3 : Blk w0 (z + 3) 42 #[.int .i64 0] := by rw [← hw0]; exact ((((newB _ _ (z + 3) (by simp [hz])).alloc _).alloc _).alloc _).alloc _
    have k4 : Blk w0 (z + 4) 3 #[.int .i64 d0] := by rw [← hw0]; exact (((newB _ _ (z + 4) (by simp [hz])).alloc _).alloc _).alloc _
    have k5 : Blk w0 (z + 5) 42 #[.int .i64 0] := by rw [← hw0]; exact ((newB _ _ (z + 5) (by simp [hz])).alloc _).alloc _
    have k6 : Blk w0 (z + 6) 9 #[.string ⟨#[]⟩] := by rw [← hw0]; exact (newB _ _ (z + 6) (by simp [hz])).alloc _
    have k7 : Blk w0 (z + 7) 9 #[.string s] := by rw [← hw0]; exact newB _ _ (z + 7) (by simp [hz])
    have hw0H := Lib.hid hw0
    clear hw0
    gi_wp2_with (first | (refine ⟨trivial, ?_⟩; gi_at_call 249; refine (callsIn_wide.2 (hbe.out _)).mono ?_; rintro e w' ⟨rfl, rfl⟩) | (refine ⟨trivial, ?_⟩; gi_at_call 250; refine (callsIn_wide.2 (pieces_any s _)).mono ?_; rintro e w' ⟨rfl, rfl⟩))
    rw [hw0H.out]
    have hFs : Hid (∀ W, (∀ g, g < z → W.heap[g]? = w0.heap[g]?) → z ≤ W.heap.size → FsAt W B p f sv ps) := Lib.hid (fun W hg hsz => hH.out.keep (by rw [hz]; exact hsz) (fun i g hB => by have := hH.out.lt i g hB; rw [hz] at this; exact (hg g this).trans (hb0.out.block g this)))
    apply range_law rfl h1 (gf := 270) (lb := #[.pointer (some ⟨z + 7, 0, none⟩)]) rfl trivial (enters_of Tryz.func270 (by kernel_rfl) rfl)
      (pieces_stops (n - 1) (by omega) (z + 7) s (fun _ _ _ _ => True) w0 hs k7) (fun k hk => by rw [List.mem_singleton.1 hk]; omega) (fun _ _ _ _ _ _ _ _ _ => trivial) (Below.refl _ _) (fun _ => rfl)
      (fun T pre W => InvG (z + 8) (fun g => z + 1 ≤ g) (fun g => g = z + 7) w0 T W ∧ (aheadsM f d0 ⟨#[]⟩ pre).2.2 = 0 ∧ Blk W (z + 1) 3 #[.int .i64 0] ∧ Blk W (z + 2) 9 #[.string ⟨#[]⟩] ∧ Blk W (z + 3) 42 #[.int .i64 0] ∧ Blk W (z + 4) 3 #[.int .i64 (aheadsM f d0 ⟨#[]⟩ pre).1] ∧ Blk W (z + 5) 42 #[.int .i64 0] ∧ Blk W (z + 6) 9 #[.string (aheadsM f d0 ⟨#[]⟩ pre).2.1])
      (fun c T pre W => c = .ret ∧ InvG (z + 8) (fun g => z + 1 ≤ g) (fun g => g = z + 7) w0 T W ∧ (aheadsM f d0 ⟨#[]⟩ pre).2.2 ≠ 0 ∧ Blk W (z + 1) 3 #[.int .i64 0] ∧ Blk W (z + 2) 9 #[.string ⟨#[]⟩] ∧ Blk W (z + 3) 42 #[.int .i64 (aheadsM f d0 ⟨#[]⟩ pre).2.2])
      (fun T T' pre A B hi he => ⟨hi.1.ext (fun g h => by omega) he, hi.2.1, blk_ext hi.2.2.1 hi.1.ts (by omega) (by omega) he, blk_ext hi.2.2.2.1 hi.1.ts (by omega) (by omega) he, blk_ext hi.2.2.2.2.1 hi.1.ts (by omega) (by omega) he, blk_ext hi.2.2.2.2.2.1 hi.1.ts (by omega) (by omega) he, blk_ext hi.2.2.2.2.2.2.1 hi.1.ts (by omega) (by omega) he, blk_ext hi.2.2.2.2.2.2.2 hi.1.ts (by omega) (by omega) he⟩)
      (fun c T T' pre A B hi he => ⟨hi.1, hi.2.1.ext (fun g h => by omega) he, hi.2.2.1, blk_ext hi.2.2.2.1 hi.2.1.ts (by omega) (by omega) he, blk_ext hi.2.2.2.2.1 hi.2.1.ts (by omega) (by omega) he, blk_ext hi.2.2.2.2.2 hi.2.1.ts (by omega) (by omega) he⟩)
      ⟨InvG.start (fun k hk => List.mem_singleton.1 hk) (by omega), rfl, k1, k2, k3, k4, k5, k6⟩
      ?_ (fun _ W => W) (fun _ _ => Below.refl _ _) (fun _ _ _ _ h => h) ?assign ?body ?done ?stop
    case assign =>
      intro l x W K hK
      dsimp only [encS]
      gi_wp2
      exact hK
    case body =>
      intro l T pre x W W' o hsp _ _ hW' ⟨hI, h2, m1, m2, m3, m4, m5, m6⟩
      clear hW'
      have hA := Lib.hid (hFs.out W' (fun g hg => hI.block g (by omega) (by omega)) (by have := hI.n0; omega))
      have m0 : Blk W' z 54 #[.pointer (some ⟨p, 0, none⟩)] := (hI.block z (by omega) (by omega)).trans k0
      have hsn := aheads_snoc f x pre d0 ⟨#[]⟩ h2
      have hlc := aheads_live hclH.out pre d0 ⟨#[]⟩ hlv2.out h2
      obtain ⟨cur, hcur⟩ : ∃ c, (aheadsM f d0 ⟨#[]⟩ pre).1 = c := ⟨_, rfl⟩
      obtain ⟨last, hlast⟩ : ∃ c, (aheadsM f d0 ⟨#[]⟩ pre).2.1 = c := ⟨_, rfl⟩
      rw [hcur] at hlc m4 hsn
      rw [hlast] at m6 hsn
      obtain ⟨J, hJ⟩ := Option.isSome_iff_exists.1 hlc
      have y0 : W'.cell? ⟨z, 0, none⟩ = some (.pointer (some ⟨p, 0, none⟩)) := m0.cell 0
      have y4 : W'.cell? ⟨z + 1 + 1 + 1 + 1, 0, none⟩ = some (.int .i64 cur) := m4.cell 0
      have y6 : W'.cell? ⟨z + 1 + 1 + 1 + 1 + 1 + 1, 0, none⟩ = some (.string last) := m6.cell 0
      have f6 : W'.frozen? ⟨z + 1 + 1 + 1 + 1 + 1 + 1, 0, none⟩ = false := m6.frozen 0
      have hsnH := Lib.hid hsn
      have hIH := Lib.hid hI
      have mH := Lib.hid (And.intro m1 (And.intro m2 (And.intro m3 (And.intro m4 (And.intro m5 m6)))))
      by_cases hl0 : last.size = 0
      · obtain rfl : last = ⟨#[]⟩ := ba_ext (by rw [ba_nil.2 hl0])
        have hs2 : Hid (aheadsM f d0 ⟨#[]⟩ (pre ++ [x]) = (cur, x, 0)) := Lib.hid (by rw [hsn, aheads_first f cur x rfl]; rfl)
        clear hI hsn hcur hlast m0 m1 m2 m3 m4 m5 m6 hJ hlc h2 hl0
        gi_wp2
        refine ⟨⟨hIH.out.set (c := z + 6) (.inl (by omega)) _, by rw [hs2.out], mH.out.1.far (by show z + 1 ≠ z + 6; omega) _, mH.out.2.1.far (by show z + 2 ≠ z + 6; omega) _, mH.out.2.2.1.far (by show z + 3 ≠ z + 6; omega) _, ?_, mH.out.2.2.2.2.1.far (by show z + 5 ≠ z + 6; omega) _, ?_⟩, keepsT hIH.out (by simp only [World.size_setCell]; exact Nat.le_refl _) (fun g hg hl => Below.heap_setCell _ _ _ _ (fun e => by have e' : g = z + 6 := e; omega)), trivial⟩
        · rw [hs2.out]; exact mH.out.2.2.2.1.far (by show z + 4 ≠ z + 6; omega) _
        · rw [hs2.out]; exact mH.out.2.2.2.2.2.set_ 0 (.string x)
      · have hle : (last.toList.isEmpty) = false := by
          rw [Lib.toList_data]
          cases h : last.data.toList with
          | nil => exact absurd (ba_nil.1 h) hl0
          | cons a l => rfl
        have hst := Lib.hid (step_any hA.out hJ hfH.out last)
        have hon : (stepM f cur last).2 = 0 → aheadsM f d0 ⟨#[]⟩ (pre ++ [x]) = ((stepM f cur last).1, x, 0) := fun h => by rw [hsn, aheads_on f cur x hl0 h]; rfl
        have hof : (stepM f cur last).2 ≠ 0 → aheadsM f d0 ⟨#[]⟩ (pre ++ [x]) = (0, ⟨#[]⟩, (stepM f cur last).2) := fun h => by rw [hsn, aheads_off f cur x hl0 h]
        obtain ⟨r, hr⟩ : ∃ r, stepM f cur last = r := ⟨_, rfl⟩
        rw [hr] at hst hon hof
        obtain ⟨rn, re⟩ := r
        dsimp only at hst hon hof
        have hokH := Lib.hid hon
        have hnoH := Lib.hid hof
        clear hI hsn hon hof hr hcur hlast m0 m1 m2 m3 m4 m5 m6 hJ hlc h2 hl0
        by_cases hre : re = 0
        · subst hre
          gi_wp2_with fail
          refine ⟨trivial, (fun h => by cases h), ?_⟩
          refine (CallsIn.inRound l (callsIn_wide.2 hst.out)).mono ?_
          rintro e W2 ⟨rfl, hb⟩
          have q4 := Lib.hid (blk_beneath mH.out.2.2.2.1 hb)
          have q5 := Lib.hid (blk_beneath mH.out.2.2.2.2.1 hb)
          have q6 := Lib.hid (blk_beneath mH.out.2.2.2.2.2 hb)
          have x4 : W2.cell? ⟨z + 1 + 1 + 1 + 1, 0, none⟩ = some (.int .i64 cur) := q4.out.cell 0
          have g4 : W2.frozen? ⟨z + 1 + 1 + 1 + 1, 0, none⟩ = false := q4.out.frozen 0
          have x5 : W2.cell? ⟨z + 1 + 1 + 1 + 1 + 1, 0, none⟩ = some (.int .i64 0) := q5.out.cell 0
          have g5 : W2.frozen? ⟨z + 1 + 1 + 1 + 1 + 1, 0, none⟩ = false := q5.out.frozen 0
          have x6 : W2.cell? ⟨z + 1 + 1 + 1 + 1 + 1 + 1, 0, none⟩ = some (.string last) := q6.out.cell 0
          have g6 : W2.frozen? ⟨z + 1 + 1 + 1 + 1 + 1 + 1, 0, none⟩ = false := q6.out.frozen 0
          have hbH := Lib.hid hb
          clear hb
          gi_wp2
          have hs2 := hokH.out (by simp)
          refine ⟨⟨(((hIH.out.below hbH.out).set (c := z + 4) (.inl (by omega)) _).set (c := z + 5) (.inl (by omega)) _).set (c := z + 6) (.inl (by omega)) _, by rw [hs2], ?_, ?_, ?_, ?_, ?_, ?_⟩, keepsT hIH.out (by simp only [World.size_setCell]; exact hbH.out.size) (fun g hg hl => (Below.heap_setCell _ _ _ _ (fun e => by have e' : g = z + 6 := e; omega)).trans ((Below.heap_setCell _ _ _ _ (fun e => by have e' : g = z + 5 := e; omega)).trans ((Below.heap_setCell _ _ _ _ (fun e => by have e' : g = z + 4 := e; omega)).trans (hbH.out.block g hl)))), trivial⟩
          · exact (((blk_beneath mH.out.1 hbH.out).far (by show z + 1 ≠ z + 4; omega) _).far (by show z + 1 ≠ z + 5; omega) _).far (by show z + 1 ≠ z + 6; omega) _
          · exact (((blk_beneath mH.out.2.1 hbH.out).far (by show z + 2 ≠ z + 4; omega) _).far (by show z + 2 ≠ z + 5; omega) _).far (by show z + 2 ≠ z + 6; omega) _
          · exact (((blk_beneath mH.out.2.2.1 hbH.out).far (by show z + 3 ≠ z + 4; omega) _).far (by show z + 3 ≠ z + 5; omega) _).far (by show z + 3 ≠ z + 6; omega) _
          · rw [hs2]; exact ((q4.out.set_ 0 (.int .i64 rn)).far (by show z + 4 ≠ z + 5; omega) _).far (by show z + 4 ≠ z + 6; omega) _
          · exact ((q5.out.far (by show z + 5 ≠ z + 4; omega) _).set_ 0 (.int .i64 0)).far (by show z + 5 ≠ z + 6; omega) _
          · rw [hs2]; exact ((q6.out.far (by show z + 6 ≠ z + 4; omega) _).far (by show z + 6 ≠ z + 5; omega) _).set_ 0 (.string x)
        · have he2 : ((re : Int) != 0) = true := by simp; omega
          have hreH := Lib.hid hre
          clear hre
          gi_wp2_with fail
          refine ⟨trivial, (fun h => by cases h), ?_⟩
          refine (CallsIn.inRound l (callsIn_wide.2 hst.out)).mono ?_
          rintro e W2 ⟨rfl, hb⟩
          have q4 := Lib.hid (blk_beneath mH.out.2.2.2.1 hb)
          have q5 := Lib.hid (blk_beneath mH.out.2.2.2.2.1 hb)
          have x4 : W2.cell? ⟨z + 1 + 1 + 1 + 1, 0, none⟩ = some (.int .i64 cur) := q4.out.cell 0
          have g4 : W2.frozen? ⟨z + 1 + 1 + 1 + 1, 0, none⟩ = false := q4.out.frozen 0
          have x5 : W2.cell? ⟨z + 1 + 1 + 1 + 1 + 1, 0, none⟩ = some (.int .i64 0) := q5.out.cell 0
          have g5 : W2.frozen? ⟨z + 1 + 1 + 1 + 1 + 1, 0, none⟩ = false := q5.out.frozen 0
          have hbH := Lib.hid hb
          gi_upto_region 9 with fail
          obtain ⟨W3, hW3⟩ : ∃ W3, (W2.setCell ⟨z + 1 + 1 + 1 + 1, 0, none⟩ (.int .i64 rn)).setCell ⟨z + 1 + 1 + 1 + 1 + 1, 0, none⟩ (.int .i64 re) = W3 := ⟨_, rfl⟩
          have r1 : Hid (Blk W3 (z + 1) 3 #[.int .i64 0]) := Lib.hid (by rw [← hW3]; exact ((blk_beneath mH.out.1 hb).far (p := ⟨z + 4, 0, none⟩) (by show z + 1 ≠ z + 4; omega) _).far (p := ⟨z + 5, 0, none⟩) (by show z + 1 ≠ z + 5; omega) _)
          have r2 : Hid (Blk W3 (z + 2) 9 #[.string ⟨#[]⟩]) := Lib.hid (by rw [← hW3]; exact ((blk_beneath mH.out.2.1 hb).far (p := ⟨z + 4, 0, none⟩) (by show z + 2 ≠ z + 4; omega) _).far (p := ⟨z + 5, 0, none⟩) (by show z + 2 ≠ z + 5; omega) _)
          have r3 : Hid (Blk W3 (z + 3) 42 #[.int .i64 0]) := Lib.hid (by rw [← hW3]; exact ((blk_beneath mH.out.2.2.1 hb).far (p := ⟨z + 4, 0, none⟩) (by show z + 3 ≠ z + 4; omega) _).far (p := ⟨z + 5, 0, none⟩) (by show z + 3 ≠ z + 5; omega) _)
          have r5 : Blk W3 (z + 5) 42 #[.int .i64 re] := by rw [← hW3]; exact (q5.out.far (p := ⟨z + 4, 0, none⟩) (by show z + 5 ≠ z + 4; omega) _).set_ 0 (.int .i64 re)
          have hI3 : Hid (InvG (z + 8) (fun g => z + 1 ≤ g) (fun g => g = z + 7) w0 T W3) := Lib.hid (by rw [← hW3]; exact ((hIH.out.below hb).set (c := z + 4) (.inl (by omega)) _).set (c := z + 5) (.inl (by omega)) _)
          have hk3 : Hid (∀ g, (z + 8 ≤ g ∨ g = z + 7) → g < W'.heap.size → W3.heap[g]? = W'.heap[g]?) := Lib.hid (fun g hg hl => by
            rw [← hW3]
            exact (Below.heap_setCell _ _ _ _ (fun e => by have e' : g = z + 5 := e; omega)).trans ((Below.heap_setCell _ _ _ _ (fun e => by have e' : g = z + 4 := e; omega)).trans (hb.block g hl)))
          have hz3 : Hid (W'.heap.size ≤ W3.heap.size) := Lib.hid (by rw [← hW3]; simp only [World.size_setCell]; exact hb.size)
          rw [hW3]
          have y1 : W3.cell? ⟨z + 1, 0, none⟩ = some (.int .i64 0) := r1.out.cell 0
          have g1 : W3.frozen? ⟨z + 1, 0, none⟩ = false := r1.out.frozen 0
          have y2 : W3.cell? ⟨z + 1 + 1, 0, none⟩ = some (.string ⟨#[]⟩) := r2.out.cell 0
          have g2 : W3.frozen? ⟨z + 1 + 1, 0, none⟩ = false := r2.out.frozen 0
          have y3 : W3.cell? ⟨z + 1 + 1 + 1, 0, none⟩ = some (.int .i64 0) := r3.out.cell 0
          have g3 : W3.frozen? ⟨z + 1 + 1 + 1, 0, none⟩ = false := r3.out.frozen 0
          have y5 : W3.cell? ⟨z + 1 + 1 + 1 + 1 + 1, 0, none⟩ = some (.int .i64 re) := r5.cell 0
          clear hb hW3 x4 g4 x5 g5 r5
          gi_wp2
          gi_region
          all_goals
            gi_wp2
            have hs2 := hnoH.out hreH.out
            obtain ⟨t1, t2, t3, t4, t5, t6, t7, t8⟩ := tri r1.out r2.out r3.out (.int .i64 0) (.string ⟨#[]⟩) (.int .i64 re) (W2 := _) (by first | exact .inl rfl | exact .inr (.inl rfl) | exact .inr (.inr (.inl rfl)) | exact .inr (.inr (.inr (.inl rfl))) | exact .inr (.inr (.inr (.inr (.inl rfl)))) | exact .inr (.inr (.inr (.inr (.inr rfl)))))
            refine ⟨⟨rfl, ⟨hI3.out.ts, t5.trans hI3.out.os, t6.trans hI3.out.tape, t7.trans hI3.out.output, Nat.le_trans hI3.out.n0 (Nat.le_of_eq t8.symm), fun g g1 g2 => (t4 g (by omega) (by omega) (by omega)).trans (hI3.out.block g g1 g2)⟩, by rw [hs2]; exact hreH.out, t1, t2, by rw [hs2]; exact t3⟩, ⟨Nat.le_trans hz3.out (Nat.le_of_eq t8.symm), fun g hg hl => (t4 g (by have := hIH.out.ts g hg; omega) (by have := hIH.out.ts g hg; omega) (by have := hIH.out.ts g hg; omega)).trans (hk3.out g (hIH.out.ts g hg) hl)⟩⟩
    case done =>
      rintro D T xs W hD _ rfl ⟨hI, h2, m1, m2, m3, m4, m5, m6⟩ hK
      have hA := Lib.hid (hFs.out W (fun g hg => hI.block g (by omega) (by omega)) (by have := hI.n0; omega))
      have m0 : Blk W z 54 #[.pointer (some ⟨p, 0, none⟩)] := (hI.block z (by omega) (by omega)).trans k0
      have hlc := aheads_live hclH.out (pieces s) d0 ⟨#[]⟩ hlv2.out h2
      have hR2 := hRH.out
      obtain ⟨r, hr⟩ : ∃ r, aheadsM f d0 ⟨#[]⟩ (pieces s) = r := ⟨_, rfl⟩
      rw [hr] at hlc hR2 h2 m4 m6
      obtain ⟨cur, last, e9⟩ := r
      dsimp only at hlc hR2 h2 m4 m6
      subst h2
      obtain ⟨J, hJ⟩ := Option.isSome_iff_exists.1 hlc
      have hen := Lib.hid (enter_any hA.out hJ (by have := hfH.out.1; omega))
      have hLM : lastM f (cur, last, 0) = if enterM f cur ≠ 0 then (0, ⟨#[]⟩, enterM f cur) else if last.size = 0 ∨ last = dotT ∨ last = dotsT then (0, ⟨#[]⟩, 22) else if 32 < last.size then (0, ⟨#[]⟩, 36) else (cur, last, 0) := by unfold lastM; rw [if_neg (fun h => h rfl)]
      rw [hLM] at hR2
      have y0 : W.cell? ⟨z, 0, none⟩ = some (.pointer (some ⟨p, 0, none⟩)) := m0.cell 0
      have y1 : W.cell? ⟨z + 1, 0, none⟩ = some (.int .i64 0) := m1.cell 0
      have f1 : W.frozen? ⟨z + 1, 0, none⟩ = false := m1.frozen 0
      have y2 : W.cell? ⟨z + 1 + 1, 0, none⟩ = some (.string ⟨#[]⟩) := m2.cell 0
      have f2 : W.frozen? ⟨z + 1 + 1, 0, none⟩ = false := m2.frozen 0
      have y3 : W.cell? ⟨z + 1 + 1 + 1, 0, none⟩ = some (.int .i64 0) := m3.cell 0
      have f3 : W.frozen? ⟨z + 1 + 1 + 1, 0, none⟩ = false := m3.frozen 0
      have y4 : W.cell? ⟨z + 1 + 1 + 1 + 1, 0, none⟩ = some (.int .i64 cur) := m4.cell 0
      have y6 : W.cell? ⟨z + 1 + 1 + 1 + 1 + 1 + 1, 0, none⟩ = some (.string last) := m6.cell 0
      have hend : Hid (∀ (u v x : Value) W2, (W2 = (((W.setCell ⟨z + 1, 0, none⟩ u).setCell ⟨z + 2, 0, none⟩ v).setCell ⟨z + 3, 0, none⟩ x) ∨ W2 = (((W.setCell ⟨z + 1, 0, none⟩ u).setCell ⟨z + 3, 0, none⟩ x).setCell ⟨z + 2, 0, none⟩ v) ∨ W2 = (((W.setCell ⟨z + 2, 0, none⟩ v).setCell ⟨z + 1, 0, none⟩ u).setCell ⟨z + 3, 0, none⟩ x) ∨ W2 = (((W.setCell ⟨z + 2, 0, none⟩ v).setCell ⟨z + 3, 0, none⟩ x).setCell ⟨z + 1, 0, none⟩ u) ∨ W2 = (((W.setCell ⟨z + 3, 0, none⟩ x).setCell ⟨z + 1, 0, none⟩ u).setCell ⟨z + 2, 0, none⟩ v) ∨ W2 = (((W.setCell ⟨z + 3, 0, none⟩ x).setCell ⟨z + 2, 0, none⟩ v).setCell ⟨z + 1, 0, none⟩ u)) → W2.heap[D]? = some (.deferred (some [])) ∧ (W2.putObj D (.deferred none)).cell? ⟨z + 1, 0, none⟩ = some u ∧ (W2.putObj D (.deferred none)).cell? ⟨z + 2, 0, none⟩ = some v ∧ (W2.putObj D (.deferred none)).cell? ⟨z + 3, 0, none⟩ = some x ∧ Below z w (W2.putObj D (.deferred none))) := Lib.hid (fun u v x W2 h => by
        obtain ⟨t1, t2, t3, t4, t5, t6, t7, t8⟩ := tri m1 m2 m3 u v x h
        have hD2 : W2.heap[D]? = some (.deferred (some [])) := (t4 D (by omega) (by omega) (by omega)).trans hK
        have b1 : Blk (W2.putObj D (.deferred none)) (z + 1) 3 #[u] := (World.putObj_heap_other (by omega)).trans t1
        have b2 : Blk (W2.putObj D (.deferred none)) (z + 2) 9 #[v] := (World.putObj_heap_other (by omega)).trans t2
        have b3 : Blk (W2.putObj D (.deferred none)) (z + 3) 42 #[x] := (World.putObj_heap_other (by omega)).trans t3
        have hbW := hI.toBelow (w := w) (by rw [hz]; exact hb0.out) (fun g hg => by omega) (by omega)
        rw [hz] at hbW
        have hbX : Below z w W2 := ⟨t5.trans hbW.os, t6.trans hbW.tape, t7.trans hbW.output, Nat.le_trans hbW.size (Nat.le_of_eq t8.symm), fun g hg => (t4 g (by omega) (by omega) (by omega)).trans (hbW.block g hg)⟩
        have hbP : Below z W2 (W2.putObj D (.deferred none)) := ⟨rfl, rfl, rfl, by simp [World.putObj], fun g hg => World.putObj_heap_other (by omega)⟩
        exact ⟨hD2, b1.cell 0, b2.cell 0, b3.cell 0, hbX.trans hbP⟩)
      have hendD : Hid (∀ (u v x : Value) W2, (W2 = (((W.setCell ⟨z + 1, 0, none⟩ u).setCell ⟨z + 2, 0, none⟩ v).setCell ⟨z + 3, 0, none⟩ x) ∨ W2 = (((W.setCell ⟨z + 1, 0, none⟩ u).setCell ⟨z + 3, 0, none⟩ x).setCell ⟨z + 2, 0, none⟩ v) ∨ W2 = (((W.setCell ⟨z + 2, 0, none⟩ v).setCell ⟨z + 1, 0, none⟩ u).setCell ⟨z + 3, 0, none⟩ x) ∨ W2 = (((W.setCell ⟨z + 2, 0, none⟩ v).setCell ⟨z + 3, 0, none⟩ x).setCell ⟨z + 1, 0, none⟩ u) ∨ W2 = (((W.setCell ⟨z + 3, 0, none⟩ x).setCell ⟨z + 1, 0, none⟩ u).setCell ⟨z + 2, 0, none⟩ v) ∨ W2 = (((W.setCell ⟨z + 3, 0, none⟩ x).setCell ⟨z + 2, 0, none⟩ v).setCell ⟨z + 1, 0, none⟩ u)) → W2.drew.heap[D]? = some (.deferred (some [])) ∧ (W2.drew.putObj D (.deferred none)).cell? ⟨z + 1, 0, none⟩ = some u ∧ (W2.drew.putObj D (.deferred none)).cell? ⟨z + 2, 0, none⟩ = some v ∧ (W2.drew.putObj D (.deferred none)).cell? ⟨z + 3, 0, none⟩ = some x ∧ Below z w (W2.drew.putObj D (.deferred none))) := Lib.hid (fun u v x W2 h => by
        obtain ⟨a1, a2, a3, a4, a5⟩ := hend.out u v x W2 h
        exact ⟨a1, a2, a3, a4, ⟨a5.os, a5.tape, a5.output, a5.size, a5.block⟩⟩)
      obtain ⟨E, hE⟩ : ∃ E, enterM f cur = E := ⟨_, rfl⟩
      rw [hE] at hen hR2
      clear hI m0 m1 m2 m3 m4 m5 m6 hlc hJ hA hK hr hE hLM
      by_cases hE0 : E = 0
      · subst hE0
        rw [if_neg (fun h => h rfl)] at hR2
        by_cases hl0 : last.size = 0
        · obtain rfl : last = ⟨#[]⟩ := ba_ext (by rw [ba_nil.2 hl0])
          rw [if_pos (.inl hl0)] at hR2
          clear hl0
          subst hR2
          gi_wp2_with (refine ⟨trivial, ?_⟩; gi_at_call 254; refine (callsIn_wide.2 hen.out).mono ?_; rintro e w' ⟨rfl, rfl⟩)
          obtain ⟨hD2, q1, q2, q3, hbl⟩ := hend.out (.int .i64 0) (.string ⟨#[]⟩) (.int .i64 22) _ (.inl rfl)
          refine ⟨by simp, .inl ⟨_, _, rfl, run_takeDeferred hD2, ?_⟩⟩
          refine ⟨.tuple #[.int .i64 0, .string ⟨#[]⟩, .int .i64 22], ?_, rfl, hbl⟩
          simp [results, Tryz.results210, go_sem, q1, q2, q3]
        · have hle : (last.toList.isEmpty) = false := by
            rw [Lib.toList_data]
            cases h : last.data.toList with
            | nil => exact absurd (ba_nil.1 h) hl0
            | cons a l => rfl
          by_cases hl1 : last = dotT
          · rw [if_pos (.inr (.inl hl1))] at hR2
            subst hl1
            unfold dotT at *
            clear hl0 hle
            subst hR2
            gi_wp2_with (refine ⟨trivial, ?_⟩; gi_at_call 254; refine (callsIn_wide.2 hen.out).mono ?_; rintro e w' ⟨rfl, rfl⟩)
            obtain ⟨hD2, q1, q2, q3, hbl⟩ := hend.out (.int .i64 0) (.string ⟨#[]⟩) (.int .i64 22) _ (.inl rfl)
            refine ⟨by simp, .inl ⟨_, _, rfl, run_takeDeferred hD2, ?_⟩⟩
            refine ⟨.tuple #[.int .i64 0, .string ⟨#[]⟩, .int .i64 22], ?_, rfl, hbl⟩
            simp [results, Tryz.results210, go_sem, q1, q2, q3]
          · have e1 := str_dot hl1
            by_cases hl2 : last = dotsT
            · rw [if_pos (.inr (.inr hl2))] at hR2
              subst hl2
              unfold dotsT at *
              clear hl0 hle hl1 e1
              subst hR2
              gi_wp2_with (refine ⟨trivial, ?_⟩; gi_at_call 254; refine (callsIn_wide.2 hen.out).mono ?_; rintro e w' ⟨rfl, rfl⟩)
              obtain ⟨hD2, q1, q2, q3, hbl⟩ := hend.out (.int .i64 0) (.string ⟨#[]⟩) (.int .i64 22) _ (.inl rfl)
              refine ⟨by simp, .inl ⟨_, _, rfl, run_takeDeferred hD2, ?_⟩⟩
              refine ⟨.tuple #[.int .i64 0, .string ⟨#[]⟩, .int .i64 22], ?_, rfl, hbl⟩
              simp [results, Tryz.results210, go_sem, q1, q2, q3]
            · have e2 := str_dots hl2
              rw [if_neg (by intro h; rcases h with h | h | h; exact hl0 h; exact hl1 h; exact hl2 h)] at hR2
              by_cases hl3 : 32 < last.size
              · rw [if_pos hl3] at hR2
                subst hR2
                gi_wp2_with (refine ⟨trivial, ?_⟩; gi_at_call 254; refine (callsIn_wide.2 hen.out).mono ?_; rintro e w' ⟨rfl, rfl⟩)
                obtain ⟨hD2, q1, q2, q3, hbl⟩ := hend.out (.int .i64 0) (.string ⟨#[]⟩) (.int .i64 36) _ (.inl rfl)
                refine ⟨by simp, .inl ⟨_, _, rfl, run_takeDeferred hD2, ?_⟩⟩
                refine ⟨.tuple #[.int .i64 0, .string ⟨#[]⟩, .int .i64 36], ?_, rfl, hbl⟩
                simp [results, Tryz.results210, go_sem, q1, q2, q3]
              · rw [if_neg hl3] at hR2
                subst hR2
                gi_wp2_with (refine ⟨trivial, ?_⟩; gi_at_call 254; refine (callsIn_wide.2 hen.out).mono ?_; rintro e w' ⟨rfl, rfl⟩)
                gi_region
                all_goals
                  gi_wp2
                  obtain ⟨hD2, q1, q2, q3, hbl⟩ := hendD.out (.int .i64 cur) (.string last) (.int .i64 0) _ (by first | exact .inl rfl | exact .inr (.inl rfl) | exact .inr (.inr (.inl rfl)) | exact .inr (.inr (.inr (.inl rfl))) | exact .inr (.inr (.inr (.inr (.inl rfl)))) | exact .inr (.inr (.inr (.inr (.inr rfl)))))
                  refine ⟨by simp, .inl ⟨_, _, rfl, run_takeDeferred hD2, ?_⟩⟩
                  refine ⟨.tuple #[.int .i64 cur, .string last, .int .i64 0], ?_, rfl, hbl⟩
                  simp [results, Tryz.results210, go_sem, q1, q2, q3]
      · rw [if_pos hE0] at hR2
        have hE2 : ((E : Int) != 0) = true := by simp; omega
        subst hR2
        gi_wp2_with (refine ⟨trivial, ?_⟩; gi_at_call 254; refine (callsIn_wide.2 hen.out).mono ?_; rintro e w' ⟨rfl, rfl⟩)
        obtain ⟨hD2, q1, q2, q3, hbl⟩ := hend.out (.int .i64 0) (.string ⟨#[]⟩) (.int .i64 E) _ (.inl rfl)
        refine ⟨by simp, .inl ⟨_, _, rfl, run_takeDeferred hD2, ?_⟩⟩
        refine ⟨.tuple #[.int .i64 0, .string ⟨#[]⟩, .int .i64 E], ?_, rfl, hbl⟩
        simp [results, Tryz.results210, go_sem, q1, q2, q3]
    case stop =>
      rintro D c T pre W hD _ hsp ⟨rfl, hI, h2, m1, m2, m3⟩ hK
      have hR2 := hRH.out
      obtain ⟨t, ht⟩ := hsp
      have hbad := aheads_bad f pre t d0 ⟨#[]⟩ h2
      rw [ht] at hbad
      obtain ⟨e9, he9⟩ : ∃ e, (aheadsM f d0 ⟨#[]⟩ pre).2.2 = e := ⟨_, rfl⟩
      rw [he9] at hbad h2 m3
      rw [hbad] at hR2
      have hLM : lastM f (0, ⟨#[]⟩, e9) = (0, ⟨#[]⟩, e9) := by unfold lastM; rw [if_pos h2]
      rw [hLM] at hR2
      subst hR2
      have b1 : Blk (W.putObj D (.deferred none)) (z + 1) 3 #[.int .i64 0] := (World.putObj_heap_other (by omega)).trans m1
      have b2 : Blk (W.putObj D (.deferred none)) (z + 2) 9 #[.string ⟨#[]⟩] := (World.putObj_heap_other (by omega)).trans m2
      have b3 : Blk (W.putObj D (.deferred none)) (z + 3) 42 #[.int .i64 e9] := (World.putObj_heap_other (by omega)).trans m3
      have q1 : (W.putObj D (.deferred none)).cell? ⟨z + 1, 0, none⟩ = some (.int .i64 0) := b1.cell 0
      have q2 : (W.putObj D (.deferred none)).cell? ⟨z + 2, 0, none⟩ = some (.string ⟨#[]⟩) := b2.cell 0
      have q3 : (W.putObj D (.deferred none)).cell? ⟨z + 3, 0, none⟩ = some (.int .i64 e9) := b3.cell 0
      have hbW : Below w.heap.size w (W.putObj D (.deferred none)) := (hI.toBelow (w := w) (by rw [hz]; exact hb0.out) (fun g hg => by omega) (by omega)).trans (belowK_b (w := w) (Nat.le_refl _) W D _ _ (by omega) hK rfl rfl)
      have hKH := Lib.hid hK
      clear hI m1 m2 m3 h2 hbad ht b1 b2 b3 hK he9 hLM
      gi_wp2
      refine ⟨by simp, .inl ⟨_, _, rfl, run_takeDeferred hKH.out, ?_⟩⟩
      refine ⟨.tuple #[.int .i64 0, .string ⟨#[]⟩, .int .i64 e9], ?_, rfl, hzH.out ▸ hbW⟩
      simp [results, Tryz.results210, go_sem, q1, q2, q3]
  · dsimp only at hW hbe
    rw [hW.out, if_pos he]
    have he2 : ((e0 : Int) != 0) = true := by simp; omega
    obtain ⟨w1, hw1⟩ : ∃ x, (((((w.alloc (.cells #[.pointer (some ⟨p, 0, none⟩)] 54)).alloc (.cells #[.int .i64 0] 3)).alloc (.cells #[.string ⟨#[]⟩] 9)).alloc (.cells #[.int .i64 0] 42)).alloc (.cells #[.int .i64 d0] 3)).alloc (.cells #[.int .i64 e0] 42) = x := ⟨_, rfl⟩
    have hb1 : Hid (Below z w w1) := Lib.hid (by rw [← hw1, ← hz]; exact (((((alB _ _).alloc (by simp) _).alloc (by simp; omega) _).alloc (by simp; omega) _).alloc (by simp; omega) _).alloc (by simp; omega) _)
    have k1 : Blk w1 (z + 1) 3 #[.int .i64 0] := by rw [← hw1]; exact ((((newB _ _ (z + 1) (by simp [hz])).alloc _).alloc _).alloc _).alloc _
    have k2 : Blk w1 (z + 2) 9 #[.string ⟨#[]⟩] := by rw [← hw1]; exact (((newB _ _ (z + 2) (by simp [hz])).alloc _).alloc _).alloc _
    have k3 : Blk w1 (z + 3) 42 #[.int .i64 0] := by rw [← hw1]; exact ((newB _ _ (z + 3) (by simp [hz])).alloc _).alloc _
    have k5 : Blk w1 (z + 5) 42 #[.int .i64 e0] := by rw [← hw1]; exact newB _ _ (z + 5) (by simp [hz])
    have hw1H := Lib.hid hw1
    have x1 : w1.cell? ⟨z + 1, 0, none⟩ = some (.int .i64 0) := k1.cell 0
    have g1 : w1.frozen? ⟨z + 1, 0, none⟩ = false := k1.frozen 0
    have x2 : w1.cell? ⟨z + 1 + 1, 0, none⟩ = some (.string ⟨#[]⟩) := k2.cell 0
    have g2 : w1.frozen? ⟨z + 1 + 1, 0, none⟩ = false := k2.frozen 0
    have x3 : w1.cell? ⟨z + 1 + 1 + 1, 0, none⟩ = some (.int .i64 0) := k3.cell 0
    have g3 : w1.frozen? ⟨z + 1 + 1 + 1, 0, none⟩ = false := k3.frozen 0
    have x5 : w1.cell? ⟨z + 1 + 1 + 1 + 1 + 1, 0, none⟩ = some (.int .i64 e0) := k5.cell 0
    have hF : Hid (∀ (u v x : Value) W2, (W2 = (((w1.setCell ⟨z + 1, 0, none⟩ u).setCell ⟨z + 2, 0, none⟩ v).setCell ⟨z + 3, 0, none⟩ x) ∨ W2 = (((w1.setCell ⟨z + 1, 0, none⟩ u).setCell ⟨z + 3, 0, none⟩ x).setCell ⟨z + 2, 0, none⟩ v) ∨ W2 = (((w1.setCell ⟨z + 2, 0, none⟩ v).setCell ⟨z + 1, 0, none⟩ u).setCell ⟨z + 3, 0, none⟩ x) ∨ W2 = (((w1.setCell ⟨z + 2, 0, none⟩ v).setCell ⟨z + 3, 0, none⟩ x).setCell ⟨z + 1, 0, none⟩ u) ∨ W2 = (((w1.setCell ⟨z + 3, 0, none⟩ x).setCell ⟨z + 1, 0, none⟩ u).setCell ⟨z + 2, 0, none⟩ v) ∨ W2 = (((w1.setCell ⟨z + 3, 0, none⟩ x).setCell ⟨z + 2, 0, none⟩ v).setCell ⟨z + 1, 0, none⟩ u)) → W2.drew.cell? ⟨z + 1, 0, none⟩ = some u ∧ W2.drew.cell? ⟨z + 2, 0, none⟩ = some v ∧ W2.drew.cell? ⟨z + 3, 0, none⟩ = some x ∧ Below z w W2.drew) := Lib.hid (fun u v x W2 h => by
      obtain ⟨t1, t2, t3, t4, t5, t6, t7, t8⟩ := tri k1 k2 k3 u v x h
      exact ⟨t1.cell 0, t2.cell 0, t3.cell 0, ⟨t5.trans hb1.out.os, t6.trans hb1.out.tape, t7.trans hb1.out.output, Nat.le_trans hb1.out.size (Nat.le_of_eq t8.symm), fun g hg => (t4 g (by omega) (by omega) (by omega)).trans (hb1.out.block g hg)⟩⟩)
    clear hw1 k1 k2 k3 k5 hlv
    gi_upto_region 3 with (refine ⟨trivial, ?_⟩; gi_at_call 249; refine (callsIn_wide.2 (hbe.out _)).mono ?_; rintro e w' ⟨rfl, rfl⟩)
    rw [hw1H.out]
    gi_region
    all_goals
      gi_wp2
      obtain ⟨qa, qb, qc, hbl⟩ := hF.out (.int .i64 0) (.string ⟨#[]⟩) (.int .i64 e0) _ (by first | exact .inl rfl | exact .inr (.inl rfl) | exact .inr (.inr (.inl rfl)) | exact .inr (.inr (.inr (.inl rfl))) | exact .inr (.inr (.inr (.inr (.inl rfl)))) | exact .inr (.inr (.inr (.inr (.inr rfl)))))
      refine ⟨.tuple #[.int .i64 0, .string ⟨#[]⟩, .int .i64 e0], ?_, rfl, hbl⟩
      simp [results, Tryz.results210, go_sem, qa, qb, qc]
theorem ahead_any (h : FsAt w B p f sv ps) (hf : FineF f) (hcl : Closed f) (dir : Int) (hd : (node f dir).isSome) (s : ByteArray) (hs : s.size ≤ maxLen) :
    Calls Tryz.prog 210 #[.pointer (some ⟨p, 0, none⟩), .int .i64 dir, .string s] w fun e w' => e = .returned (.tuple #[.int .i64 (aheadM f dir s).1, .string (aheadM f dir s).2.1, .int .i64 (aheadM f dir s).2.2]) ∧ Below w.heap.size w w' := callsIn_wide.1 (ahead_in 3 (Nat.le_refl _) h hf hcl dir hd s hs)
end
end Go.Proofs.YtmilagppbepnbaaGreat
/- A file's inode; is there room. Condition: the tree lies as stated. -/
namespace Go.Proofs.YtmilagppbepnbaaGreat
open Go.RowKit Go.Shelf Go.PlainAid
attribute [local go_sem] Oper.semAt_some

section
variable {w : World} {B : Nat → Nat → Prop} {p : Nat} {f : Fs} {sv : Value} {ps : List (Option Nat)}
/-- Is there room for a file of a size? -/
def roomM (f : Fs) (I : Ino) (n : Nat) : Bool := decide (bytesM f + n ≤ 65536 + I.data.length)
end
end Go.Proofs.YtmilagppbepnbaaGreat
/- Read. Condition: the tree lies as stated. -/
namespace Go.Proofs.YtmilagppbepnbaaGreat
open Go.RowKit Go.Shelf Go.PlainAid
attribute [local go_sem] Oper.semAt_some

/-- What Read gives. -/
def readL (l : List UInt8) (at_ k : Int) : List UInt8 := (l.drop at_.toNat).take k.toNat
def ReadM (f : Fs) (n at_ k : Int) : ByteArray × Nat := match node f n with
  | none => (⟨#[]⟩, 9)
  | some I => if I.isDir then (⟨#[]⟩, 21) else if at_ < 0 ∨ k < 0 then (⟨#[]⟩, 22) else (⟨(readL I.data at_ k).toArray⟩, 0)
end Go.Proofs.YtmilagppbepnbaaGreat
/- Truncate, Write. Condition: the tree lies as stated; the text's size. -/
namespace Go.Proofs.YtmilagppbepnbaaGreat
open Go.RowKit Go.Shelf Go.PlainAid
attribute [local go_sem] Oper.semAt_some

def modN (f : Fs) (n : Int) (g : Ino → Ino) : Fs := match node f n with
  | none => f
  | some I => f.set (n - 1).toNat (some (g I))
theorem modN_at {f : Fs} {i : Nat} {I : Ino} (h : f[i]? = some (some I)) (g : Ino → Ino) : modN f ((i : Int) + 1) g = f.set i (some (g I)) := by
  unfold modN
  rw [node_at h, show ((i : Int) + 1 - 1).toNat = i by omega]
def TruncM (f : Fs) (n k : Int) : Nat × Fs := match node f n with
  | none => (9, f)
  | some I => if I.isDir then (21, f) else if k < 0 then (22, f) else if 65536 < k ∨ roomM f I k.toNat = false then (28, f) else (0, modN f n (fun I => { I with data := resM I.data k.toNat }))
def putL (l : List UInt8) (a : Nat) (s : List UInt8) : List UInt8 := l.take a ++ s ++ l.drop (a + s.length)
/-- The size that a file comes to have. -/
def sizM (I : Ino) (a : Nat) (s : ByteArray) : Nat := if s.size = 0 then I.data.length else max I.data.length (min a 65536 + s.size)
def WriteM (f : Fs) (n a : Int) (s : ByteArray) : Nat × Nat × Fs := match node f n with
  | none => (0, 9, f)
  | some I => if I.isDir then (0, 21, f) else if a < 0 then (0, 22, f) else if 65536 < a ∨ roomM f I (sizM I a.toNat s) = false then (0, 28, f)
    else if s.size = 0 then (0, 0, f) else (s.size, 0, modN f n (fun I => { I with data := putL (resM I.data (sizM I a.toNat s)) a.toNat s.data.toList }))
theorem bytes_ge : ∀ (f : Fs) (i : Nat) (I : Ino), f[i]? = some (some I) → I.data.length ≤ bytesM f
  | [], i, I, h => by simp at h
  | x :: f, 0, I, h => by
    obtain rfl : x = some I := by simpa using h
    simp only [bytesM]; omega
  | x :: f, i + 1, I, h => by
    have := bytes_ge f i I (by simpa using h)
    cases x <;> simp only [bytesM] <;> omega
end Go.Proofs.YtmilagppbepnbaaGreat
/- Truncate. Condition: the tree lies as stated. -/
namespace Go.Proofs.YtmilagppbepnbaaGreat
open Go.RowKit Go.Shelf Go.PlainAid
attribute [local go_sem] Oper.semAt_some
end Go.Proofs.YtmilagppbepnbaaGreat
/- Write. Condition: the tree lies as stated; the text's size. -/
namespace Go.Proofs.YtmilagppbepnbaaGreat
open Go.RowKit Go.Shelf Go.PlainAid
attribute [local go_sem] Oper.semAt_some
theorem resM_len (l : List UInt8) (n : Nat) : (resM l n).length = n := by unfold resM; split <;> simp <;> omega
end Go.Proofs.YtmilagppbepnbaaGreat
/- make. Condition: the tree lies as stated. -/
namespace Go.Proofs.YtmilagppbepnbaaGreat
open Go.RowKit Go.Shelf Go.PlainAid
attribute [local go_sem] Oper.semAt_some
theorem setEnts_at {f : Fs} {i : Nat} {I : Ino} (h : f[i]? = some (some I)) (g : Ents → Ents) : setEnts f (i + 1) g = f.set i (some { I with ents := g I.ents }) := by
  unfold setEnts
  rw [show ((i + 1 : Nat) : Int) = (i : Int) + 1 by omega, node_at h]
  rfl
theorem setLinks_at {f : Fs} {i : Nat} {I : Ino} (h : f[i]? = some (some I)) (g : Nat → Nat) : setLinks f (i + 1) g = f.set i (some { I with links := g I.links }) := by
  unfold setLinks
  rw [show ((i + 1 : Nat) : Int) = (i : Int) + 1 by omega, node_at h]
  rfl
theorem putNew_old {f : Fs} {i : Nat} {D : Ino} (h : f[i]? = some (some D)) (I : Ino) : (putNew f I)[i]? = some (some D) := by
  have hl := (List.getElem?_eq_some_iff.1 h).1
  unfold putNew
  split
  · rename_i h1
    rw [List.getElem?_set_ne (fun e => by
      have h2 := free_none f h1
      rw [e, h] at h2
      cases h2)]
    exact h
  · rw [List.getElem?_append_left hl]
    exact h
theorem putNew_len (f : Fs) (I : Ino) : (putNew f I).length ≤ f.length + 1 := by unfold putNew; split <;> simp
section
variable {w : World} {B : Nat → Nat → Prop} {p : Nat} {f : Fs} {sv : Value} {ps : List (Option Nat)}
theorem FsAt.below (h : FsAt w B p f sv ps) {w' : World} (hb : Below w.heap.size w w') : FsAt w' B p f sv ps := h.keep hb.size (fun i g hg => hb.block g (h.lt i g hg))
theorem FsP.after {O : Nat → Prop} {w w1 w2 : World} {p : Nat} {f : Fs} (hb : Below w.heap.size w w1) (h : FsP O w1 w2 p f) : FsP O w w2 p f := by
  obtain ⟨B', h1, h2, h3⟩ := h
  exact ⟨B', h1, fun g hg => (h2 g hg).elim .inl (fun h => .inr (Nat.le_trans hb.size h)), (Frm.of_below hb).trans (fun g h => .inl h) h3⟩
theorem FsP.join {O : Nat → Prop} {w w1 w2 : World} {B' : Nat → Nat → Prop} {p : Nat} {f : Fs} (h2 : ∀ g, All B' g → O g ∨ w.heap.size ≤ g) (h3 : Frm O w w1) (k : FsP (All B') w1 w2 p f) : FsP O w w2 p f := FsP.trans h2 h3 k
theorem setB {w w2 : World} (h : Below w.heap.size w w2) {q o : Nat} (hq : w.heap.size = q) (u : Value) : Below w.heap.size w (w2.setCell ⟨q, o, none⟩ u) :=
  ⟨h.os, h.tape, h.output, by simpa using h.size, fun g hg => (Below.heap_setCell _ _ _ _ (fun e => by have h9 : g = q := e; omega)).trans (h.block g hg)⟩
theorem below_drew {n : Nat} {w w2 : World} (h : Below n w w2) : Below n w w2.drew := ⟨h.os, h.tape, h.output, h.size, h.block⟩
/-- An entry is laid into a directory. -/
theorem addAt_any (h : FsAt w B p f sv ps) {i : Nat} {D : Ino} (hi : f[i]? = some (some D)) (hD : Fine D) (hlen : f.length ≤ 100000) (x : ByteArray) (k : Nat) : ∃ q, Calls Tryz.prog 58 #[.pointer (some ⟨p, 0, none⟩), .int .i64 ((i : Int) + 1)] w (fun e w' => e = .returned (.pointer (some ⟨q, 0, none⟩)) ∧ w' = w) ∧
    Calls Tryz.prog 214 #[.pointer (some ⟨q, 0, none⟩), .string x, .int .i64 k] w (fun e w' => e = .returned (.tuple #[]) ∧ FsP (All B) w w' p (setEnts f (i + 1) (fun l => addM l x k))) := by
  obtain ⟨q, hq, dv, ev, hA⟩ := h.some_ i D hi
  refine ⟨q, node_yes h hq hlen, (add_any hA hD x k).mono fun e w' h9 => ⟨h9.1, ?_⟩⟩
  rw [setEnts_at hi]
  exact h.turnP (List.getElem?_eq_some_iff.1 hi).1 hq h9.2
set_option maxRecDepth 100000 in
set_option maxHeartbeats 1000000 in
theorem make_any (h : FsAt w B p f sv ps) (hf : FineF f) {i : Nat} {D : Ino} (hi : f[i]? = some (some D)) (x : ByteArray) (I : Ino) (hd : I.data = []) (he : I.ents = []) (hlen : f.length ≤ 9000) :
    Calls Tryz.prog 211 #[.pointer (some ⟨p, 0, none⟩), .int .i64 ((i : Int) + 1), .string x, .agg #[.int .i64 I.kind, .int .i64 I.mode, .int .i64 I.links, .int .i64 I.holds, .slice none 0 0, .slice none 0 0, .int .i64 I.parent]] w fun e w' =>
      e = .returned (.tuple #[.int .i64 (makeM f (i + 1) x I).1, .int .i64 (makeM f (i + 1) x I).2.1]) ∧ FsP (All B) w w' p (makeM f (i + 1) x I).2.2 := by
  obtain ⟨q0, hq0⟩ : ∃ q, w.heap.size = q := ⟨_, rfl⟩
  obtain ⟨W0, hW0⟩ : ∃ W, w.alloc (.cells #[.int .i64 I.kind, .int .i64 I.mode, .int .i64 I.links, .int .i64 I.holds, .slice none 0 0, .slice none 0 0, .int .i64 I.parent] 152) = W := ⟨_, rfl⟩
  have hB0 : Blk W0 q0 152 #[.int .i64 I.kind, .int .i64 I.mode, .int .i64 I.links, .int .i64 I.holds, .slice none 0 0, .slice none 0 0, .int .i64 I.parent] := by rw [← hW0, ← hq0]; exact Blk.new _ _ _
  have hb0 : Below w.heap.size w W0 := by rw [← hW0]; exact (Below.refl _ _).alloc (Nat.le_refl _) _
  have h0 := h.below hb0
  have hmay := Lib.hid (mayAdd_any h0 (node_at hi) hf x)
  have hcnt := Lib.hid (fun (w1 : World) (hb : Below W0.heap.size W0 w1) => count_any (h0.below hb) (by omega))
  have hM : makeM f (i + 1) x I = if mayAddM f ((i : Int) + 1) x ≠ 0 then (0, mayAddM f ((i : Int) + 1) x, f) else if 100 ≤ countM f then (0, 23, f) else (free f + 1, 0, setEnts (putNew f { I with links := 1 }) (i + 1) (fun l => addM l x (free f + 1))) := by
    unfold makeM
    rw [show ((i + 1 : Nat) : Int) = (i : Int) + 1 by omega]
  rw [hM]
  clear hM
  have hS := Lib.hid (fun (w1 : World) (hb : Below W0.heap.size W0 w1) => FsP.after hb0 (FsP.of (show FsIs W0 B p f from ⟨sv, ps, h0⟩) hb))
  have hW0H := Lib.hid hW0
  have hq0H := Lib.hid hq0
  by_cases h1 : mayAddM f ((i : Int) + 1) x = 0
  · rw [if_neg (fun h => h h1)]
    have hmay2 := Lib.hid (by have h9 := hmay.out; rw [h1] at h9; exact h9)
    have hcl := count_le f
    obtain ⟨cn, hcn⟩ : ∃ x, countM f = x := ⟨_, rfl⟩
    rw [hcn] at hcnt hcl ⊢
    by_cases h2 : 100 ≤ cn
    · rw [if_pos h2]
      clear h hf hi hd he h0 hb0 hmay h1 hcn hW0 hq0 hB0
      go_enter Tryz.func211, Tryz.ntmps211
      go_wp2_with (first | rw [hW0H.out, hq0H.out] | (go_at_call 215; refine hmay2.out.mono ?_; rintro e w1 ⟨rfl, hb1⟩) | (go_at_call 44; refine (hcnt.out _ hb1).mono ?_; rintro e w2 ⟨rfl, hb2⟩))
      go_ret2
      exact ⟨rfl, hS.out _ (hb1.trans (below_of hb2 hb1.size))⟩
    · rw [if_neg h2]
      have hPut := Lib.hid (fun (W : World) (hb : Below w.heap.size w W) => (put_any (h.below hb) { I with links := 1 } hd he (by omega)).mono fun e w4 h9 => And.intro h9.1 (show ∃ q, Calls Tryz.prog 58 #[.pointer (some ⟨p, 0, none⟩), .int .i64 ((i : Int) + 1)] w4 (fun e w' => e = .returned (.pointer (some ⟨q, 0, none⟩)) ∧ w' = w4) ∧
          Calls Tryz.prog 214 #[.pointer (some ⟨q, 0, none⟩), .string x, .int .i64 ((free f : Nat) + 1)] w4 (fun e w' => e = .returned (.tuple #[]) ∧ FsP (All B) w w' p (setEnts (putNew f { I with links := 1 }) (i + 1) (fun l => addM l x (free f + 1)))) by
        obtain ⟨B1, ⟨sv1, ps1, h1'⟩, k2, k3⟩ := FsP.after hb h9.2
        obtain ⟨q, e1, e2⟩ := addAt_any h1' (putNew_old hi _) (hf.2 i D hi) (by have := putNew_len f { I with links := 1 }; omega) x (free f + 1)
        exact ⟨q, e1, e2.mono fun e w5 h10 => ⟨h10.1, FsP.join k2 k3 h10.2⟩⟩))
      have hfl := free_le f
      obtain ⟨fr, hfr⟩ : ∃ y, free f = y := ⟨_, rfl⟩
      rw [hfr] at hPut hfl ⊢
      have hB0H := Lib.hid (fun (W : World) (hb : Below W0.heap.size W0 W) => blk_beneath hB0 hb)
      have hb0H := Lib.hid hb0
      have hs0 : Hid (W0.heap.size = q0 + 1) := Lib.hid (by rw [← hW0, ← hq0]; simp)
      clear h hf hi hd he h0 hb0 hmay h1 hcn hW0 hq0 hB0 hS hfr
      go_enter Tryz.func211, Tryz.ntmps211
      go_wp2_with (first | rw [hW0H.out, hq0H.out] | (go_at_call 215; refine hmay2.out.mono ?_; rintro e w1 ⟨rfl, hb1⟩) | (go_at_call 44; refine (hcnt.out _ hb1).mono ?_; rintro e w2 ⟨rfl, hb2⟩; go_loud (have hb3 := hb1.trans (below_of hb2 hb1.size)); have hB3 := hB0H.out _ hb3; have cl : w2.cell? ⟨q0, 2, none⟩ = some (.int .i64 I.links) := hB3.cell 2; have fl := hB3.frozen 2; have hB4 := hB3.set_ 2 (.int .i64 1); have d0 : (w2.setCell ⟨q0, 2, none⟩ (.int .i64 1)).cell? ⟨q0, 0, none⟩ = some (.int .i64 I.kind) := hB4.cell 0; have d1 : (w2.setCell ⟨q0, 2, none⟩ (.int .i64 1)).cell? ⟨q0, 1, none⟩ = some (.int .i64 I.mode) := hB4.cell 1; have d2 : (w2.setCell ⟨q0, 2, none⟩ (.int .i64 1)).cell? ⟨q0, 2, none⟩ = some (.int .i64 1) := hB4.cell 2; have d3 : (w2.setCell ⟨q0, 2, none⟩ (.int .i64 1)).cell? ⟨q0, 3, none⟩ = some (.int .i64 I.holds) := hB4.cell 3; have d4 : (w2.setCell ⟨q0, 2, none⟩ (.int .i64 1)).cell? ⟨q0, 4, none⟩ = some (.slice none 0 0) := hB4.cell 4; have d5 : (w2.setCell ⟨q0, 2, none⟩ (.int .i64 1)).cell? ⟨q0, 5, none⟩ = some (.slice none 0 0) := hB4.cell 5; have d6 : (w2.setCell ⟨q0, 2, none⟩ (.int .i64 1)).cell? ⟨q0, 6, none⟩ = some (.int .i64 I.parent) := hB4.cell 6; have hb5 : Below w.heap.size w (w2.setCell ⟨q0, 2, none⟩ (.int .i64 1)).drew := below_drew (setB (hb0H.out.trans (below_of hb3 hb0H.out.size)) hq0H.out _)))
      go_region_with (go_at_call 57; refine (hPut.out _ hb5).mono ?_; rintro e w4 ⟨rfl, q, hn4, ha4⟩)
      all_goals
        go_wp2_with (first | (go_at_call 58; refine hn4.mono ?_; rintro e w' ⟨rfl, rfl⟩) | (go_at_call 214; refine ha4.mono ?_; rintro e w5 ⟨rfl, hP5⟩))
        go_ret2
        exact ⟨rfl, hP5⟩
  · rw [if_pos h1]
    obtain ⟨er, her⟩ : ∃ y, mayAddM f ((i : Int) + 1) x = y := ⟨_, rfl⟩
    rw [her] at hmay h1 ⊢
    have h1' : ¬ (er : Int) = 0 := by omega
    clear h hf hi hd he h0 hb0 her hW0 hq0 hB0
    go_enter Tryz.func211, Tryz.ntmps211
    go_wp2_with (first | rw [hW0H.out, hq0H.out] | (go_at_call 215; refine hmay.out.mono ?_; rintro e w1 ⟨rfl, hb1⟩))
    go_ret2
    exact ⟨rfl, hS.out _ hb1⟩
end
end Go.Proofs.YtmilagppbepnbaaGreat
/- Create, Mkdir, Walk. Condition: the tree lies as stated. -/
namespace Go.Proofs.YtmilagppbepnbaaGreat
open Go.RowKit Go.Shelf Go.PlainAid
attribute [local go_sem] Oper.semAt_some
def CreateM (f : Fs) (dir : Int) (s : ByteArray) (mode : Int) : Nat × Nat × Fs :=
  if !isDir f dir then (0, 9, f) else if (aheadM f dir s).2.2 ≠ 0 then (0, (aheadM f dir s).2.2, f)
  else if slashed s then (0, 21, f) else makeM f (aheadM f dir s).1.toNat (aheadM f dir s).2.1 ⟨1, modeM mode, 0, 0, [], [], 0⟩
def MkdirM (f : Fs) (dir : Int) (s : ByteArray) (mode : Int) : Nat × Nat × Fs :=
  if !isDir f dir then (0, 9, f) else if (aheadM f dir s).2.2 ≠ 0 then (0, (aheadM f dir s).2.2, f)
  else makeM f (aheadM f dir s).1.toNat (aheadM f dir s).2.1 ⟨2, modeM mode, 0, 0, [], [], (aheadM f dir s).1.toNat⟩
theorem isDir_live {f : Fs} {n : Int} (h : isDir f n = true) : (node f n).isSome := by
  unfold isDir at h
  cases hn : node f n with
  | none => rw [hn] at h; cases h
  | some I => rfl
theorem ahead_live {f : Fs} {dir : Int} {s : ByteArray} (h : (aheadM f dir s).2.2 = 0) : ∃ D, node f (aheadM f dir s).1 = some D ∧ D.isDir = true ∧ D.may 1 = true ∧ (aheadM f dir s).2.1.size ≠ 0 ∧ (aheadM f dir s).2.1 ≠ dotT ∧ (aheadM f dir s).2.1 ≠ dotsT ∧ (aheadM f dir s).2.1.size ≤ 32 := by
  unfold aheadM at h ⊢
  split at h
  · contradiction
  · rename_i h0
    rw [if_neg h0]
    obtain ⟨r, hr⟩ : ∃ r, aheadsM f (beginM dir s).1 ⟨#[]⟩ (pieces s) = r := ⟨_, rfl⟩
    rw [hr] at h ⊢
    unfold lastM at h ⊢
    split at h
    · contradiction
    · rename_i h1
      rw [if_neg h1]
      split at h
      · contradiction
      · rename_i h2
        rw [if_neg h2]
        split at h
        · cases h
        · rename_i h3
          rw [if_neg h3]
          split at h
          · cases h
          · rename_i h4
            rw [if_neg h4]
            have h5 : enterM f r.1 = 0 := by omega
            unfold enterM at h5
            cases hn : node f r.1 with
            | none => rw [hn] at h5; cases h5
            | some I =>
              rw [hn] at h5
              dsimp only at h5
              cases hd : I.isDir with
              | false => rw [hd] at h5; cases h5
              | true =>
                cases hm : I.may 1 with
                | false => rw [hd, hm] at h5; cases h5
                | true => exact ⟨I, rfl, hd, hm, fun e => h3 (.inl e), fun e => h3 (.inr (.inl e)), fun e => h3 (.inr (.inr e)), by show r.2.1.size ≤ 32; omega⟩
section
variable {w : World} {B : Nat → Nat → Prop} {p : Nat} {f : Fs} {sv : Value} {ps : List (Option Nat)}
set_option maxHeartbeats 1000000 in
theorem mkdir_any (h : FsAt w B p f sv ps) (hf : FineF f) (hlen : f.length ≤ 9000) (hcl : Closed f) (dir : Int) (s : ByteArray) (mode : Int) (hs : s.size ≤ maxLen) :
    Calls Tryz.prog 151 #[.pointer (some ⟨p, 0, none⟩), .int .i64 dir, .string s, .int .i64 mode] w fun e w' => e = .returned (.int .i64 (MkdirM f dir s mode).2.1) ∧ FsP (All B) w w' p (MkdirM f dir s mode).2.2 := by
  have hdi := Lib.hid (isDir_fs h dir (by omega))
  have hP := Lib.hid h.same
  cases hd : isDir f dir with
  | false =>
    have hM : Hid (MkdirM f dir s mode = (0, 9, f)) := Lib.hid (by unfold MkdirM; rw [hd]; rfl)
    rw [hM.out]
    rw [hd] at hdi
    clear h hf hcl hd hM
    go_enter Tryz.func151, Tryz.ntmps151
    go_wp2_with (go_at_call 130; refine hdi.out.mono ?_; rintro e w' ⟨rfl, rfl⟩)
    go_ret
    exact ⟨rfl, hP.out⟩
  | true =>
    have hM : MkdirM f dir s mode = if (aheadM f dir s).2.2 ≠ 0 then (0, (aheadM f dir s).2.2, f) else makeM f (aheadM f dir s).1.toNat (aheadM f dir s).2.1 ⟨2, modeM mode, 0, 0, [], [], (aheadM f dir s).1.toNat⟩ := by unfold MkdirM; rw [hd]; rfl
    rw [hM]
    clear hM
    have hah := Lib.hid (ahead_any h hf hcl dir (isDir_live hd) s hs)
    have hS := Lib.hid (fun (w1 : World) (hb : Below w.heap.size w w1) => FsP.of (show FsIs w B p f from ⟨sv, ps, h⟩) hb)
    rw [hd] at hdi
    by_cases h1 : (aheadM f dir s).2.2 = 0
    · rw [if_neg (fun h => h h1)]
      obtain ⟨D, hD, _⟩ := ahead_live h1
      obtain ⟨i, hn, _, hi⟩ := node_some hD
      obtain ⟨x, hx⟩ : ∃ y, (aheadM f dir s).2.1 = y := ⟨_, rfl⟩
      rw [h1, hn, hx] at hah
      rw [hn, hx, show ((i : Int) + 1).toNat = i + 1 by omega]
      have hmk := Lib.hid (fun (W : World) (hb : Below w.heap.size w W) => (make_any (h.below hb) hf hi x ⟨2, modeM mode, 0, 0, [], [], i + 1⟩ rfl rfl hlen).mono fun e w' h9 => And.intro h9.1 (FsP.after hb h9.2))
      clear h hf hcl hd h1 hD hn hi hx
      go_enter Tryz.func151, Tryz.ntmps151
      go_wp2_with (first | (go_at_call 130; refine hdi.out.mono ?_; rintro e w' ⟨rfl, rfl⟩) | (go_at_call 210; refine hah.out.mono ?_; rintro e w1 ⟨rfl, hb1⟩) | (go_at_call 211; refine (hmk.out _ hb1).mono ?_; rintro e w2 ⟨rfl, hP2⟩))
      go_ret
      exact ⟨rfl, hP2⟩
    · rw [if_pos h1]
      obtain ⟨er, her⟩ : ∃ y, (aheadM f dir s).2.2 = y := ⟨_, rfl⟩
      rw [her] at hah h1 ⊢
      have h1' : ¬ (er : Int) = 0 := by omega
      clear h hf hcl hd her
      go_enter Tryz.func151, Tryz.ntmps151
      go_wp2_with (first | (go_at_call 130; refine hdi.out.mono ?_; rintro e w' ⟨rfl, rfl⟩) | (go_at_call 210; refine hah.out.mono ?_; rintro e w1 ⟨rfl, hb1⟩))
      go_ret
      exact ⟨rfl, hS.out _ hb1⟩
theorem Walk_any (h : FsAt w B p f sv ps) (hf : FineF f) (hcl : Closed f) (dir : Int) (s : ByteArray) (hs : s.size ≤ maxLen) :
    Calls Tryz.prog 147 #[.pointer (some ⟨p, 0, none⟩), .int .i64 dir, .string s] w fun e w' => e = .returned (.tuple #[.int .i64 (WalkM f dir s).1, .int .i64 (WalkM f dir s).2]) ∧ Below w.heap.size w w' := by
  have hdi := Lib.hid (isDir_fs h dir (by have := hf.1; omega))
  unfold WalkM
  cases hd : isDir f dir with
  | false =>
    rw [hd] at hdi
    rw [if_neg (by decide)]
    clear h hf hcl hd
    go_enter Tryz.func147, Tryz.ntmps147
    go_wp2_with (go_at_call 130; refine hdi.out.mono ?_; rintro e w' ⟨rfl, rfl⟩)
    go_ret2
    exact ⟨rfl, Below.refl _ _⟩
  | true =>
    have hw := Lib.hid (walk_any h hf hcl dir (isDir_live hd) s hs)
    rw [hd] at hdi
    rw [if_pos rfl]
    clear h hf hcl hd
    go_enter Tryz.func147, Tryz.ntmps147
    go_wp2_with (first | (go_at_call 130; refine hdi.out.mono ?_; rintro e w' ⟨rfl, rfl⟩) | (go_at_call 203; refine hw.out.mono ?_; rintro e w1 ⟨rfl, hb1⟩))
    go_ret2
    exact ⟨rfl, hb1⟩
end
end Go.Proofs.YtmilagppbepnbaaGreat
