/- GateOffsets: its calls. No condition but that the text isn't long. -/
import Derived.Test.YtmilagppbepnbaaGreatKhI
import Derived.Test.YtmilagppbepnbaaGreatKhG
import Derived.Test.YtmilagppbepnbaaGreatKgRf
import Derived.Test.YtmilagppbepnbaaGreatKgRj
namespace Go.Proofs.YtmilagppbepnbaaGreat.Kn
open Go.RowKit Go.PlainAid
set_option linter.unusedVariables false
set_option linter.unusedSimpArgs false
theorem wf_up {c : Nat} {f : Fs} (h : WF c f) (hc : c ≤ 10) : WF 10 f := h.mono hc
theorem og_c1 (L : List (Nat × TypeId × Array Value)) (w W : World) (q : Nat) (h : OwnK L w W q aw0):
    Calls Tryz.prog 15 #[.pointer (some ⟨q, 0, none⟩), .int .i64 1, .agg #[.int .i64 3, .int .i64 7, .int .i64 420, .string ⟨#[102]⟩, .string ⟨#[]⟩, .slice none 0 0]] W fun e w' => e = .returned (.tuple #[.agg #[.int .i64 3, .int .i64 0, .string ⟨#[]⟩, .slice none 0 0, .int .i64 0, .int .i64 0, .int .i64 0, .int .i64 0, .int .i64 0, .int .i64 0], .bool false]) ∧ OwnK L w w' q og1 :=
  own_call h (fun B M k => by
    refine c_open k awk_p0.1 7 420 3 fT ⟨#[]⟩ none 0 0 (fun W hk => ?_)
    have w0 : WF 10 aw0.fs := wf_up (hold_wf new_wf 1) (by omega)
    have e1 : (findM aw0 (pOf aw0 1) fT 7 420).2.2 = (CreateM aw0.fs (pOf aw0 1).dir fT (bits .andNot .i64 420 (pOf aw0 1).mask)).2.2 := by kernel_rfl
    have e2 : cutF (findM aw0 (pOf aw0 1) fT 7 420).2.2 (findM aw0 (pOf aw0 1) fT 7 420).1 7 = (CreateM aw0.fs (pOf aw0 1).dir fT (bits .andNot .i64 420 (pOf aw0 1).mask)).2.2 := by kernel_rfl
    have w1 : WF 10 (CreateM aw0.fs (pOf aw0 1).dir fT (bits .andNot .i64 420 (pOf aw0 1).mask)).2.2 := wf_up (create_wf (hold_wf new_wf 1) _ _ _) (by omega)
    have := open_create_a hk (c := 10) w0 (by omega) awk_p0.2 fT (by unfold maxLen; decide) 7 420 (by decide +kernel) (fun _ => ⟨2, og_0.2.2.2.2.1⟩) (by rw [e1]; exact w1) (by rw [e2]; exact w1) og_b.1 og_b.2.1 og_f1.1 og_0.2.2.2.2.2 ⟨og_0.1, og_f1.2.1⟩ og_0.2.1 og_f1.2.2.1
    rw [og_0.2.2.1, og_0.2.2.2.1] at this
    exact this)
theorem og_wr (s : ByteArray) (hs : s.size ≤ 1000) : writeFileM og1 4 (dOf og1 4) s = ((s.size : Int), 0, og2 s.data.toList) := by
  obtain ⟨_, _, _, _, _, _, h1, h2, h3⟩ := og_1
  have ha : wrAt og1 (dOf og1 4) = 0 := by unfold wrAt; rw [h3, if_neg (by decide)]; exact h1
  have hw : WriteM og1.fs ((dOf og1 4).n : Nat) ((wrAt og1 (dOf og1 4) : Nat) : Int) s = (s.size, 0, fsL s.data.toList) := by rw [ha, h2]; exact og_w s hs
  unfold writeFileM
  rw [hw, ha]
  dsimp only
  rw [if_pos rfl]
  unfold og2
  have hl : s.data.toList.length = s.size := by simp
  rw [hl, Nat.zero_add]
  rfl
theorem og_c2 (s : ByteArray) (hs : s.size ≤ 1000) (L : List (Nat × TypeId × Array Value)) (w W : World) (q : Nat) (h : OwnK L w W q og1):
    Calls Tryz.prog 15 #[.pointer (some ⟨q, 0, none⟩), .int .i64 1, .agg #[.int .i64 2, .int .i64 3, .int .i64 0, .string s, .string ⟨#[]⟩, .slice none 0 0]] W fun e w' => e = .returned (.tuple #[.agg #[.int .i64 s.size, .int .i64 0, .string ⟨#[]⟩, .slice none 0 0, .int .i64 0, .int .i64 0, .int .i64 0, .int .i64 0, .int .i64 0, .int .i64 0], .bool false]) ∧ OwnK L w w' q (og2 s.data.toList) :=
  own_call h (fun B M k => by
    obtain ⟨h1, h2, h3, h4, h5, h6, h7, h8, h9⟩ := og_1
    have hr := og_wr s hs
    have := c_write_file k h1 h2 (wf_up og_wf1 (by omega)) (by omega) 3 h3 h4 h5 h6 s (by omega) (by rw [h7]; decide) (by rw [hr]) 0 ⟨#[]⟩ none 0 0
    rw [hr] at this
    exact this)
theorem og_c3 (s : ByteArray) (hs : s.size ≤ 1000) (L : List (Nat × TypeId × Array Value)) (w W : World) (q : Nat) (h : OwnK L w W q (og2 s.data.toList)):
    Calls Tryz.prog 15 #[.pointer (some ⟨q, 0, none⟩), .int .i64 1, .agg #[.int .i64 3, .int .i64 1, .int .i64 0, .string ⟨#[102]⟩, .string ⟨#[]⟩, .slice none 0 0]] W fun e w' => e = .returned (.tuple #[.agg #[.int .i64 4, .int .i64 0, .string ⟨#[]⟩, .slice none 0 0, .int .i64 0, .int .i64 0, .int .i64 0, .int .i64 0, .int .i64 0, .int .i64 0], .bool false]) ∧ OwnK L w w' q (og3 s.data.toList) :=
  own_call h (fun B M k => by
    obtain ⟨h1, h2, h3, h4, h5, h6, h7, h8⟩ := og_2 s.data.toList
    refine c_open k h1 1 0 4 fT ⟨#[]⟩ none 0 0 (fun W hk => ?_)
    have w0 : WF 10 (og2 s.data.toList).fs := wf_up (og_wf2 s hs) (by omega)
    have e0 : (findM (og2 s.data.toList) (pOf (og2 s.data.toList) 1) fT 1 0).1 = 2 := by kernel_rfl
    have e1 : (findM (og2 s.data.toList) (pOf (og2 s.data.toList) 1) fT 1 0).2.2 = (og2 s.data.toList).fs := by kernel_rfl
    have e2 : cutF (findM (og2 s.data.toList) (pOf (og2 s.data.toList) 1) fT 1 0).2.2 (findM (og2 s.data.toList) (pOf (og2 s.data.toList) 1) fT 1 0).1 1 = (og2 s.data.toList).fs := by kernel_rfl
    have := open_may_a hk (c := 10) w0 (by omega) h2 fT (by unfold maxLen; decide) 1 0 (by have e : (og2 s.data.toList).lastD = 4 := (by kernel_rfl); rw [e]; decide) (fun _ => ⟨2, e0⟩) (by rw [e1]; exact w0) (by rw [e2]; exact w0) og_b.2.2.1 og_b.2.2.2 og_f1.2.2.2.1 (by rw [h8]; decide) (by rw [h5]; simp) h5 (by rw [h6]; exact h7) og_f1.2.2.2.2.1
    rw [h3, h4] at this
    exact this)
theorem og_c4 (s : ByteArray) (L : List (Nat × TypeId × Array Value)) (w W : World) (q : Nat) (h : OwnK L w W q (og3 s.data.toList)):
    Calls Tryz.prog 15 #[.pointer (some ⟨q, 0, none⟩), .int .i64 1, .agg #[.int .i64 5, .int .i64 4, .int .i64 10, .string ⟨#[]⟩, .string ⟨#[]⟩, .slice none 0 0]] W fun e w' => e = .returned (.tuple #[.agg #[.int .i64 10, .int .i64 0, .string ⟨#[]⟩, .slice none 0 0, .int .i64 0, .int .i64 0, .int .i64 0, .int .i64 0, .int .i64 0, .int .i64 0], .bool false]) ∧ OwnK L w w' q (og4 s.data.toList) :=
  own_call h (fun B M k => by
    obtain ⟨h1, h2, h3, h4, h5, h6, h7⟩ := og_3 s.data.toList
    have := c_dup k h1 h2 4 10 (fun _ => ⟨5, h5, _, h6, by rw [h7]; decide⟩) h4 ⟨#[]⟩ ⟨#[]⟩ none 0 0
    rw [h3] at this
    exact this)
theorem og_c5 (s : ByteArray) (hs : s.size ≤ 1000) (L : List (Nat × TypeId × Array Value)) (w W : World) (q : Nat) (h : OwnK L w W q (og4 s.data.toList)):
    Calls Tryz.prog 15 #[.pointer (some ⟨q, 0, none⟩), .int .i64 1, .agg #[.int .i64 8, .int .i64 0, .int .i64 0, .string ⟨#[]⟩, .string ⟨#[]⟩, .slice none 0 0]] W fun e w' => e = .returned (.tuple #[.agg #[.int .i64 2, .int .i64 0, .string ⟨#[]⟩, .slice none 0 0, .int .i64 0, .int .i64 0, .int .i64 0, .int .i64 0, .int .i64 0, .int .i64 0], .bool false]) ∧ OwnK L w w' q (og5 s.data.toList) :=
  own_call h (fun B M k => by
    obtain ⟨h1, h2, h3, h4, h5⟩ := og_4 s.data.toList
    have := c_fork k h1 h2 (c := 10) (by have e : (og4 s.data.toList).fs = (og3 s.data.toList).fs := (by kernel_rfl); rw [e]; exact wf_up (og_wf3 s hs) (by omega)) (by omega) (by have e : (og4 s.data.toList).lastR = 1 := (by kernel_rfl); rw [e]; decide) (kid_of h5) h4 0 0 ⟨#[]⟩ ⟨#[]⟩ none 0 0
    rw [h3] at this
    exact this)
theorem og_c6 (s : ByteArray) (hs : s.size ≤ 1000) (L : List (Nat × TypeId × Array Value)) (w W : World) (q : Nat) (h : OwnK L w W q (og5 s.data.toList)):
    Calls Tryz.prog 15 #[.pointer (some ⟨q, 0, none⟩), .int .i64 1, .agg #[.int .i64 3, .int .i64 1, .int .i64 0, .string ⟨#[102]⟩, .string ⟨#[]⟩, .slice none 0 0]] W fun e w' => e = .returned (.tuple #[.agg #[.int .i64 5, .int .i64 0, .string ⟨#[]⟩, .slice none 0 0, .int .i64 0, .int .i64 0, .int .i64 0, .int .i64 0, .int .i64 0, .int .i64 0], .bool false]) ∧ OwnK L w w' q (og6 s.data.toList) :=
  own_call h (fun B M k => by
    obtain ⟨h1, h2, h3, h4, h5, h6, h7, h8⟩ := og_5 s.data.toList
    refine c_open k h1 1 0 5 fT ⟨#[]⟩ none 0 0 (fun W hk => ?_)
    have w0 : WF 10 (og5 s.data.toList).fs := wf_up (og_wf5 s hs) (by omega)
    have e0 : (findM (og5 s.data.toList) (pOf (og5 s.data.toList) 1) fT 1 0).1 = 2 := by kernel_rfl
    have e1 : (findM (og5 s.data.toList) (pOf (og5 s.data.toList) 1) fT 1 0).2.2 = (og5 s.data.toList).fs := by kernel_rfl
    have e2 : cutF (findM (og5 s.data.toList) (pOf (og5 s.data.toList) 1) fT 1 0).2.2 (findM (og5 s.data.toList) (pOf (og5 s.data.toList) 1) fT 1 0).1 1 = (og5 s.data.toList).fs := by kernel_rfl
    have := open_may_a hk (c := 10) w0 (by omega) h2 fT (by unfold maxLen; decide) 1 0 (by have e : (og5 s.data.toList).lastD = 5 := (by kernel_rfl); rw [e]; decide) (fun _ => ⟨2, e0⟩) (by rw [e1]; exact w0) (by rw [e2]; exact w0) og_b.2.2.1 og_b.2.2.2 og_f1.2.2.2.1 (by rw [h8]; decide) (by rw [h5]; simp) h5 (by rw [h6]; exact h7) og_f1.2.2.2.2.1
    rw [h3, h4] at this
    exact this)
theorem og_r1 (s : ByteArray) (hs : s.size ≤ 1000) (a k : Nat) (ha : a ≤ 1000) (L : List (Nat × TypeId × Array Value)) (w W : World) (q : Nat) (h : OwnK L w W q (ogx s.data.toList a)):
    Calls Tryz.prog 15 #[.pointer (some ⟨q, 0, none⟩), .int .i64 1, .agg #[.int .i64 1, .int .i64 4, .int .i64 k, .string ⟨#[]⟩, .string ⟨#[]⟩, .slice none 0 0]] W fun e w' => e = .returned (.tuple #[.agg #[.int .i64 0, .int .i64 0, .string ⟨((s.data.toList.drop a).take k).toArray⟩, .slice none 0 0, .int .i64 0, .int .i64 0, .int .i64 0, .int .i64 0, .int .i64 0, .int .i64 0], .bool false]) ∧ OwnK L w w' q (ogx s.data.toList (a + ((s.data.toList.drop a).take k).length)) :=
  own_call h (fun B M kk => by
    obtain ⟨h1, h2, h3, h4, h5, h6, h7, h8⟩ := og_x1 s.data.toList a
    obtain ⟨d1, d2, d3, d4, d5⟩ := og_d5 s.data.toList a
    have hr : ReadM (ogx s.data.toList a).fs ((dOf (ogx s.data.toList a) 5).n : Nat) ((dOf (ogx s.data.toList a) 5).at_ : Nat) (k : Nat) = (⟨((s.data.toList.drop a).take k).toArray⟩, 0) := by rw [d5, d4]; exact og_read s.data.toList a a k
    have hl : s.data.toList.length = s.size := by simp
    have := c_read_file kk h1 h2 (wf_up (og_wfx s hs a) (by omega)) (by omega) 4 h5 d1 d2 d3 (k : Nat) (by omega) (by rw [d4]; omega) (by rw [hr]; show (((s.data.toList.drop a).take k).toArray).size ≤ _; rw [List.size_toArray, List.length_take, List.length_drop]; omega) (by rw [hr]) ⟨#[]⟩ ⟨#[]⟩ none 0 0
    rw [hr, d4] at this
    have hz : (⟨((s.data.toList.drop a).take k).toArray⟩ : ByteArray).size = ((s.data.toList.drop a).take k).length := List.size_toArray ..
    dsimp only at this
    rw [hz] at this
    rw [og_next] at this
    exact this)
theorem og_r2 (s : ByteArray) (hs : s.size ≤ 1000) (a k : Nat) (ha : a ≤ 1000) (L : List (Nat × TypeId × Array Value)) (w W : World) (q : Nat) (h : OwnK L w W q (ogx s.data.toList a)):
    Calls Tryz.prog 15 #[.pointer (some ⟨q, 0, none⟩), .int .i64 1, .agg #[.int .i64 1, .int .i64 10, .int .i64 k, .string ⟨#[]⟩, .string ⟨#[]⟩, .slice none 0 0]] W fun e w' => e = .returned (.tuple #[.agg #[.int .i64 0, .int .i64 0, .string ⟨((s.data.toList.drop a).take k).toArray⟩, .slice none 0 0, .int .i64 0, .int .i64 0, .int .i64 0, .int .i64 0, .int .i64 0, .int .i64 0], .bool false]) ∧ OwnK L w w' q (ogx s.data.toList (a + ((s.data.toList.drop a).take k).length)) :=
  own_call h (fun B M kk => by
    obtain ⟨h1, h2, h3, h4, h5, h6, h7, h8⟩ := og_x1 s.data.toList a
    obtain ⟨d1, d2, d3, d4, d5⟩ := og_d5 s.data.toList a
    have hr : ReadM (ogx s.data.toList a).fs ((dOf (ogx s.data.toList a) 5).n : Nat) ((dOf (ogx s.data.toList a) 5).at_ : Nat) (k : Nat) = (⟨((s.data.toList.drop a).take k).toArray⟩, 0) := by rw [d5, d4]; exact og_read s.data.toList a a k
    have hl : s.data.toList.length = s.size := by simp
    have := c_read_file kk h1 h2 (wf_up (og_wfx s hs a) (by omega)) (by omega) 10 h6 d1 d2 d3 (k : Nat) (by omega) (by rw [d4]; omega) (by rw [hr]; show (((s.data.toList.drop a).take k).toArray).size ≤ _; rw [List.size_toArray, List.length_take, List.length_drop]; omega) (by rw [hr]) ⟨#[]⟩ ⟨#[]⟩ none 0 0
    rw [hr, d4] at this
    have hz : (⟨((s.data.toList.drop a).take k).toArray⟩ : ByteArray).size = ((s.data.toList.drop a).take k).length := List.size_toArray ..
    dsimp only at this
    rw [hz] at this
    rw [og_next] at this
    exact this)
theorem og_r3 (s : ByteArray) (hs : s.size ≤ 1000) (a k : Nat) (ha : a ≤ 1000) (L : List (Nat × TypeId × Array Value)) (w W : World) (q : Nat) (h : OwnK L w W q (ogx s.data.toList a)):
    Calls Tryz.prog 15 #[.pointer (some ⟨q, 0, none⟩), .int .i64 2, .agg #[.int .i64 1, .int .i64 4, .int .i64 k, .string ⟨#[]⟩, .string ⟨#[]⟩, .slice none 0 0]] W fun e w' => e = .returned (.tuple #[.agg #[.int .i64 0, .int .i64 0, .string ⟨((s.data.toList.drop a).take k).toArray⟩, .slice none 0 0, .int .i64 0, .int .i64 0, .int .i64 0, .int .i64 0, .int .i64 0, .int .i64 0], .bool false]) ∧ OwnK L w w' q (ogx s.data.toList (a + ((s.data.toList.drop a).take k).length)) :=
  own_call h (fun B M kk => by
    obtain ⟨h1, h2, h3, h4, h5, h6, h7, h8⟩ := og_x1 s.data.toList a
    obtain ⟨d1, d2, d3, d4, d5⟩ := og_d5 s.data.toList a
    have hr : ReadM (ogx s.data.toList a).fs ((dOf (ogx s.data.toList a) 5).n : Nat) ((dOf (ogx s.data.toList a) 5).at_ : Nat) (k : Nat) = (⟨((s.data.toList.drop a).take k).toArray⟩, 0) := by rw [d5, d4]; exact og_read s.data.toList a a k
    have hl : s.data.toList.length = s.size := by simp
    have := c_read_file kk h3 h4 (wf_up (og_wfx s hs a) (by omega)) (by omega) 4 h7 d1 d2 d3 (k : Nat) (by omega) (by rw [d4]; omega) (by rw [hr]; show (((s.data.toList.drop a).take k).toArray).size ≤ _; rw [List.size_toArray, List.length_take, List.length_drop]; omega) (by rw [hr]) ⟨#[]⟩ ⟨#[]⟩ none 0 0
    rw [hr, d4] at this
    have hz : (⟨((s.data.toList.drop a).take k).toArray⟩ : ByteArray).size = ((s.data.toList.drop a).take k).length := List.size_toArray ..
    dsimp only at this
    rw [hz] at this
    rw [og_next] at this
    exact this)
theorem og_r4 (s : ByteArray) (hs : s.size ≤ 1000) (a k : Nat) (ha : a ≤ 1000) (L : List (Nat × TypeId × Array Value)) (w W : World) (q : Nat) (h : OwnK L w W q (ogx s.data.toList a)):
    Calls Tryz.prog 15 #[.pointer (some ⟨q, 0, none⟩), .int .i64 1, .agg #[.int .i64 1, .int .i64 5, .int .i64 k, .string ⟨#[]⟩, .string ⟨#[]⟩, .slice none 0 0]] W fun e w' => e = .returned (.tuple #[.agg #[.int .i64 0, .int .i64 0, .string ⟨((s.data.toList.drop 0).take k).toArray⟩, .slice none 0 0, .int .i64 0, .int .i64 0, .int .i64 0, .int .i64 0, .int .i64 0, .int .i64 0], .bool false]) ∧ OwnK L w w' q (setD (ogx s.data.toList a) 6 { dOf (ogx s.data.toList a) 6 with at_ := 0 + ((s.data.toList.drop 0).take k).length }) :=
  own_call h (fun B M kk => by
    obtain ⟨h1, h2, h3, h4, h5, h6, h7, h8⟩ := og_x1 s.data.toList a
    obtain ⟨d1, d2, d3, d4, d5⟩ := og_d6 s.data.toList a
    have hr : ReadM (ogx s.data.toList a).fs ((dOf (ogx s.data.toList a) 6).n : Nat) ((dOf (ogx s.data.toList a) 6).at_ : Nat) (k : Nat) = (⟨((s.data.toList.drop 0).take k).toArray⟩, 0) := by rw [d5, d4]; exact og_read s.data.toList a 0 k
    have hl : s.data.toList.length = s.size := by simp
    have := c_read_file kk h1 h2 (wf_up (og_wfx s hs a) (by omega)) (by omega) 5 h8 d1 d2 d3 (k : Nat) (by omega) (by rw [d4]; omega) (by rw [hr]; show (((s.data.toList.drop 0).take k).toArray).size ≤ _; rw [List.size_toArray, List.length_take, List.length_drop]; omega) (by rw [hr]) ⟨#[]⟩ ⟨#[]⟩ none 0 0
    rw [hr, d4] at this
    have hz : (⟨((s.data.toList.drop 0).take k).toArray⟩ : ByteArray).size = ((s.data.toList.drop 0).take k).length := List.size_toArray ..
    dsimp only at this
    rw [hz] at this
    exact this)
end Go.Proofs.YtmilagppbepnbaaGreat.Kn
