/- The iterator over a text's tokens. No condition. -/
import Derived.Test.YtkakphiofahlgaaDoorLxS
namespace Go.Proofs.YtkakphiofahlgaaDoor
open Go.RowKit Go.Shelf Go.PlainAid
attribute [local go_sem] Oper.semAt_some

theorem drop_cons {ts : List Tk} {k : Nat} {t : Tk} (h : ts[k]? = some t) : ts.drop k = t :: ts.drop (k + 1) := by
  obtain ⟨h1, h2⟩ := List.getElem?_eq_some_iff.1 h
  rw [List.drop_eq_getElem_cons h1, h2]

theorem row_keepC {W W' : World} {base size n : Nat} {e : TypeId} {v : Value} {xs : List Value} {S : Nat → Prop} (h : W.ownsRow base e size v n xs) (k : KeepC S W W') (hS : ∀ g, v.ownBlock = some g → ¬ S g) : W'.ownsRow base e size v n xs := by
  refine row_keep h (fun g hg => ?_)
  rcases h.2 with ⟨rfl, _⟩ | ⟨g1, cap, cur, rfl, _, hb, _⟩
  · simp [Value.ownBlock] at hg
  · obtain rfl : g1 = g := by simpa [Value.ownBlock] using hg
    exact k.heap hb rfl (hS _ rfl)

set_option maxRecDepth 100000 in
set_option maxHeartbeats 3000000 in
theorem tokens15_in (d : Nat) (hd : 1 ≤ d) (l B n₀ N : Nat) (S : Nat → Prop) (s : ByteArray) (J Jx : List (Tk × Nat) → World → Prop)
    (hY : ∀ pre x W, J pre W → pre.length < N → YieldAt Fence.wide (d - 1) Tryd.prog l (encK x) W fun e W' =>
      (e = .returned (.bool true) ∧ J (pre ++ [x]) W' ∧ KeepC S W W') ∨ (e = .returned (.bool false) ∧ Jx (pre ++ [x]) W'))
    (W : World) (hJb : ∀ p (W W' : World), J p W → Below W.heap.size W W' → J p W') (hB : Blk W B 9 #[.string s]) (hSB : ¬ S B) (hS : ∀ g, S g → g < n₀) (hn₀ : n₀ ≤ W.heap.size) (hN : (yieldsM s s.size 0).length ≤ N) (h0 : J [] W) :
    CallsIn Fence.wide d Tryd.prog 15 #[.func (.yield l) #[] #[], .pointer (some ⟨B, 0, none⟩)] W fun e W' => (∃ v, e = .returned v) ∧
      ((∃ ys, ys = yieldsM s s.size 0 ∧ J ys W') ∨ (∃ pre, pre <+: yieldsM s s.size 0 ∧ Jx pre W')) := by
  refine callsIn_of_wp Tryd.func15 rfl trivial ?_ rfl
  simp only [Tryd.ntmps15, List.size_toArray, List.length_cons, List.length_nil, Nat.reduceAdd, Nat.reduceSub, Array.replicate_succ, Array.replicate_zero, List.push_toArray, List.append_toArray, List.nil_append, List.cons_append]
  have hBH := Lib.hid hB
  have hNH := Lib.hid hN
  have h0H := Lib.hid h0
  clear hB hN h0
  gi_wp2
  gi_loopw [3] (fun s3 wr => ∃ (i f : Nat) (pre : List (Tk × Nat)), i ≤ s.size ∧ s.size ≤ i + f ∧ s3 = .int .i64 i ∧ n₀ ≤ wr.heap.size ∧ Hid (pre ++ yieldsM s f i = yieldsM s s.size 0) ∧ Hid (Blk wr B 9 #[.string s]) ∧ Hid (J pre wr)) (fun s3 _ => s.size - (intOf s3).toNat)
  case atStart => exact ⟨0, s.size, [], Nat.zero_le _, by omega, by go_num, hn₀, Lib.hid rfl, hBH, h0H⟩
  case round =>
    obtain ⟨i, f, pre, hi, hf, rfl, hsz, hpre, hBr, hJ⟩ := hrel
    have x0 : wr.cell? ⟨B, 0, none⟩ = some (.string s) := hBr.out.cell 0
    by_cases hlt : i < s.size
    · obtain ⟨f, rfl⟩ : ∃ g, f = g + 1 := ⟨f - 1, by omega⟩
      have hln := Line_any s i wr
      have htl := top_len s i
      by_cases he : (topM s i).err = 0
      · have hyl := Lib.hid (hpre.out)
        rw [yl_on hlt he] at hyl
        have hnx := top_next hlt he
        obtain ⟨r, hr⟩ : ∃ r, topM s i = r := ⟨_, rfl⟩
        rw [hr] at hln hyl hnx he htl
        obtain ⟨ts, nx, pl, er⟩ := r
        simp only at hln hnx he htl
        obtain ⟨n, hn⟩ : ∃ n, ts.length = n := ⟨_, rfl⟩
        rw [hn] at hln htl
        obtain ⟨htl, htl2⟩ := htl
        obtain ⟨hnx1, hnx2⟩ := hnx
        subst he
        have hlnH := Lib.hid hln
        have hBr0 := hBr.out.lt
        clear hln hr
        gi_wp2_with (refine ⟨trivial, ?_⟩; gi_at_call 9; refine (callsIn_wide.2 hlnH.out).mono ?_; rintro e w2 ⟨a, c, rfl, hrow, hbel⟩; have hrow2 := hrow; simp only [hn] at hrow2; have hrowH := Lib.hid hrow2; have hbelH := Lib.hid hbel; clear hrow hrow2 hbel)
        obtain ⟨wo, hwo⟩ : ∃ x : World, x = wr := ⟨_, rfl⟩
        subst hwo
        gi_loopw [30] (fun v wr => ∃ k : Nat, k ≤ n ∧ v = .int .i64 k ∧ wo.heap.size ≤ wr.heap.size ∧ Hid (Blk wr B 9 #[.string s]) ∧ Hid (wr.ownsRow wo.heap.size 28 5 (.slice a n c) n (tv ts)) ∧ Hid (J (pre ++ (ts.take k).map (·, 0)) wr)) (fun v _ => n - (intOf v).toNat)
        case atStart => exact ⟨0, Nat.zero_le _, by go_num, hbelH.out.size, Lib.hid (blk_beneath hBr.out hbelH.out), hrowH, Lib.hid (by rw [List.take_zero, List.map_nil, List.append_nil]; exact hJb _ _ _ hJ.out hbelH.out)⟩
        case round =>
          obtain ⟨k, hk, rfl, hsx, hBx, hrx, hJx⟩ := hrel
          by_cases hkn : k < n
          · obtain ⟨t, htk⟩ : ∃ t, ts[k]? = some t := ⟨ts[k]'(by omega), List.getElem?_eq_getElem _⟩
            obtain ⟨g, rfl, hg0, hg1, hcell⟩ := row_form hn.symm hrx.out (by omega)
            obtain ⟨y1, y2, y3, y4, y5⟩ := hcell k t htk
            have hdr := drop_cons htk
            have htake : (ts.take (k + 1)).map (fun x => (x, (0 : Nat))) = (ts.take k).map (fun x => (x, (0 : Nat))) ++ [(t, 0)] := by rw [List.take_add_one, htk]; simp
            have hall : pre ++ (ts.take k).map (fun x => (x, (0 : Nat))) ++ (t, 0) :: ((ts.drop (k + 1)).map (fun x => (x, (0 : Nat))) ++ yieldsM s f nx) = yieldsM s s.size 0 := by
              rw [← hyl.out]
              conv => rhs; rw [← List.take_append_drop k ts, hdr]
              simp
            have hlen : (pre ++ (ts.take k).map (fun x => (x, (0 : Nat)))).length < N := by
              have h1 := congrArg List.length hall
              have h2 := hNH.out
              rw [List.length_append, List.length_cons] at h1
              omega
            have hpx : Hid (pre ++ (ts.take k).map (fun x => (x, (0 : Nat))) ++ [(t, 0)] <+: yieldsM s s.size 0) := Lib.hid ⟨(ts.drop (k + 1)).map (fun x => (x, (0 : Nat))) ++ yieldsM s f nx, by rw [← hall]; simp⟩
            have htakeH := Lib.hid htake
            clear hall hdr hcell htake
            gi_upto_region 8 with fail
            have hb8 : Below wr.heap.size wr (wr.alloc (.cells #[.int .i64 t.kind, .string t.text, .int .i64 t.place, .string t.doc, .bool t.raw] 28)) := (Below.refl _ _).alloc (Nat.le_refl _) _
            have hT := Blk.new wr 28 #[.int .i64 t.kind, .string t.text, .int .i64 t.place, .string t.doc, .bool t.raw]
            obtain ⟨W8, hW8⟩ : ∃ W8, wr.alloc (.cells #[.int .i64 t.kind, .string t.text, .int .i64 t.place, .string t.doc, .bool t.raw] 28) = W8 := ⟨_, rfl⟩
            rw [hW8] at hb8 hT ⊢
            have t0 : W8.cell? ⟨wr.heap.size, 0, none⟩ = some (.int .i64 t.kind) := hT.cell 0
            have t1 : W8.cell? ⟨wr.heap.size, 1, none⟩ = some (.string t.text) := hT.cell 1
            have t2 : W8.cell? ⟨wr.heap.size, 2, none⟩ = some (.int .i64 t.place) := hT.cell 2
            have t3 : W8.cell? ⟨wr.heap.size, 3, none⟩ = some (.string t.doc) := hT.cell 3
            have t4 : W8.cell? ⟨wr.heap.size, 4, none⟩ = some (.bool t.raw) := hT.cell 4
            have hB8 : Hid (Blk W8 B 9 #[.string s]) := Lib.hid (blk_beneath hBx.out hb8)
            have hr8 : Hid (W8.ownsRow wo.heap.size 28 5 (.slice (some ⟨g, 0, none⟩) n c) n (tv ts)) := Lib.hid (row_beneath hrx.out hb8)
            have hJ8 := hJb _ _ _ hJx.out hb8
            have hs8 := hb8.size
            obtain ⟨fn, tmps, assign, body, hy, hYR⟩ := hY _ (t, 0) W8 hJ8 hlen
            have hYH := Lib.hid hYR
            dsimp only [encK, Tk.agg] at hy
            rw [show ((0 : Nat) : Int) = 0 from rfl] at hy
            clear hJ8 hYR hW8 hb8 hT
            gi_wp2
            refine hYH.out.mono ?_
            rintro e W3 (⟨rfl, hJ3, hk3⟩ | ⟨rfl, hJx3⟩)
            · have hJ3H := Lib.hid hJ3
              have hB3 : Hid (Blk W3 B 9 #[.string s]) := Lib.hid (hk3.blk hB8.out hSB)
              have hr3 : Hid (W3.ownsRow wo.heap.size 28 5 (.slice (some ⟨g, 0, none⟩) n c) n (tv ts)) := Lib.hid (row_keepC hr8.out hk3 (fun q hq hS' => by have := hS q hS'; have := (hr8.out.lt q hq).1; omega))
              have hs3 := hk3.size
              clear hJ3 hk3
              gi_wp2
              go_roundw
              case rel => exact ⟨k + 1, by omega, by go_num, by omega, hB3, hr3, Lib.hid (by rw [htakeH.out, ← List.append_assoc]; exact hJ3H.out)⟩
              case measure => simp [intOf]; omega
            · have hJxH := Lib.hid hJx3
              clear hJx3
              gi_wp2
              refine bodyPost_ret (results_none rfl _ _ _) rfl ?_
              exact ⟨⟨_, rfl⟩, .inr ⟨_, hpx.out, hJxH.out⟩⟩
          · obtain rfl : k = n := by omega
            gi_wp2
            go_roundw
            case rel => exact ⟨nx, f, _, hnx2, by omega, by go_num, by omega, Lib.hid (by rw [List.append_assoc]; exact hyl.out), hBx, Lib.hid (by have h9 := hJx.out; rw [List.take_of_length_le (by omega)] at h9; exact h9)⟩
            case measure => simp [intOf]; omega
      · have hyl := Lib.hid (hpre.out)
        rw [yl_bad hlt he] at hyl
        have hbad := top_bad he
        obtain ⟨r, hr⟩ : ∃ r, topM s i = r := ⟨_, rfl⟩
        rw [hr] at hln hyl he htl hbad
        obtain ⟨ts, nx, pl, er⟩ := r
        simp only at hln he htl hbad
        obtain ⟨rfl, rfl⟩ := hbad
        have hE := ne_err he
        have hlnH := Lib.hid hln
        have hlen : pre.length < N := by
          have h1 := congrArg List.length hyl.out
          have h2 := hNH.out
          rw [List.length_append, List.length_cons] at h1
          omega
        clear hln hr
        gi_upto_region 4 with (refine ⟨trivial, ?_⟩; gi_at_call 9; refine (callsIn_wide.2 hlnH.out).mono ?_; rintro e w2 ⟨a, c, rfl, hrow, hbel⟩; have hbelH := Lib.hid hbel; clear hrow hbel)
        have hJ8 := hJb _ _ _ hJ.out hbelH.out
        obtain ⟨fn, tmps, assign, body, hy, hYR⟩ := hY _ (tk0, er) w2 hJ8 hlen
        have hYH := Lib.hid hYR
        dsimp only [encK, Tk.agg, tk0] at hy
        rw [show ((0 : Nat) : Int) = 0 from rfl] at hy
        clear hJ8 hYR
        gi_wp2
        refine hYH.out.mono ?_
        rintro e W3 (⟨rfl, hJ3, hk3⟩ | ⟨rfl, hJx3⟩)
        · have hJ3H := Lib.hid hJ3
          clear hJ3 hk3
          gi_wp2
          refine bodyPost_ret (results_none rfl _ _ _) rfl ?_
          exact ⟨⟨_, rfl⟩, .inl ⟨_, hyl.out, hJ3H.out⟩⟩
        · have hJxH := Lib.hid hJx3
          clear hJx3
          gi_wp2
          refine bodyPost_ret (results_none rfl _ _ _) rfl ?_
          exact ⟨⟨_, rfl⟩, .inr ⟨_, by rw [← hyl.out]; exact List.prefix_refl _, hJxH.out⟩⟩
    · have hyl := Lib.hid (hpre.out)
      rw [yl_end hlt, List.append_nil] at hyl
      gi_wp2
      go_end0
      exact ⟨⟨_, rfl⟩, .inl ⟨pre, hyl.out, hJ.out⟩⟩
theorem below_grown {w w' : World} (h : Below w.heap.size w w') : w.grownBy w' none := ⟨h.os, h.tape, h.output, h.size, fun i hi _ => h.block i hi⟩
theorem tokens_any (s : ByteArray) (w : World) : Calls Tryd.prog 10 #[.string s] w fun e w' => e = .returned (.func (.func 15) #[] #[.pointer (some ⟨w.heap.size, 0, none⟩)]) ∧ w' = w.alloc (.cells #[.string s] 9) := by
  go_enter Tryd.func10, Tryd.ntmps10
  go_wp2
  go_ret
  exact ⟨rfl, rfl⟩
theorem tokens_stops (d : Nat) (hd : 1 ≤ d) (B n₀ N : Nat) (S : Nat → Prop) (s : ByteArray) (w : World) (hB : Blk w B 9 #[.string s]) (hSB : ¬ S B) (hS : ∀ g, S g → g < n₀) (hn₀ : n₀ ≤ w.heap.size) (hN : (yieldsM s s.size 0).length ≤ N) :
    SeqStopsK Fence.wide d Tryd.prog 15 #[.pointer (some ⟨B, 0, none⟩)] encK (KeepC S) (fun xs => xs = yieldsM s s.size 0) (fun pre => pre <+: yieldsM s s.size 0) N w := by
  intro l J Jx W hW hJ _ hY h0
  exact tokens15_in d hd l B n₀ N S s J Jx hY W (fun p W W' h hb => hJ p W W' none h (below_grown hb) (fun r e => by cases e)) (blk_beneath hB hW) hSB hS (Nat.le_trans hn₀ hW.size) hN h0
end Go.Proofs.YtkakphiofahlgaaDoor
