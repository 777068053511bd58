/- The members of a bracket, one by one: the iterator. Condition: lengths. -/
import Derived.Test.YtlaidmjlgjpgcaaPatE
import Derived.Test.YtlaidmjlgjpgcaaSplG
namespace Go.Proofs.Ytlaidmjlgjpgcaa
open Go.RowKit Go.Shelf Go.PlainAid
attribute [local go_sem] Oper.semAt_some

def encM (m : Mem × Nat) : Array Value := #[memV m.1, .int .i64 (m.2 : Int)]
/-- What a round keeps: what lies below n₀, and the iterator's two variables. -/
def KeepM (n₀ Ba Bl : Nat) (W W' : World) : Prop := Below n₀ W W' ∧ W'.heap[Ba]? = W.heap[Ba]? ∧ W'.heap[Bl]? = W.heap[Bl]?
theorem keepM_t {n₀ Ba Bl : Nat} {A B C : World} (h : KeepM n₀ Ba Bl A B) (k : KeepM n₀ Ba Bl B C) : KeepM n₀ Ba Bl A C := ⟨h.1.trans k.1, k.2.1.trans h.2.1, k.2.2.trans h.2.2⟩
/-- What the iterator reads. -/
structure RdM (n₀ Ba Bl : Nat) (a : Nat) (av : Option Addr) (n cv : Nat) (p : List Ch) (w : World) : Prop where
  ba : Boxed w Ba 3 (.int .i64 (a : Int))
  bl : Boxed w Bl 22 (.slice av n cv)
  pc : ChsAt n₀ w av p
  hn : n₀ ≤ w.heap.size
theorem RdM.keep {n₀ Ba Bl a : Nat} {av : Option Addr} {n cv : Nat} {p : List Ch} {w w' : World} (h : RdM n₀ Ba Bl a av n cv p w) (k : KeepM n₀ Ba Bl w w') : RdM n₀ Ba Bl a av n cv p w' :=
  ⟨k.2.1.trans h.ba, k.2.2.trans h.bl, h.pc.below k.1, Nat.le_trans h.hn k.1.size⟩
theorem RdM.beneath {n₀ Ba Bl a : Nat} {av : Option Addr} {n cv : Nat} {p : List Ch} {w w' : World} (h : RdM n₀ Ba Bl a av n cv p w) (k : Below w.heap.size w w') : RdM n₀ Ba Bl a av n cv p w' :=
  h.keep ⟨k.mono h.hn, k.block _ h.ba.lt, k.block _ h.bl.lt⟩
def goOn (p : List Ch) (a i : Nat) : Bool := decide (i < p.length ∧ (i = a ∨ isAt p i 93 = false))
theorem goOn_yes {p : List Ch} {a i : Nat} (h : goOn p a i = true) : mems p a i = memP p i :: mems p a (memP p i).2 ∧ i < p.length := by
  have := of_decide_eq_true h
  exact ⟨mems_cons this.1 this.2, this.1⟩
theorem goOn_no {p : List Ch} {a i : Nat} (h : goOn p a i = false) : mems p a i = [] := by
  have h' := of_decide_eq_false h
  rw [mems, dif_neg h']

set_option maxRecDepth 100000 in
set_option maxHeartbeats 3000000 in
theorem members61_in (d : Nat) (hd : 1 ≤ d) (l Ba Bl n₀ N : Nat) (a : Nat) (av : Option Addr) (n cv : Nat) (p : List Ch) (hn : p.length = n) (hn2 : n ≤ 1000000) (ha : a ≤ 1000010) (hN : (mems p a a).length ≤ N) (J Jx : List (Mem × Nat) → World → Prop)
    (hY : ∀ pre x W, J pre W → pre.length < N → YieldAt Fence.wide (d - 1) Try.prog l (encM x) W fun e W' =>
      (e = .returned (.bool true) ∧ J (pre ++ [x]) W' ∧ KeepM n₀ Ba Bl W W') ∨ (e = .returned (.bool false) ∧ Jx (pre ++ [x]) W'))
    (W : World) (hJb : ∀ s (W W' : World), J s W → Below W.heap.size W W' → J s W') (hR0 : RdM n₀ Ba Bl a av n cv p W) (h0 : J [] W) :
    CallsIn Fence.wide d Try.prog 61 #[.func (.yield l) #[] #[], .pointer (some ⟨Ba, 0, none⟩), .pointer (some ⟨Bl, 0, none⟩)] W fun e W' => (∃ v, e = .returned v) ∧
      ((∃ ys, ys = mems p a a ∧ J ys W') ∨ (∃ pre, pre <+: mems p a a ∧ Jx pre W')) := by
  refine callsIn_of_wp Try.func61 rfl trivial ?_ rfl
  simp only [Try.ntmps61, List.size_toArray, List.length_cons, List.length_nil, Nat.reduceAdd, Nat.reduceSub, Array.replicate_succ, Array.replicate_zero, List.push_toArray, List.append_toArray, List.nil_append, List.cons_append]
  have ca := hR0.ba.cell
  have hnH := Lib.hid hn
  have hRH0 := Lib.hid hR0
  have hNH := Lib.hid hN
  clear hn hR0 hN
  gi_wp2
  gi_loopw [4] (fun s4 wr => ∃ (i : Nat) (pre : List (Mem × Nat)), i ≤ 1000010 ∧ s4 = .int .i64 i ∧ Hid (pre ++ mems p a i = mems p a a) ∧ Hid (RdM n₀ Ba Bl a av n cv p wr) ∧ Hid (J pre wr)) (fun s4 _ => 1000011 - (intOf s4).toNat)
  case atStart => exact ⟨a, [], ha, rfl, Lib.hid rfl, hRH0, Lib.hid h0⟩
  case round =>
    obtain ⟨i, pre, hi, rfl, hpre, hR, hJ⟩ := hrel
    clear ca hRH0 h0
    have ca := hR.out.ba.cell
    have cl := hR.out.bl.cell
    have hBr := Below.refl wr.heap.size wr
    gi_upto_region 1 with fail
    gi_cut [24] from 8 (fun s24 wx => s24 = .bool (goOn p a i) ∧ Below wr.heap.size wr wx)
    case first =>
      by_cases hlt : i < n
      · have hlt' : (i : Int) < (n : Int) := by omega
        obtain ⟨x, hx⟩ : ∃ x, p[i]? = some x := ⟨_, List.getElem?_eq_getElem (by rw [hnH.out]; exact hlt)⟩
        obtain ⟨g, off, rfl, hg, c0, c1⟩ := hR.out.pc i x hx
        have hxH := Lib.hid hx
        clear hx
        by_cases hia : i = a
        · have hgo : Hid (goOn p a i = true) := Lib.hid (decide_eq_true ⟨by rw [hnH.out]; exact hlt, .inl hia⟩)
          have eia : ((i : Int) == (a : Int)) = true := by rw [hia]; simp
          clear hia
          gi_wp2
          refine ⟨trivial, ?_⟩
          gi_wp2
          gi_meet
          exact ⟨by rw [hgo.out], hBr⟩
        · have eia : ((i : Int) == (a : Int)) = false := beq_eq_false_iff_ne.2 (by omega)
          have hgo : Hid (goOn p a i = !(bareB x 93)) := Lib.hid (by
            unfold goOn
            rw [isAt_some hxH.out, Bool.eq_iff_iff, decide_eq_true_iff]
            have : i < p.length := by rw [hnH.out]; exact hlt
            cases bareB x 93 <;> simp [this, hia])
          clear hia
          gi_wp2_with (refine ⟨trivial, ?_⟩; gi_at_call 36; (with_reducible refine (callsIn_wide.2 (bare93 _ hBr (Nat.le_refl _))).mono ?_); rintro e w7 ⟨rfl, hb7⟩)
          gi_meet
          exact ⟨by rw [hgo.out], hb7⟩
      · have hlt' : ¬ (i : Int) < (n : Int) := by omega
        have hgo : Hid (goOn p a i = false) := Lib.hid (decide_eq_false (fun h => by have := h.1; rw [hnH.out] at this; exact hlt this))
        gi_wp2
        all_goals first
          | (exfalso; rename_i h1 h2; exact absurd h1 (by simp [undef]))
          | (refine ⟨trivial, ?_⟩; gi_wp2; gi_meet; exact ⟨by rw [hgo.out], hBr⟩)
    case rest =>
      obtain ⟨rfl, hbc⟩ := hcut
      have hRc : Hid (RdM n₀ Ba Bl a av n cv p wc) := Lib.hid (hR.out.beneath hbc)
      have hJc : Hid (J pre wc) := Lib.hid (hJb _ _ _ hJ.out hbc)
      clear hBr hbc ca cl hR hJ
      cases hgo : goOn p a i
      · have hnil : Hid (mems p a i = []) := Lib.hid (goOn_no hgo)
        clear hgo
        gi_wp2
        go_end0
        exact ⟨⟨_, rfl⟩, .inl ⟨pre, by have := hpre.out; rw [hnil.out, List.append_nil] at this; exact this, hJc.out⟩⟩
      · obtain ⟨hc, hip⟩ := goOn_yes hgo
        have hcH := Lib.hid hc
        have hnx := memP_next p i hip
        have hnxl : (memP p i).2 ≤ 1000000 := by have := hnH.out; omega
        have hin : i < n := by have := hnH.out; omega
        have cl := hRc.out.bl.cell
        have hmem := Lib.hid (memberAt_any av n cv p i wc hnH.out (hRc.out.pc.mono hRc.out.hn) hn2 hin)
        have hlen : pre.length < N := by
          have h1 := congrArg List.length hpre.out
          have h2 := hNH.out
          rw [hcH.out, List.length_append, List.length_cons] at h1
          omega
        obtain ⟨mm, hmm⟩ : ∃ mm, memP p i = mm := ⟨_, rfl⟩
        rw [hmm] at hcH hmem hnx hnxl
        have hpx : Hid (pre ++ [mm] <+: mems p a a) := Lib.hid ⟨mems p a mm.2, by rw [← hpre.out, hcH.out]; simp⟩
        have hpn : Hid (pre ++ [mm] ++ mems p a mm.2 = mems p a a) := Lib.hid (by rw [← hpre.out, hcH.out]; simp)
        clear hgo hc hip hmm
        obtain ⟨q, hq⟩ : ∃ q, mm.2 = q := ⟨_, rfl⟩
        have hqH := Lib.hid hq
        unfold MemberR memV memC at hmem
        rw [hq] at hmem hnx hnxl
        clear hq
        gi_upto_region 3 with (refine ⟨trivial, ?_⟩; gi_at_call 62; refine (callsIn_wide.2 hmem.out).mono ?_; rintro e w7 ⟨hb7, rfl⟩)
        have hb8 : Below wc.heap.size wc (w7.alloc (.cells #[.int .u8 (mm.1.1.a.toNat : Int), .int .u8 (mm.1.1.b.toNat : Int), .int .u8 (mm.1.2.1.a.toNat : Int), .int .u8 (mm.1.2.1.b.toNat : Int), .int .u8 (mm.1.2.2.a.toNat : Int), .int .u8 (mm.1.2.2.b.toNat : Int)] 100)) := hb7.alloc hb7.size _
        have hT : Blk (w7.alloc (.cells #[.int .u8 (mm.1.1.a.toNat : Int), .int .u8 (mm.1.1.b.toNat : Int), .int .u8 (mm.1.2.1.a.toNat : Int), .int .u8 (mm.1.2.1.b.toNat : Int), .int .u8 (mm.1.2.2.a.toNat : Int), .int .u8 (mm.1.2.2.b.toNat : Int)] 100)) w7.heap.size 100 #[.int .u8 (mm.1.1.a.toNat : Int), .int .u8 (mm.1.1.b.toNat : Int), .int .u8 (mm.1.2.1.a.toNat : Int), .int .u8 (mm.1.2.1.b.toNat : Int), .int .u8 (mm.1.2.2.a.toNat : Int), .int .u8 (mm.1.2.2.b.toNat : Int)] := Blk.new _ _ _
        obtain ⟨W8, hW8⟩ : ∃ W8, w7.alloc (.cells #[.int .u8 (mm.1.1.a.toNat : Int), .int .u8 (mm.1.1.b.toNat : Int), .int .u8 (mm.1.2.1.a.toNat : Int), .int .u8 (mm.1.2.1.b.toNat : Int), .int .u8 (mm.1.2.2.a.toNat : Int), .int .u8 (mm.1.2.2.b.toNat : Int)] 100) = W8 := ⟨_, rfl⟩
        rw [hW8] at hb8 hT ⊢
        obtain ⟨⟨t0, t1, t2, t3, t4, t5⟩, _⟩ := six_cells hT
        have hR8 : Hid (RdM n₀ Ba Bl a av n cv p W8) := Lib.hid (hRc.out.beneath hb8)
        have hJ8 : J pre W8 := hJb _ _ _ hJc.out hb8
        obtain ⟨fn, tmps, assign, body, hy, hYR⟩ := hY pre mm W8 hJ8 hlen
        have hYH := Lib.hid hYR
        unfold encM memV memC at hy
        rw [hqH.out] at hy
        clear hJ8 hYR hW8 hb8 hb7 hT cl hmem
        gi_wp2
        refine hYH.out.mono ?_
        rintro e W3 (⟨rfl, hJ3, hk3⟩ | ⟨rfl, hJx3⟩)
        · have hJ3H := Lib.hid hJ3
          have hR3 := Lib.hid (hR8.out.keep hk3)
          clear hJ3 hk3
          gi_wp2
          go_roundw
          case rel => exact ⟨q, pre ++ [mm], by omega, rfl, Lib.hid (by have := hpn.out; rw [hqH.out] at this; exact this), hR3, hJ3H⟩
          case measure => simp [intOf]; omega
        · have hJxH := Lib.hid hJx3
          clear hJx3
          gi_wp2
          refine bodyPost_ret (results_none rfl _ _ _) rfl ?_
          exact ⟨⟨_, rfl⟩, .inr ⟨_, hpx.out, hJxH.out⟩⟩

theorem below_grown {B : Nat} {w w' : World} (h : Below w.heap.size w w') (_ : B ≤ B) : w.grownBy w' none := ⟨h.os, h.tape, h.output, h.size, fun i hi _ => h.block i hi⟩
theorem members_any (av : Option Addr) (n cv : Nat) (a : Nat) (w : World) : Calls Try.prog 57 #[.slice av n cv, .int .i64 (a : Int)] w fun e w' => e = .returned (.func (.func 61) #[] #[.pointer (some ⟨w.heap.size + 1, 0, none⟩), .pointer (some ⟨w.heap.size, 0, none⟩)]) ∧ w' = (w.alloc (.cells #[.slice av n cv] 22)).alloc (.cells #[.int .i64 (a : Int)] 3) := by
  go_enter Try.func57, Try.ntmps57
  go_wp2
  go_ret
  exact ⟨rfl, rfl⟩
theorem members_stops (d : Nat) (hd : 1 ≤ d) (Ba Bl n₀ N : Nat) (a : Nat) (av : Option Addr) (n cv : Nat) (p : List Ch) (hn : p.length = n) (hn2 : n ≤ 1000000) (ha : a ≤ 1000010) (hN : (mems p a a).length ≤ N) (w : World) (hR : RdM n₀ Ba Bl a av n cv p w) :
    SeqStopsK Fence.wide d Try.prog 61 #[.pointer (some ⟨Ba, 0, none⟩), .pointer (some ⟨Bl, 0, none⟩)] encM (KeepM n₀ Ba Bl) (fun xs => xs = mems p a a) (fun pre => pre <+: mems p a a) N w := by
  intro l J Jx W hW hJ _ hY h0
  exact members61_in d hd l Ba Bl n₀ N a av n cv p hn hn2 ha hN J Jx hY W (fun s W W' h hb => hJ s W W' none h (below_grown (B := 0) hb (Nat.le_refl _)) (fun r e => by cases e)) (hR.beneath hW) h0
end Go.Proofs.Ytlaidmjlgjpgcaa
