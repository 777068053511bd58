/- The reference's class. Condition: lengths. -/
import Derived.Test.YtlaidmjlgjpgcaaPatR
namespace Go.Proofs.Ytlaidmjlgjpgcaa
open Go.RowKit
attribute [local go_sem] Oper.semAt_some

def namesV : Array Value := #[.string ⟨#[97, 108, 112, 104, 97]⟩, .string ⟨#[100, 105, 103, 105, 116]⟩, .string ⟨#[97, 108, 110, 117, 109]⟩, .string ⟨#[117, 112, 112, 101, 114]⟩, .string ⟨#[108, 111, 119, 101, 114]⟩, .string ⟨#[115, 112, 97, 99, 101]⟩]
def spB (c : UInt8) : Bool := inSp ⟨9, 13⟩ c || inSp ⟨32, 32⟩ c
def holdsV (c : UInt8) : Array Value := #[.bool (inSp ⟨65, 90⟩ c || inSp ⟨97, 122⟩ c), .bool (inSp ⟨48, 57⟩ c), .bool ((inSp ⟨65, 90⟩ c || inSp ⟨97, 122⟩ c) || inSp ⟨48, 57⟩ c), .bool (inSp ⟨65, 90⟩ c), .bool (inSp ⟨97, 122⟩ c), .bool (spB c)]
theorem names_at (c : UInt8) (k : Nat) (h : k < 6) : ∃ (nm : ByteArray) (m : Mem), namesV[k]? = some (.string nm) ∧ clsTab[k]? = some (nm.data.toList, m) ∧ nm.size = 5 ∧ (holdsV c)[k]? = some (.bool (inMem m c)) := by
  have : k = 0 ∨ k = 1 ∨ k = 2 ∨ k = 3 ∨ k = 4 ∨ k = 5 := by omega
  rcases this with rfl | rfl | rfl | rfl | rfl | rfl
  · exact ⟨_, _, rfl, rfl, rfl, by simp [holdsV, inMem, inSp_no]⟩
  · exact ⟨_, _, rfl, rfl, rfl, by simp [holdsV, inMem, inSp_no, oneM]⟩
  · exact ⟨_, _, rfl, rfl, rfl, by simp [holdsV, inMem]⟩
  · exact ⟨_, _, rfl, rfl, rfl, by simp [holdsV, inMem, inSp_no, oneM]⟩
  · exact ⟨_, _, rfl, rfl, rfl, by simp [holdsV, inMem, inSp_no, oneM]⟩
  · exact ⟨_, _, rfl, rfl, rfl, by simp [holdsV, inMem, inSp_no, spB]⟩
theorem matchT_snoc (p : List Ch) (t : List UInt8) (b : UInt8) : ∀ i, matchT p i (t ++ [b]) = (matchT p i t && isAt p (i + t.length) b) := by
  induction t with
  | nil => intro i; simp [matchT]
  | cons c t ih =>
    intro i
    rw [List.cons_append, matchT, matchT, ih, Bool.and_assoc, List.length_cons, show i + 1 + t.length = i + (t.length + 1) by omega]
theorem matchT_take {p : List Ch} {i : Nat} {t : List UInt8} {j : Nat} {b : UInt8} (h : t[j]? = some b) : matchT p i (t.take (j + 1)) = (matchT p i (t.take j) && isAt p (i + j) b) := by
  have hj := (List.getElem?_eq_some_iff.1 h).1
  rw [List.take_add_one, h]
  show matchT p i (t.take j ++ [b]) = _
  rw [matchT_snoc, List.length_take, Nat.min_eq_left (by omega)]
theorem inSp_iff (a b c : UInt8) : inSp ⟨a, b⟩ c = decide (a.toNat ≤ c.toNat ∧ c.toNat ≤ b.toNat) := rfl
theorem clsAt_yes {p : List Ch} {i k : Nat} {e : List UInt8 × Mem} (hk : clsTab[k]? = some e) (hm : matchT p i (clsText e.1) = true) (hno : ∀ (j : Nat) (e' : List UInt8 × Mem), j < k → clsTab[j]? = some e' → matchT p i (clsText e'.1) = false) : clsAt p i = some e := by
  obtain ⟨h1, h2⟩ := List.getElem?_eq_some_iff.1 hk
  unfold clsAt
  rw [List.find?_eq_some_iff_getElem]
  refine ⟨hm, k, h1, h2, fun j hj => ?_⟩
  rw [hno j _ hj (List.getElem?_eq_getElem (by omega))]; rfl
theorem clsAt_no {p : List Ch} {i : Nat} (hno : ∀ (j : Nat) (e' : List UInt8 × Mem), j < 6 → clsTab[j]? = some e' → matchT p i (clsText e'.1) = false) : clsAt p i = none := by
  refine find_none fun e he => ?_
  obtain ⟨j, hj⟩ := List.mem_iff_getElem?.1 he
  exact hno j e (List.getElem?_eq_some_iff.1 hj).1 hj
def RefClassR (r : Option (List UInt8 × Mem)) (c : UInt8) (w : World) (e : Ending) (w' : World) : Prop :=
  Below w.heap.size w w' ∧ ((∃ x, r = some x ∧ e = .returned (.tuple #[.int .i64 9, .bool (inMem x.2 c)])) ∨ (r = none ∧ e = .returned (.tuple #[.int .i64 0, .bool false])))
def ClsW (n₀ : Nat) (w : World) (c : UInt8) (W : World) : Prop := Below n₀ w W ∧ Blk W n₀ 9 namesV ∧ Blk W (n₀ + 1) 4 (holdsV c)

set_option maxHeartbeats 2000000 in
set_option maxRecDepth 100000 in
theorem refClass_any (av : Option Addr) (n cv : Nat) (p : List Ch) (i : Nat) (c : UInt8) (w : World) (hL : ∀ W, Below w.heap.size w W → Lies av n p W) (hi : i ≤ 1000000) :
    Calls Try.prog 51 #[.slice av n cv, .int .i64 (i : Int), .int .u8 (c.toNat : Int)] w (RefClassR (clsAt p i) c w) := by
  obtain ⟨n₀, hn₀⟩ : ∃ n₀, w.heap.size = n₀ := ⟨_, rfl⟩
  have hn₀H := Lib.hid hn₀
  have hLH := Lib.hid hL
  obtain ⟨up, hup⟩ : ∃ up, inSp ⟨65, 90⟩ c = up := ⟨_, rfl⟩
  obtain ⟨lw, hlw⟩ : ∃ lw, inSp ⟨97, 122⟩ c = lw := ⟨_, rfl⟩
  obtain ⟨dg, hdg⟩ : ∃ dg, inSp ⟨48, 57⟩ c = dg := ⟨_, rfl⟩
  have hV : Hid (holdsV c = #[.bool (up || lw), .bool dg, .bool ((up || lw) || dg), .bool up, .bool lw, .bool (spB c)]) := Lib.hid (by rw [← hup, ← hlw, ← hdg]; rfl)
  obtain ⟨cn, hcn⟩ : ∃ cn, c.toNat = cn := ⟨_, rfl⟩
  have hcnH := Lib.hid hcn
  have u1 : Hid (up = decide (65 ≤ cn ∧ cn ≤ 90)) := Lib.hid (by rw [← hup, ← hcn]; rfl)
  have u2 : Hid (lw = decide (97 ≤ cn ∧ cn ≤ 122)) := Lib.hid (by rw [← hlw, ← hcn]; rfl)
  have u3 : Hid (dg = decide (48 ≤ cn ∧ cn ≤ 57)) := Lib.hid (by rw [← hdg, ← hcn]; rfl)
  have u4 : Hid (spB c = (decide (9 ≤ cn ∧ cn ≤ 13) || decide (cn = 32))) := Lib.hid (by
    unfold spB; rw [← hcn, inSp_iff, inSp_iff]
    congr 1
    exact decide_eq_decide.2 ⟨fun h => by have h1 : 32 ≤ c.toNat := h.1; have h2 : c.toNat ≤ 32 := h.2; omega, fun h => ⟨by show 32 ≤ c.toNat; omega, by show c.toNat ≤ 32; omega⟩⟩)
  rw [hcn]
  clear hn₀ hL hup hlw hdg hcn
  go_enter Try.func51, Try.ntmps51
  go_upto_region 1 with fail
  go_cut [8] (fun s8 wx => s8 = .bool up ∧ w = wx)
  case first =>
    go_wp2_with fail
    all_goals
      go_meet
      refine ⟨?_, rfl⟩
      rw [u1.out]
      congr 1
      first | (rw [eq_comm, decide_eq_false_iff_not]; omega) | (rw [decide_eq_decide]; omega) | (rw [eq_comm, decide_eq_true_iff]; omega)
  case rest =>
    obtain ⟨rfl, rfl⟩ := hcut
    go_upto_region 2 with fail
    go_cut [9] (fun s9 wx => s9 = .bool lw ∧ w = wx)
    case first =>
      go_wp2_with fail
      all_goals
        go_meet
        refine ⟨?_, rfl⟩
        rw [u2.out]
        congr 1
        first | (rw [eq_comm, decide_eq_false_iff_not]; omega) | (rw [decide_eq_decide]; omega) | (rw [eq_comm, decide_eq_true_iff]; omega)
    case rest =>
      obtain ⟨rfl, rfl⟩ := hcut
      go_upto_region 3 with fail
      go_cut [10] (fun s10 wx => s10 = .bool dg ∧ w = wx)
      case first =>
        go_wp2_with fail
        all_goals
          go_meet
          refine ⟨?_, rfl⟩
          rw [u3.out]
          congr 1
          first | (rw [eq_comm, decide_eq_false_iff_not]; omega) | (rw [decide_eq_decide]; omega) | (rw [eq_comm, decide_eq_true_iff]; omega)
      case rest =>
        obtain ⟨rfl, rfl⟩ := hcut
        go_upto_region 5 with fail
        obtain ⟨wb, hwb⟩ : ∃ wb, w.alloc (.cells namesV 9) = wb := ⟨_, rfl⟩
        have hwbs : wb.heap.size = n₀ + 1 := by rw [← hwb, World.size_alloc, hn₀H.out]
        have hNb : Hid (Blk wb n₀ 9 namesV) := Lib.hid (by rw [← hwb, ← hn₀H.out]; exact Blk.new _ _ _)
        have hBb : Hid (Below n₀ w wb) := Lib.hid (by rw [← hwb, ← hn₀H.out]; exact (Below.refl _ _).alloc (Nat.le_refl _) _)
        have hwbsH := Lib.hid hwbs
        unfold namesV at hwb
        rw [hwb]
        clear hwb hwbs
        go_cut [12] (fun s12 wx => s12 = .slice (some ⟨n₀ + 1, 0, none⟩) 6 6 ∧ wb.alloc (.cells (holdsV c) 4) = wx)
        case first =>
          cases up <;> cases lw <;> cases dg
          all_goals
            go_wp2_with fail
            all_goals
              go_meet
              refine ⟨by rw [hwbsH.out], ?_⟩
              rw [hV.out, u4.out]
              first | (rw [show (decide (9 ≤ cn ∧ cn ≤ 13) || decide (cn = 32)) = true by (rw [Bool.or_eq_true, decide_eq_true_iff]; omega)]; rfl) | (rw [show (decide (9 ≤ cn ∧ cn ≤ 13) || decide (cn = 32)) = (decide ((cn : Int) ≤ 13) || (cn : Int) == 32) by (rw [Bool.eq_iff_iff]; simp; omega)]; rfl) | (rw [show (decide (9 ≤ cn ∧ cn ≤ 13) || decide (cn = 32)) = ((cn : Int) == 32) by (rw [Bool.eq_iff_iff]; simp; omega)]; rfl)
        case rest =>
          obtain ⟨rfl, rfl⟩ := hcut
          have hW0 : Hid (ClsW n₀ w c (wb.alloc (.cells (holdsV c) 4))) := Lib.hid ⟨hBb.out.alloc (by have := hwbsH.out; omega) _, hNb.out.alloc _, by have := Blk.new wb 4 (holdsV c); rwa [hwbsH.out] at this⟩
          obtain ⟨W0, hW0e⟩ : ∃ W0, wb.alloc (.cells (holdsV c) 4) = W0 := ⟨_, rfl⟩
          rw [hW0e] at hW0 ⊢
          clear hW0e hNb hBb hwbsH hV u1 u2 u3 u4
          go_wp2_with fail
          go_loop [13] (fun s13 => ∃ k : Nat, k ≤ 6 ∧ s13 = .int .i64 k ∧ Hid (∀ (j : Nat) (e' : List UInt8 × Mem), j < k → clsTab[j]? = some e' → matchT p i (clsText e'.1) = false)) (fun s13 => 6 - (intOf s13).toNat)
          case atStart => exact ⟨0, Nat.zero_le _, rfl, Lib.hid (fun j e' hj => by omega)⟩
          case round =>
            obtain ⟨k, hk, rfl, hno⟩ := hrel
            by_cases hlt : k < 6
            · have hlt' : (k : Int) < 6 := by omega
              have hk0 : (0 : Int) ≤ (k : Int) := by omega
              obtain ⟨nm, m, h1, h2, h3, h4⟩ := names_at c k hlt
              have c1 : W0.cell? ⟨w.heap.size, k, none⟩ = some (.string nm) := by rw [hn₀H.out]; exact (Blk.cell hW0.out.2.1 k).trans h1
              have c2 : W0.cell? ⟨n₀ + 1, k, none⟩ = some (.bool (inMem m c)) := (Blk.cell hW0.out.2.2 k).trans h4
              obtain ⟨im, him⟩ : ∃ im, inMem m c = im := ⟨_, rfl⟩
              rw [him] at c2
              have himH := Lib.hid him
              obtain ⟨T, hT⟩ : ∃ T : ByteArray, ((⟨#[91, 58]⟩ : ByteArray) ++ nm) ++ ⟨#[58, 93]⟩ = T := ⟨_, rfl⟩
              have hTl : Hid (T.data.toList = clsText nm.data.toList) := Lib.hid (by rw [← hT]; simp [clsText])
              have hTs : T.size = 9 := by
                have e : T.size = T.data.toList.length := rfl
                rw [e, hTl.out]; unfold clsText
                have e2 : nm.data.toList.length = nm.size := rfl
                simp [e2, h3]
              have h2H := Lib.hid h2
              clear h1 h2 h4 him
              go_upto_region 10 with fail
              clear c1 hT
              go_wp2_with fail
              go_loop [15, 16] (fun s15 s16 => ∃ j : Nat, j ≤ 9 ∧ s16 = .int .i64 j ∧ s15 = .bool (matchT p i ((clsText nm.data.toList).take j))) (fun _ s16 => 9 - (intOf s16).toNat)
              case atStart => exact ⟨0, Nat.zero_le _, rfl, rfl⟩
              case round =>
                obtain ⟨j, hj, rfl, rfl⟩ := hrel
                by_cases hj9 : j < 9
                · have hj9' : (j : Int) < 9 := by omega
                  have hj0 : (0 : Int) ≤ (j : Int) := by omega
                  have hjT : j < T.size := by omega
                  have hjT' : (j : Int) < (T.size : Int) := by omega
                  obtain ⟨b, hb⟩ : ∃ b, T[j] = b := ⟨_, rfl⟩
                  have htk := Lib.hid (matchT_take (p := p) (i := i) (t := clsText nm.data.toList) (j := j) (b := b) (by rw [← hTl.out, ← hb]; exact List.getElem?_eq_getElem hjT))
                  obtain ⟨ok, hok⟩ : ∃ ok, matchT p i ((clsText nm.data.toList).take j) = ok := ⟨_, rfl⟩
                  rw [hok]
                  have hokH := Lib.hid hok
                  clear hok
                  cases ok
                  · go_wp2_with fail
                    go_round
                    case rel => exact ⟨j + 1, by omega, by go_num, by rw [htk.out, hokH.out]; rfl⟩
                    case measure => simp [intOf]; omega
                  · have his := Lib.hid (is_at cv (i + j) b (hLH.out W0 (by rw [hn₀H.out]; exact hW0.out.1)) (by omega))
                    have e1 : Hid (((i : Int) + (j : Int)) = ((i + j : Nat) : Int)) := Lib.hid (by omega)
                    rw [← e1.out] at his
                    go_wp2_with ((go_at_call 34; (with_reducible refine his.out.mono ?_); rintro e w1 ⟨rfl, rfl⟩))
                    go_round
                    case rel => exact ⟨j + 1, by omega, by go_num, by rw [htk.out, hokH.out]; rfl⟩
                    case measure => simp [intOf]; omega
                · have hj9' : ¬ (j : Int) < 9 := by omega
                  have hall : Hid (matchT p i ((clsText nm.data.toList).take j) = matchT p i (clsText nm.data.toList)) := Lib.hid (by
                    rw [List.take_of_length_le]
                    rw [← hTl.out]; show T.size ≤ j; omega)
                  rw [hall.out]
                  obtain ⟨ok, hok⟩ : ∃ ok, matchT p i (clsText nm.data.toList) = ok := ⟨_, rfl⟩
                  rw [hok]
                  have hokH := Lib.hid hok
                  clear hok
                  cases ok
                  · go_wp2_with fail
                    go_round
                    case rel => exact ⟨k + 1, by omega, by go_num, Lib.hid (fun j' e' hj' he' => by
                      by_cases h : j' = k
                      · subst h
                        rw [h2H.out] at he'
                        obtain rfl := Option.some.inj he'
                        exact hokH.out
                      · exact hno.out j' e' (by omega) he')⟩
                    case measure => simp [intOf]; omega
                  · have hc : Hid (clsAt p i = some (nm.data.toList, m)) := Lib.hid (clsAt_yes h2H.out hokH.out hno.out)
                    go_upto_region 16 with fail
                    go_quiet (fail)
                    go_wp2_with fail
                    go_ret2
                    exact ⟨by rw [hn₀H.out]; exact below_drewN hW0.out.1 _, .inl ⟨_, hc.out, by rw [himH.out]; rfl⟩⟩
            · have hlt' : ¬ (k : Int) < 6 := by omega
              have hc : Hid (clsAt p i = none) := Lib.hid (clsAt_no (fun j e' hj => hno.out j e' (by omega)))
              go_wp2_with fail
              go_ret2
              exact ⟨by rw [hn₀H.out]; exact hW0.out.1, .inr ⟨hc.out, rfl⟩⟩
end Go.Proofs.Ytlaidmjlgjpgcaa
