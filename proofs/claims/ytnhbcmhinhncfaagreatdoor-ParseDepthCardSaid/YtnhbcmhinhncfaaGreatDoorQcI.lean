/- ParseDepth's walk. Conditions: the library's variables lie as they came. -/
import Derived.Test.YtnhbcmhinhncfaaGreatDoorQcF
import Derived.Test.YtnhbcmhinhncfaaGreatDoorQcG
import Derived.Test.YtnhbcmhinhncfaaGreatDoorQcH
import Derived.Test.YtnhbcmhinhncfaaGreatDoorRows
import Derived.HandedShaped
import Derived.Shelf.Vars
import Derived.Stop.LaidErr
import Derived.Lib.LaidTab
import Derived.LaidMore
import Derived.Lay
import Derived.ProofKit
import Derived.OpenShut
import Derived.ShutString
import Derived.ChangeOld
import Derived.Stop.Joined
namespace Go.Proofs.YtnhbcmhinhncfaaGreatDoor
open Go.RowKit Go.Shelf Go.PlainAid
set_option linter.unusedVariables false
set_option linter.unusedSimpArgs false
attribute [local go_sem] Oper.semAt_some
def deepOf (k n : Nat) : Nat := if k = 4 then 2 * n else n
theorem all_at {P : Nat → Bool} {N n : Nat} (h : (List.range N).all P = true) (hn : n < N) : P n = true := List.all_eq_true.1 h n (List.mem_range.2 hn)
set_option maxRecDepth 100000 in
theorem dep_is {k n : Nat} (hk : k < 5) (hn : n ≤ 60) : (if 24 < deepOf k n then (firstP (nestB k n) 0).err == 52 && !(firstP (nestB k n) 0).there else (firstP (nestB k n) 0).err == 0 && (firstP (nestB k n) 0).there) = true := by
  have h1 := all_at (P := fun k => (List.range 61).all (fun n => okP (nestP k n))) okP_all hk
  have h2 := all_at (P := fun n => okP (nestP k n)) h1 (show n < 61 by omega)
  have hsz : (bytesP (nestP k n)).length ≤ 65536 := by
    have h3 : (nestB k n).size = (bytesP (nestP k n)).length := by show (bytesP (nestP k n)).toArray.size = _; simp
    have h4 := nestB_len k n
    have h5 := pcAB_len k
    have h6 : n * ((bytesP (pcA k)).length + (bytesP (pcB k)).length) ≤ 60 * 18 := Nat.mul_le_mul hn h5
    omega
  have h7 := first_pcs h2 hsz
  have h8 : okQ (nestB k n) k n = true := by
    have hn' : n < 61 := by omega
    have hk' : k = 0 ∨ k = 1 ∨ k = 2 ∨ k = 3 ∨ k = 4 := by omega
    rcases hk' with e | e | e | e | e
    · rw [e]; exact all_at (P := fun j => okQ (nestB 0 n) 0 j) (okQ_0 (nestB 0 n)) hn'
    · rw [e]; exact all_at (P := fun j => okQ (nestB 1 n) 1 j) (okQ_1 (nestB 1 n)) hn'
    · rw [e]; exact all_at (P := fun j => okQ (nestB 2 n) 2 j) (okQ_2 (nestB 2 n)) hn'
    · rw [e]; exact all_at (P := fun j => okQ (nestB 3 n) 3 j) (okQ_3 (nestB 3 n)) hn'
    · rw [e]; exact all_at (P := fun j => okQ (nestB 4 n) 4 j) (okQ_4 (nestB 4 n)) hn'
  unfold okQ at h8
  dsimp only at h8
  show (if 24 < deepOf k n then (firstP ⟨(bytesP (nestP k n)).toArray⟩ 0).err == 52 && !(firstP ⟨(bytesP (nestP k n)).toArray⟩ 0).there else _) = true
  rw [show nestB k n = ⟨(bytesP (nestP k n)).toArray⟩ from rfl]
  rw [h7]
  exact h8
abbrev bA (k : Nat) : ByteArray := ⟨(bytesP (pcA k)).toArray⟩
abbrev bB (k : Nat) : ByteArray := ⟨(bytesP (pcB k)).toArray⟩
set_option maxRecDepth 100000 in
set_option maxHeartbeats 8000000 in
theorem depth_any (w : World) (hg : Gl w) (n kind : Int) : Calls Tryz.prog 5 #[.int .i64 n, .int .i64 kind] w fun e w' => e = .returned (.bool true) ∧ Below w.heap.size w w' := by
  have ha := Lib.hid (awake_any w hg)
  have hgH := Lib.hid hg
  clear hg
  by_cases hn : n < 0 ∨ 60 < n
  · have h0 : n < 0 ∨ (¬ n < 0 ∧ 60 < n) := by omega
    rcases h0 with h0 | ⟨h0, h1⟩
    · have hn1 : decide (n < 0) = true := decide_eq_true h0
      go_enter Tryz.func5, Tryz.ntmps5
      go_wp2_with (go_at_call 6; refine ha.out.mono ?_; rintro e w2 ⟨rfl, hB2⟩; have hB2H := Lib.hid hB2; clear hB2)
      go_ret
      exact ⟨rfl, hB2H.out⟩
    · have hn1 : decide (n < 0) = false := decide_eq_false h0
      have hn2 : decide (60 < n) = true := decide_eq_true h1
      go_enter Tryz.func5, Tryz.ntmps5
      go_wp2_with (go_at_call 6; refine ha.out.mono ?_; rintro e w2 ⟨rfl, hB2⟩; have hB2H := Lib.hid hB2; clear hB2)
      go_ret
      exact ⟨rfl, hB2H.out⟩
  · obtain ⟨m, rfl⟩ : ∃ m : Nat, n = m := ⟨n.toNat, by omega⟩
    have hm : m ≤ 60 := by omega
    have hn1 : decide ((m : Int) < 0) = false := decide_eq_false (by omega)
    have hn2 : decide ((m : Int) > 60) = false := decide_eq_false (by omega)
    clear hn
    obtain ⟨r, hr⟩ : ∃ r, Int.tmod kind 5 = r := ⟨_, rfl⟩
    have hr1 : -5 < r ∧ r < 5 := by rw [← hr]; exact ⟨by have := Int.lt_tmod_of_pos kind (b := 5) (by decide); omega, Int.tmod_lt_of_pos kind (by decide)⟩
    obtain ⟨k, hk5, hkr⟩ : ∃ k : Nat, k < 5 ∧ Int.tmod (r + 5) 5 = k := ⟨(Int.tmod (r + 5) 5).toNat, by have := Int.tmod_lt_of_pos (r + 5) (b := 5) (by decide); have := Int.tmod_nonneg 5 (a := r + 5) (by omega); omega, by have := Int.tmod_nonneg 5 (a := r + 5) (by omega); omega⟩
    go_enter Tryz.func5, Tryz.ntmps5
    go_upto_region 6 with (go_at_call 6; refine ha.out.mono ?_; rintro e w2 ⟨rfl, hB2⟩; have hB2H := Lib.hid hB2; clear hB2)
    obtain ⟨q5, hq5⟩ : ∃ q, w2.heap.size = q := ⟨_, rfl⟩
    obtain ⟨W3, hW3⟩ : ∃ W, w2.alloc (.cells #[.string ⟨#[40]⟩, .string ⟨#[41]⟩, .string ⟨#[123, 32]⟩, .string ⟨#[59, 32, 125]⟩, .string ⟨#[105, 102, 32]⟩, .string ⟨#[59, 32, 116, 104, 101, 110, 32, 97, 59, 32, 102, 105]⟩, .string ⟨#[119, 104, 105, 108, 101, 32, 97, 59, 32, 100, 111, 32]⟩, .string ⟨#[59, 32, 100, 111, 110, 101]⟩, .string ⟨#[102, 40, 41, 32, 123, 32]⟩, .string ⟨#[59, 32, 125]⟩] 38) = W := ⟨_, rfl⟩
    have hb3 : Below w2.heap.size w2 W3 := by rw [← hW3]; exact (Below.refl _ _).alloc (Nat.le_refl _) _
    have hB3 := Lib.hid (hB2H.out.trans (hb3.mono hB2H.out.size))
    have hE3 := Lib.hid (show Blk W3 q5 38 #[.string ⟨#[40]⟩, .string ⟨#[41]⟩, .string ⟨#[123, 32]⟩, .string ⟨#[59, 32, 125]⟩, .string ⟨#[105, 102, 32]⟩, .string ⟨#[59, 32, 116, 104, 101, 110, 32, 97, 59, 32, 102, 105]⟩, .string ⟨#[119, 104, 105, 108, 101, 32, 97, 59, 32, 100, 111, 32]⟩, .string ⟨#[59, 32, 100, 111, 110, 101]⟩, .string ⟨#[102, 40, 41, 32, 123, 32]⟩, .string ⟨#[59, 32, 125]⟩] by rw [← hW3, ← hq5]; exact Blk.new _ _ _)
    rw [hW3, hq5]
    obtain ⟨q6, hq6⟩ : ∃ q, W3.heap.size = q := ⟨_, rfl⟩
    clear hW3 hb3 hq5
    go_cut [6] (fun s6 wx => s6 = .pointer (some ⟨q6, 0, none⟩) ∧ Hid (Blk wx q6 38 #[.string (bA k), .string (bB k)] ∧ Below w.heap.size w wx))
    case first =>
      have hfin : ∀ (x y : ByteArray), x = bA k → y = bB k → Blk (W3.alloc (.cells #[.string x, .string y] 38)) q6 38 #[.string (bA k), .string (bB k)] ∧ Below w.heap.size w (W3.alloc (.cells #[.string x, .string y] 38)) := fun x y h1 h2 => by
        subst h1 h2
        rw [← hq6]
        exact ⟨Blk.new _ _ _, hB3.out.trans (((Below.refl _ _).alloc (Nat.le_refl _) _).mono hB3.out.size)⟩
      have c0 := hE3.out.cell 0
      have c1 := hE3.out.cell 1
      have c2 := hE3.out.cell 2
      have c3 := hE3.out.cell 3
      have c4 := hE3.out.cell 4
      have c5 := hE3.out.cell 5
      have c6 := hE3.out.cell 6
      have c7 := hE3.out.cell 7
      have c8 := hE3.out.cell 8
      have c9 := hE3.out.cell 9
      have hcase : r = -4 ∨ r = -3 ∨ r = -2 ∨ r = -1 ∨ r = 0 ∨ r = 1 ∨ r = 2 ∨ r = 3 ∨ r = 4 := by omega
      rcases hcase with e | e | e | e | e | e | e | e | e
      all_goals
        subst e
        have hk9 := Int.ofNat.inj hkr.symm
        subst hk9
        go_wp2_with fail
        go_meet
        case rel => exact ⟨rfl, Lib.hid (hfin _ _ rfl rfl)⟩
    case rest =>
      obtain ⟨rfl, hcut⟩ := hcut
      have hE6 := Lib.hid hcut.out.1
      have hB6 := Lib.hid hcut.out.2
      have c0 : wc.cell? ⟨q6, 0, none⟩ = some (.string (bA k)) := hE6.out.cell 0
      have c1 : wc.cell? ⟨q6, 1, none⟩ = some (.string (bB k)) := hE6.out.cell 1
      have hkrH := Lib.hid hkr
      have hsa : (bA k).size ≤ 18 := by
        have h3 : (bA k).size = (bytesP (pcA k)).length := by show (bytesP (pcA k)).toArray.size = _; simp
        have := pcAB_len k; omega
      have hsb : (bB k).size ≤ 18 := by
        have h3 : (bB k).size = (bytesP (pcB k)).length := by show (bytesP (pcB k)).toArray.size = _; simp
        have := pcAB_len k; omega
      have hsn := Lib.hid (fun i (hi : i ≤ 60) => (show (nestB k i).size ≤ 1100 from by
        have h4 := nestB_len k i
        have h5 := pcAB_len k
        have h6 : i * ((bytesP (pcA k)).length + (bytesP (pcB k)).length) ≤ 60 * 18 := Nat.mul_le_mul hi h5
        omega))
      have hsucc := Lib.hid (nestB_succ k)
      have hA4 := Lib.hid (show ((bA k).toList == [102, 40, 41, 32, 123, 32]) = decide (k = 4) from by
        have hk' : k = 0 ∨ k = 1 ∨ k = 2 ∨ k = 3 ∨ k = 4 := by omega
        rcases hk' with e | e | e | e | e <;> subst e <;> rw [Lib.toList_data] <;> rfl)
      obtain ⟨A, hA⟩ : ∃ x, bA k = x := ⟨_, rfl⟩
      obtain ⟨Bt, hBt⟩ : ∃ x, bB k = x := ⟨_, rfl⟩
      obtain ⟨N, hN⟩ : ∃ N : Nat → ByteArray, nestB k = N := ⟨_, rfl⟩
      rw [hA] at c0 hsa hA4
      rw [hBt] at c1 hsb
      have hsucc2 := Lib.hid (show ∀ i, N (i + 1) = A ++ N i ++ Bt from fun i => by rw [← hN, ← hA, ← hBt]; exact hsucc.out i)
      rw [hN] at hsn
      have hN0 := Lib.hid (show N 0 = ⟨#[97]⟩ from by rw [← hN]; rfl)
      have hNH := Lib.hid hN
      clear hcut hr hr1 hkr hB3 hE3 ha hB2H hq6 hsucc hA hBt hN
      go_wp2_with fail
      go_loopg [7, 36] m (fun g s7 s36 wr => ∃ i : Nat, s36 = .int .i64 (i : Int) ∧ s7 = .string (N i) ∧ g + i = m ∧ wr = wc)
      case atStart => exact ⟨0, rfl, by rw [hN0.out], by omega, rfl⟩
      case round =>
        obtain ⟨i, rfl, rfl, hgi, rfl⟩ := hrel
        by_cases hi : i < m
        · have hd : decide ((i : Int) < (m : Int)) = true := decide_eq_true (by omega)
          have hz1 := hsn.out i (by omega)
          have hz2 : (A ++ N i).size ≤ 2000 := by rw [ByteArray.size_append]; omega
          go_wp2_with fail
          go_roundg (m - (i + 1))
          case measure => omega
          case rel => exact ⟨i + 1, rfl, by rw [hsucc2.out], by omega, rfl⟩
        · have hd : decide ((i : Int) < (m : Int)) = false := decide_eq_false (by omega)
          obtain rfl : m = i := by omega
          have hglw : Gl wr := hgH.out.keep hB6.out.size (fun g h1 => hB6.out.block g (by have := hgH.out.sz; omega))
          have hz1 := hsn.out m hm
          have hfs := First_any (w := wr) (N m) 0 (by omega) (Nat.zero_le _) hglw
          have hdep := dep_is hk5 hm
          rw [hNH.out] at hdep
          obtain ⟨C, hC⟩ : ∃ C, firstP (N m) 0 = C := ⟨_, rfl⟩
          rw [hC] at hfs hdep
          have hfsH := Lib.hid hfs
          have hdepH := Lib.hid hdep
          have hA4' := hA4.out
          clear hfs hdep hC hglw hsucc2 hN0 hNH hsn hgH
          go_upto_if 49 with fail
          go_cut [8] (fun s8 wx => s8 = .int .i64 (deepOf k m : Nat) ∧ wr = wx)
          case first =>
            cases h4 : decide (k = 4)
            · rw [h4] at hA4'
              have hdd : deepOf k m = m := if_neg (of_decide_eq_false h4)
              go_wp2_with fail
              go_meet
              case rel => exact ⟨by rw [hdd], rfl⟩
            · rw [h4] at hA4'
              have hdd : deepOf k m = 2 * m := if_pos (of_decide_eq_true h4)
              go_wp2_with fail
              go_meet
              case rel => exact ⟨by rw [hdd]; push_cast; rfl, rfl⟩
          case rest =>
            obtain ⟨rfl, rfl⟩ := hcut
            obtain ⟨dp, hdp⟩ : ∃ x, deepOf k m = x := ⟨_, rfl⟩
            rw [hdp] at hdepH ⊢
            clear hA4' hA4 hdp
            have hdd := hdepH.out
            cases h24 : decide (24 < dp)
            · have h25 : ¬ 24 < dp := of_decide_eq_false h24
              have h26 : decide ((dp : Int) > 24) = false := decide_eq_false (by omega)
              rw [if_neg h25, Bool.and_eq_true] at hdd
              obtain ⟨d1, d2⟩ := hdd
              clear h24
              go_wp2_with (go_at_call 8; refine hfsH.out.mono ?_; rintro e w4 ⟨ka, xa, ya, nma, awa, nwa, cwa, ara, nra, cra, aka, nka, cka, T, rfl, hN4, hT4, hB4⟩; have hB4H := Lib.hid hB4; clear hN4 hT4 hB4)
              go_ret
              exact ⟨by first | rfl | simp [d1, d2], (hB6.out.trans (hB4H.out.mono hB6.out.size)).trans (((Below.refl _ _).alloc (Nat.le_refl _) _).mono (hB6.out.trans (hB4H.out.mono hB6.out.size)).size)⟩
            · have h25 : 24 < dp := of_decide_eq_true h24
              have h26 : decide ((dp : Int) > 24) = true := decide_eq_true (by omega)
              rw [if_pos h25, Bool.and_eq_true] at hdd
              obtain ⟨d1, d2⟩ := hdd
              clear h24
              go_wp2_with (go_at_call 8; refine hfsH.out.mono ?_; rintro e w4 ⟨ka, xa, ya, nma, awa, nwa, cwa, ara, nra, cra, aka, nka, cka, T, rfl, hN4, hT4, hB4⟩; have hB4H := Lib.hid hB4; clear hN4 hT4 hB4)
              go_ret
              exact ⟨by first | rfl | simp [d1, d2], (hB6.out.trans (hB4H.out.mono hB6.out.size)).trans (((Below.refl _ _).alloc (Nat.le_refl _) _).mono (hB6.out.trans (hB4H.out.mono hB6.out.size)).size)⟩
end Go.Proofs.YtnhbcmhinhncfaaGreatDoor
/- From a row's listed variables and its world's shape to what the contracts ask of the world. No condition. -/
namespace Go.Proofs.YtnhbcmhinhncfaaGreatDoor
open Go.ChangeShapes Go.WideShapes Go.ChangeAt Go.RowKit

theorem gES : Tryz.prog.globalNamed "strconv.ErrSyntax" = some 3 := by kernel_rfl
theorem gER : Tryz.prog.globalNamed "strconv.ErrRange" = some 4 := by kernel_rfl
theorem gTab : Tryz.prog.globalNamed "internal/strconv.uint64pow10" = some 5 := by kernel_rfl
theorem tES : (Tryz.prog.globals[3]?).map (·.type) = some 83 := by kernel_rfl
theorem tER : (Tryz.prog.globals[4]?).map (·.type) = some 83 := by kernel_rfl
theorem tTab : (Tryz.prog.globals[5]?).map (·.type) = some 178 := by kernel_rfl
theorem cellsEs : Tryz.prog.cellsOf 170 = 1 := by kernel_rfl
theorem cellsS : Tryz.prog.cellsOf 9 = 1 := by kernel_rfl
theorem star : "*" ++ "errors.errorString" = "*errors.errorString" := by decide
theorem rowEs (u : TypeId) (h : Tryz.prog.typeName? 3 u = some "*errors.errorString") : u = 168 :=
  typeName_ptr_named (nm := "errors.errorString") (by rw [star]; kernel_rfl) (by kernel_rfl) (by decide) u (by rw [star]; exact h)
theorem own : ownKnob Tryz.prog.godebug = none := by kernel_rfl
theorem laidOut : laidOutB Tryz.prog = true := by kernel_rfl
/-- The seven variables that each row lists. -/
def lst : List (String × DataW Unit) := Rows.parseDepthRow.laid
theorem size16 {W : World} (hs : W.ShapedOpen Tryz.prog) : 8 ≤ W.heap.size := by
  obtain ⟨o, _, h, _⟩ := hs.2 12 (of_decide_eq_true (by kernel_rfl)) (of_decide_eq_true (by kernel_rfl))
  rcases Nat.lt_or_ge 12 W.heap.size with h1 | h1
  · omega
  · rw [Array.getElem?_eq_none h1] at h
    cases h
theorem gl_of {W : World} (hs : W.ShapedOpen Tryz.prog) (h : laidMetH Tryz.prog lst W) : Gl W := by
  rw [MakeChecks.laidMetH_plain _ _ _ (by kernel_rfl)] at h
  unfold lst Rows.parseDepthRow at h
  have h2 := h.tail.tail
  have h4 := h2.tail.tail
  have h5 := h4.tail
  obtain ⟨a4, s4, hv4, -, -, -⟩ := laid_sentinel h4 gER tER Tryz.underlying83 rowEs Tryz.underlying168 Tryz.underlying170 rfl rfl Tryz.underlying9 cellsEs cellsS
  obtain ⟨a5, s5, hv5, -, -, -⟩ := laid_sentinel h5 gES tES Tryz.underlying83 rowEs Tryz.underlying168 Tryz.underlying170 rfl rfl Tryz.underlying9 cellsEs cellsS
  have e1 : W.cell? ⟨3, 0, none⟩ = some (.iface 168 (.pointer (some a5))) := by have h0 := World.var?_cell gES hv5 0; simpa using h0
  have e2 : W.cell? ⟨4, 0, none⟩ = some (.iface 168 (.pointer (some a4))) := by have h0 := World.var?_cell gER hv4 0; simpa using h0
  exact ⟨⟨_, _, e1⟩, ⟨_, _, e2⟩,
    cell_of_shapedOpen_int hs (of_decide_eq_true (by kernel_rfl)) (t := 3) (zero := #[.int .i64 0]) (by kernel_rfl) rfl (by kernel_rfl) (by kernel_rfl) Tryz.underlying3,
    Lib.tabIs_of_head gTab tTab Tryz.underlying178 Tryz.underlying157 (by kernel_rfl) (by kernel_rfl) h2, size16 hs⟩

section
variable {H : Type} {enc : TypeId × Value → H}
/-- The wrap that keeps the world's shape beside what is listed. -/
theorem handed_of {a : Assume} {C : Checked} {os : Os} {f : FuncId} {fn : Func} {s : ChangeSpec} {conds : List PathCond} {apart fresh handsOn again : Bool} {X : World → Array Value → Prop}
    (hX : ∀ (w w' : World) (args : Array Value), w.heap = w'.heap → X w args → X w' args)
    (own : ownKnob C.prog.godebug = none) (started : os.Started) (noInit : C.prog.inits.idxOf? f = none) (hfn : C.prog.funcs[f]? = some fn)
    (witness : ∃ (w : World) (tape : Tape) (i : Input), w.os = os ∧ (w.forCall tape i).Shaped C.prog ∧ i.vars = [] ∧ Input.okWide C.prog (w.forCall tape i) .any w.heap.size f i ∧
      ((s.pre enc C.prog fn conds apart (w.forCall tape i).memory i.args ∧ X (w.forCall tape i).memory i.args) ∧ sizedMet enc C.prog fn (OpenSpec.ofChange s) apart (w.forCall tape i).memory i.args) ∧ a.holds C.prog (lone (Frame.enter C.prog f i.args .normal) [] (w.forCall tape i)))
    (contract : ∀ (W : World) (base : Nat) (args : Array Value) (ds gs : List (DataW H)) (before : List MemPlace),
      (∀ (j : Nat) t v, fn.params[j]? = some t → args[j]? = some v → Value.okWide C.prog W .any base t v) →
      DataW.Whole enc C.prog fn.params.toList s.vars apart W args.toList ds gs before →
      (DataW.weightsEach C.prog (fn.params.toList ++ s.plain.varTypes C.prog) (ds ++ gs)).all (· ≤ reachBytes) = true → X W args → W.ShapedOpen C.prog →
      Calls C.prog f args W fun e W' => ∃ v, e = .returned v ∧ s.post enc C.prog fn apart fresh handsOn again W args v W') :
    ReturnsInHanded a C os f .any (fun w args => (s.pre enc C.prog fn conds apart w args ∧ X w args) ∧ sizedMet enc C.prog fn (OpenSpec.ofChange s) apart w args) (s.post enc C.prog fn apart fresh handsOn again) := by
  refine returnsInHanded_of_calls own started noInit witness ?_
  intro w tape i _ hsh _ hok hpre _
  obtain ⟨_, _, _, fn', hfn', _, _, _, _, hval⟩ := hok
  have e : fn' = fn := Option.some.inj (hfn'.symm.trans hfn)
  subst e
  obtain ⟨⟨⟨ds, gs, before, hw, hc⟩, hx⟩, hz⟩ := hpre
  have hw' := DataW.Whole.of_heap (w' := w.forCall tape i) (by rfl) hw
  refine (contract (w.forCall tape i) w.heap.size i.args ds gs before hval hw' (hz.weights hw) (hX _ _ _ (by rfl) hx) hsh).mono fun e W' ⟨v, he, hp⟩ => ?_
  subst he
  exact ChangeSpec.post_blind hp
end

end Go.Proofs.YtnhbcmhinhncfaaGreatDoor
