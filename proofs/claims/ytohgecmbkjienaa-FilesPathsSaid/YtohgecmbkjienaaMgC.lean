/- Path. Condition: the tree lies as stated, and what holds along all calls holds. -/
import Derived.Test.YtohgecmbkjienaaMgB
import Derived.Test.YtohgecmbkjienaaFlAX
import Derived.RangeFuncFrom
import Derived.RangeFuncBox
import Derived.Shelf.Abstract
import Derived.Shelf.RegionOpen
import Derived.OwnWalk
import Derived.OwnWalkIn
import Derived.TacticsInMore
import Derived.LoopNIn
import Derived.LoopIn
import Derived.Sort.CutIn
import Derived.Sort.QuietIn
import Derived.StillTailTactics
import Derived.Test.YtohgecmbkjienaaFlAK
import Derived.Maps.OwnIn
namespace Go.Proofs.Ytohgecmbkjienaa
open Go.RowKit Go.Shelf Go.PlainAid
set_option linter.unusedVariables false
set_option linter.unusedSimpArgs false
attribute [local go_sem] Oper.semAt_some
theorem nodup_len : ∀ (N : Nat) (l : List Nat), l.Nodup → (∀ m ∈ l, m < N) → l.length ≤ N
  | 0, l, _, h => by
    cases l with
    | nil => exact Nat.le_refl _
    | cons a l => exact absurd (h a (List.mem_cons_self ..)) (Nat.not_lt_zero _)
  | N + 1, l, hn, h => by
    have h1 := nodup_len N (l.erase N) (hn.erase N) (fun m hm => by
      have h2 := (hn.mem_erase_iff).1 hm
      have h3 := h m h2.2
      have h4 := h2.1
      omega)
    have h2 := @List.length_erase _ _ _ N l
    split at h2 <;> omega
/-- The way up: numbers, each once. -/
theorem deep_chain {f : Fs} {d n : Nat} (h : Deep f d n) : ∃ l : List Nat, l.length = d ∧ l.Nodup ∧ ∀ m ∈ l, m ≤ f.length ∧ ∃ d', d' ≤ d ∧ 1 ≤ d' ∧ Deep f d' m := by
  induction h with
  | root => exact ⟨[], rfl, List.Pairwise.nil, fun m hm => (nomatch hm)⟩
  | up d n I h1 hn hd ih =>
    obtain ⟨l, h2, h3, h4⟩ := ih
    have hD : Deep f (d + 1) n := .up d n I h1 hn hd
    refine ⟨n :: l, by rw [List.length_cons, h2], List.nodup_cons.2 ⟨fun hm => ?_, h3⟩, fun m hm => ?_⟩
    · obtain ⟨_, d', h5, _, h6⟩ := h4 n hm
      have := h6.uniq hD
      omega
    · rcases List.mem_cons.1 hm with rfl | hm
      · obtain ⟨i, h5, h6, _⟩ := node_some hn
        exact ⟨by omega, d + 1, Nat.le_refl _, by omega, hD⟩
      · obtain ⟨h5, d', h6, h7, h8⟩ := h4 m hm
        exact ⟨h5, d', by omega, h7, h8⟩
theorem deep_le {f : Fs} {d n : Nat} (h : Deep f d n) : d ≤ f.length + 1 := by
  obtain ⟨l, h1, h2, h3⟩ := deep_chain h
  rw [← h1]
  exact nodup_len _ l h2 (fun m hm => by have := (h3 m hm).1; omega)
theorem nameM_mem : ∀ (l : Ents) (n : Nat), (nameM l n = ⟨#[]⟩ ∧ ∀ e ∈ l, e.2 ≠ n) ∨ (nameM l n, n) ∈ l
  | [], n => .inl ⟨rfl, fun e he => (nomatch he)⟩
  | e :: l, n => by
    unfold nameM
    by_cases h : e.2 = n
    · rw [if_pos h, ← h]
      exact .inr (List.mem_cons_self ..)
    · rw [if_neg h]
      rcases nameM_mem l n with ⟨h1, h2⟩ | h1
      · refine .inl ⟨h1, fun u hu => ?_⟩
        rcases List.mem_cons.1 hu with rfl | hu
        · exact h
        · exact h2 u hu
      · exact .inr (List.mem_cons_of_mem _ h1)
def entsAt (f : Fs) (n : Nat) : Ents := match node f (n : Int) with
  | none => []
  | some I => I.ents
def slT : ByteArray := ⟨#[47]⟩
/-- The names up to the root. -/
def upM (f : Fs) : Nat → Nat → ByteArray
  | 0, _ => ⟨#[]⟩
  | d + 1, n => match node f (n : Int) with
    | none => ⟨#[]⟩
    | some I => upM f d I.parent ++ (slT ++ nameM (entsAt f I.parent) n)
noncomputable def PathM (f : Fs) (n : Int) : ByteArray × Nat := match node f n with
  | none => (⟨#[]⟩, 9)
  | some I => if I.isDir = true then (if n = 1 then (slT, 0) else if I.links = 0 then (⟨#[]⟩, 2) else (upM f (dep f n.toNat) n.toNat, 0)) else (⟨#[]⟩, 20)
theorem up_some {f : Fs} {d n : Nat} {I : Ino} (hn : node f (n : Int) = some I) : upM f (d + 1) n = upM f d I.parent ++ (slT ++ nameM (entsAt f I.parent) n) := by
  rw [upM, hn]
theorem name_size {c : Nat} {f : Fs} (hw : WF c f) (m n : Nat) : (nameM (entsAt f m) n).size ≤ 32 := by
  unfold entsAt
  cases hn : node f (m : Int) with
  | none => exact of_decide_eq_true rfl
  | some P =>
    obtain ⟨i, rfl, hi⟩ := nat_node hn
    rcases nameM_mem P.ents n with ⟨h, _⟩ | h
    · dsimp only
      rw [h]
      exact Nat.zero_le _
    · exact ((hw.ino i P hi).name _ h).2.1
section
variable {w : World} {B : Nat → Nat → Prop} {p : Nat} {c : Nat} {f : Fs} {sv : Value} {ps : List (Option Nat)}
set_option maxHeartbeats 4000000 in
set_option maxRecDepth 100000 in
theorem path_any (h : FsAt w B p f sv ps) (hw : WF c f) (hc : c ≤ 5000) (k : Int) : Calls Try.prog 23 #[.pointer (some ⟨p, 0, none⟩), .int .i64 k] w fun e w' => e = .returned (.tuple #[.string (PathM f k).1, .int .i64 (PathM f k).2]) ∧ Below w.heap.size w w' := by
  have hf := hw.fine hc
  have hlen : f.length ≤ 100000 := by have := hf.1; omega
  cases hn : node f k with
  | none =>
    have hM : PathM f k = (⟨#[]⟩, 9) := by unfold PathM; rw [hn]
    have hc := Lib.hid (node_no h hn hlen)
    rw [hM]
    clear h hf hn hM hw
    go_enter Try.func23, Try.ntmps23
    go_wp2_with (go_at_call 38; refine hc.out.mono ?_; rintro e w' ⟨rfl, rfl⟩)
    go_ret2
    exact ⟨rfl, Below.refl _ _⟩
  | some I =>
    obtain ⟨i, q, rfl, hil, hi, hq, dv, ev, hA⟩ := node_where h hn
    have hnd := Lib.hid (node_yes h hq hlen)
    have hdi := Lib.hid (isDir_any hA)
    have hM : PathM f ((i : Int) + 1) = if I.isDir = true then (if ((i : Int) + 1) = 1 then (slT, 0) else if I.links = 0 then (⟨#[]⟩, 2) else (upM f (dep f (i + 1)) (i + 1), 0)) else (⟨#[]⟩, 20) := by
      unfold PathM
      rw [hn, show ((i : Int) + 1).toNat = i + 1 by omega]
    rw [hM]
    cases hd : I.isDir with
    | false =>
      rw [hd] at hdi
      rw [if_neg (by decide)]
      clear h hf hn hM hi hq hA hd hw
      go_enter Try.func23, Try.ntmps23
      go_wp2_with (first | (go_at_call 38; refine hnd.out.mono ?_; rintro e w' ⟨rfl, rfl⟩) | (go_at_call 49; refine hdi.out.mono ?_; rintro e w' ⟨rfl, rfl⟩))
      go_ret2
      exact ⟨rfl, Below.refl _ _⟩
    | true =>
      rw [hd] at hdi
      rw [if_pos rfl]
      by_cases hl0 : I.links = 0
      · have hi0 : i ≠ 0 := fun e => by
          subst e
          obtain ⟨R, hR, _, r2, _⟩ := hw.root
          rw [hR] at hi
          cases hi
          omega
        rw [if_neg (by omega), if_pos hl0]
        have c2 : w.cell? ⟨q, 2, none⟩ = some (.int .i64 I.links) := hA.blk.cell 2
        rw [hl0] at c2
        have x1 : (((i : Int) + 1) != 1) = true := bne_iff_ne.2 (by omega)
        clear h hf hn hM hi hq hA hd hl0 hw
        go_enter Try.func23, Try.ntmps23
        go_wp2_with (first | (go_at_call 38; refine hnd.out.mono ?_; rintro e w' ⟨rfl, rfl⟩) | (go_at_call 49; refine hdi.out.mono ?_; rintro e w' ⟨rfl, rfl⟩))
        go_loopw [1, 6, 7] (fun s1 s6 s7 wr => s1 = .int .i64 ((i : Int) + 1) ∧ s6 = .pointer (some ⟨q, 0, none⟩) ∧ s7 = .string ⟨#[]⟩ ∧ w' = wr) (fun _ _ _ _ => 0)
        case atStart => exact ⟨rfl, rfl, rfl, rfl⟩
        case round =>
          obtain ⟨rfl, rfl, rfl, rfl⟩ := hrel
          go_wp2
          go_ret2
          exact ⟨rfl, Below.refl _ _⟩
      · have hdp := hw.dep hi hd hl0
        obtain ⟨d, hde⟩ : ∃ d, dep f (i + 1) = d := ⟨_, rfl⟩
        rw [hde] at hdp ⊢
        have hd1 := deep_le hdp
        have hd2 := hw.len
        obtain ⟨T, hT⟩ : ∃ T, upM f d (i + 1) = T := ⟨_, rfl⟩
        have hld : LD f (i + 1) := ⟨i, I, rfl, hi, hd, by have := (hw.ino i I hi).one hd; omega⟩
        have hR : (if ((i : Int) + 1) = 1 then (slT, 0) else if I.links = 0 then (⟨#[]⟩, 2) else (upM f d (i + 1), 0)) = ((if d = 0 then slT else T), 0) := by
          rw [if_neg hl0, hT]
          by_cases h0 : i = 0
          · subst h0
            have := hdp.uniq Deep.root
            subst this
            rw [if_pos (by omega), if_pos rfl]
          · rw [if_neg (by omega), if_neg (fun e => ?_)]
            subst e
            cases hdp
            exact h0 rfl
        rw [hR]
        obtain ⟨V, hV⟩ : ∃ V, (if d = 0 then slT else T) = V := ⟨_, rfl⟩
        rw [hV]
        have hVH := Lib.hid hV
        have hH := Lib.hid h
        have hwH := Lib.hid hw
        have hfH := Lib.hid hf
        have hdH := Lib.hid hdp
        have hTH := Lib.hid hT
        have hldH := Lib.hid hld
        clear h hf hM hi hA hd hl0 hw hdp hT hld hR hde hV
        go_enter Try.func23, Try.ntmps23
        go_wp2_with (first | (go_at_call 38; refine hnd.out.mono ?_; rintro e w' ⟨rfl, rfl⟩) | (go_at_call 49; refine hdi.out.mono ?_; rintro e w' ⟨rfl, rfl⟩))
        go_loopw [1, 6, 7] (fun s1 s6 s7 wr => ∃ (k m qm : Nat) (pth : ByteArray), s1 = .int .i64 m ∧ s6 = .pointer (some ⟨qm, 0, none⟩) ∧ s7 = .string pth ∧ Hid (Below w'.heap.size w' wr) ∧ Hid (Deep f k m) ∧ Hid (LD f m) ∧ Hid (∃ j, m = j + 1 ∧ ps[j]? = some (some qm)) ∧ Hid (upM f k m ++ pth = T) ∧ pth.size + 33 * k ≤ 33 * d ∧ (d = 0 ↔ pth.size = 0 ∧ k = 0)) (fun s1 _ _ _ => dep f (intOf s1).toNat)
        case atStart => exact ⟨d, i + 1, q, ⟨#[]⟩, by go_num, rfl, rfl, Lib.hid (Below.refl _ _), hdH, hldH, Lib.hid ⟨i, rfl, hq⟩, Lib.hid (by rw [hTH.out]; exact ByteArray.append_empty), by show 0 + _ ≤ _; omega, ⟨fun h => ⟨rfl, h⟩, fun h => h.2⟩⟩
        case round =>
          obtain ⟨k, m, qm, pth, rfl, rfl, rfl, hb, hk, hl, hqm, ht, hsz, hd0⟩ := hrel
          by_cases h1 : m = 1
          · subst h1
            have hk0 := hk.out.uniq Deep.root
            subst hk0
            have hpt : pth = T := by rw [← ht.out]; exact ByteArray.empty_append.symm
            by_cases h0 : d = 0
            · have hVo := hVH.out
              rw [if_pos h0] at hVo
              subst hVo
              have hpe : pth = ⟨#[]⟩ := by
                have := (hd0.1 h0).1
                exact ByteArray.size_eq_zero_iff.1 this
              subst hpe
              clear hpt ht
              go_wp2
              go_ret2
              exact ⟨rfl, hb.out⟩
            · have hVo := hVH.out
              rw [if_neg h0] at hVo
              subst hVo
              have hpe : pth.toList.isEmpty = false := by
                rw [Lib.toList_data]
                cases hx : pth.data.toList with
                | cons => rfl
                | nil =>
                  exfalso
                  refine h0 (hd0.2 ⟨?_, rfl⟩)
                  have h2 : pth.data.toList.length = pth.size := by rw [Array.length_toList]; rfl
                  rw [hx] at h2
                  exact h2.symm
              have hpe2 : pth.toList ≠ [] := fun e => by rw [e] at hpe; cases hpe
              subst hpt
              clear ht
              go_wp2
              go_ret2
              exact ⟨rfl, hb.out⟩
          · obtain ⟨k, rfl⟩ : ∃ k', k = k' + 1 := by
              cases k with
              | zero =>
                have h9 := hk.out
                cases h9
                exact absurd rfl h1
              | succ k => exact ⟨k, rfl⟩
            obtain ⟨M, hnM, hdM⟩ : ∃ I, node f (m : Int) = some I ∧ Deep f k I.parent := by
              have h9 := hk.out
              cases h9 with
              | up _ _ I _ hn hI => exact ⟨I, hn, hI⟩
            obtain ⟨hlM, mp, P, z, hpe, hP, _⟩ := hwH.out.ldUp hl.out h1 hnM
            obtain ⟨j, hmj, hqj⟩ := hqm.out
            subst hmj
            obtain ⟨j', hj', hj⟩ := nat_node hnM
            obtain rfl : j' = j := by omega
            obtain ⟨qj, hqj2, dvj, evj, hAj⟩ := hH.out.some_ j' M hj
            obtain rfl : qj = qm := by
              rw [hqj] at hqj2
              cases hqj2
              rfl
            obtain ⟨qp, hqp, dvp, evp, hAp⟩ := hH.out.some_ mp P hP
            have c2 : wr.cell? ⟨qj, 2, none⟩ = some (.int .i64 M.links) := (hAj.below hb.out).blk.cell 2
            have c6 : wr.cell? ⟨qj, 6, none⟩ = some (.int .i64 M.parent) := (hAj.below hb.out).blk.cell 6
            have hMl : M.links = 1 := by
              obtain ⟨j2, M2, e1, e2, _, e3⟩ := hl.out
              obtain rfl : j2 = j' := by omega
              rw [hj] at e2
              cases e2
              exact e3
            rw [hMl] at c2
            rw [hpe, show ((mp + 1 : Nat) : Int) = (mp : Int) + 1 by omega] at c6
            have hup := Lib.hid (node_yes (hH.out.below hb.out) hqp hlen)
            have hno := Lib.hid (nameOf_any (hAp.below hb.out) (hfH.out.2 mp P hP) (j' + 1))
            have hne : entsAt f M.parent = P.ents := by unfold entsAt; rw [hpe, node_nat hP]
            have hns := name_size hwH.out M.parent (j' + 1)
            rw [hne] at hns
            obtain ⟨nm, hnm⟩ : ∃ nm, nameM P.ents (j' + 1) = nm := ⟨_, rfl⟩
            have ht2 := ht.out
            rw [up_some hnM, hne, hnm] at ht2
            rw [hnm] at hno hns
            rw [show ((j' + 1 : Nat) : Int) = (j' : Int) + 1 by omega] at hno
            have hN := Lib.hid (show upM f k M.parent ++ ((slT ++ nm) ++ pth) = T by rw [← ht2]; simp [ByteArray.append_assoc])
            have hme := Lib.hid (show dep f M.parent < dep f (j' + 1) by rw [dep_eq hdM, dep_eq hk.out]; omega)
            have x1 : (((j' : Int) + 1) != 1) = true := bne_iff_ne.2 (by omega)
            have z1 : (slT ++ nm).size = 1 + nm.size := by rw [ByteArray.size_append]; rfl
            have z2 : ((slT ++ nm) ++ pth).size = 1 + nm.size + pth.size := by rw [ByteArray.size_append, z1]
            have hbs := hb.out.size
            rw [hpe] at hdM hlM hN hme
            have hdM2 := Lib.hid hdM
            have hlM2 := Lib.hid hlM
            have hqpH := Lib.hid hqp
            have hbw := hb
            clear hnM hdM hlM hP hqj hj hqj2 hAj hqp hAp hne hnm ht2 hMl ht
            go_wp2_with (first | (go_at_call 38; refine hup.out.mono ?_; rintro e wq ⟨rfl, rfl⟩) | (go_at_call 50; refine hno.out.mono ?_; rintro e w3 ⟨rfl, hb3⟩; have c6' := (World.cell?_of_block (a := ⟨qj, 6, none⟩) (hb3.block qj (block_of_cell c6))).trans c6; have hb4 := Lib.hid (show Below w'.heap.size w' w3 from hbw.out.trans (below_of hb3 hbs))))
            go_roundw
            case rel => exact ⟨k, mp + 1, qp, (slT ++ nm) ++ pth, by go_num, rfl, rfl, hb4, hdM2, hlM2, Lib.hid ⟨mp, rfl, hqpH.out⟩, hN, by rw [z2]; omega, by rw [z2]; omega⟩
            case measure => simpa [intOf] using hme.out
end
end Go.Proofs.Ytohgecmbkjienaa
/- All entries below a directory, as plain data; how many there are. No condition. -/
namespace Go.Proofs.Ytohgecmbkjienaa
open Go.RowKit
set_option linter.unusedVariables false
set_option linter.unusedSimpArgs false
structure Te where
  path : ByteArray
  kind : Nat
  mode : Int
  data : ByteArray
def teOf (p : ByteArray) (I : Ino) : Te := ⟨p, I.kind, I.mode, ⟨I.data.toArray⟩⟩
def treeL (f : Fs) (g : Nat → ByteArray → List Te) (a : ByteArray) (e : En) : List Te := match node f (e.2 : Int) with
  | none => []
  | some I => teOf (a ++ e.1) I :: (if I.isDir = true then g e.2 (a ++ e.1 ++ slT) else [])
def treeM (f : Fs) : Nat → Nat → ByteArray → List Te
  | 0, _, _ => []
  | d + 1, n, a => (entsAt f n).flatMap (treeL f (treeM f d) a)
def TreeM (f : Fs) : List Te := treeM f 102 1 ⟨#[]⟩
/-- The directories that are gone through. -/
def visL (f : Fs) (g : Nat → List Nat) (e : En) : List Nat := if isDir f (e.2 : Int) = true then g e.2 else []
def visM (f : Fs) : Nat → Nat → List Nat
  | 0, _ => []
  | d + 1, n => n :: (entsAt f n).flatMap (visL f (visM f d))
theorem entsAt_at {f : Fs} {i : Nat} {I : Ino} (h : f[i]? = some (some I)) : entsAt f (i + 1) = I.ents := by unfold entsAt; rw [node_nat h]
theorem tree_len (f : Fs) : ∀ (d n : Nat) (a : ByteArray), (treeM f d n a).length ≤ ((visM f d n).map (fun m => (entsAt f m).length)).sum
  | 0, _, _ => Nat.zero_le _
  | d + 1, n, a => by
    have H : ∀ l : Ents, (l.flatMap (treeL f (treeM f d) a)).length ≤ l.length + ((l.flatMap (visL f (visM f d))).map (fun m => (entsAt f m).length)).sum := by
      intro l
      induction l with
      | nil => simp
      | cons e l ih =>
        have h1 : (treeL f (treeM f d) a e).length ≤ 1 + ((visL f (visM f d) e).map (fun m => (entsAt f m).length)).sum := by
          unfold treeL visL isDir
          cases hn : node f (e.2 : Int) with
          | none => exact Nat.zero_le _
          | some I =>
            dsimp only
            by_cases hd : I.isDir = true
            · have := tree_len f d e.2 (a ++ e.1 ++ slT)
              rw [if_pos hd, if_pos hd, List.length_cons]
              omega
            · rw [if_neg hd, if_neg hd]
              simp
        rw [List.flatMap_cons, List.flatMap_cons, List.length_append, List.map_append, List.sum_append, List.length_cons]
        omega
    have h2 := H (entsAt f n)
    rw [treeM, visM, List.map_cons, List.sum_cons]
    omega
/-- n is above x by j steps. -/
def Below_ (f : Fs) : Nat → Nat → Nat → Prop
  | 0, x, n => x = n
  | j + 1, x, n => ∃ I, node f (x : Int) = some I ∧ x ≠ 1 ∧ Below_ f j I.parent n
theorem below_up {f : Fs} : ∀ (j x n : Nat) {M : Ino}, Below_ f j x n → node f (n : Int) = some M → n ≠ 1 → Below_ f (j + 1) x M.parent
  | 0, x, n, M, h, hn, h1 => by
    have h' : x = n := h
    subst h'
    exact ⟨M, hn, h1, rfl⟩
  | j + 1, x, n, M, ⟨I, h2, h3, h4⟩, hn, h1 => ⟨I, h2, h3, below_up j I.parent n h4 hn h1⟩
theorem below_deep {f : Fs} : ∀ (j x n k : Nat), Below_ f j x n → Deep f k n → Deep f (k + j) x
  | 0, x, n, k, h, hd => by
    have h' : x = n := h
    subst h'
    exact hd
  | j + 1, x, n, k, ⟨I, h2, h3, h4⟩, hd => .up (k + j) x I h3 h2 (below_deep j I.parent n k h4 hd)
theorem below_fun {f : Fs} : ∀ (j x n m : Nat), Below_ f j x n → Below_ f j x m → n = m
  | 0, x, n, m, h, k => by
    have h' : x = n := h
    have k' : x = m := k
    rw [← h', k']
  | j + 1, x, n, m, ⟨I, h2, h3, h4⟩, ⟨K, k2, k3, k4⟩ => by
    rw [h2] at k2
    cases k2
    exact below_fun j I.parent n m h4 k4
section
variable {c : Nat} {f : Fs}
/-- A child that is a directory. -/
theorem WF.kid (h : WF c f) {n k : Nat} (hl : LD f n) (hd : Deep f k n) {e : En} (he : e ∈ entsAt f n) (hk : isDir f (e.2 : Int) = true) : LD f e.2 ∧ Deep f (k + 1) e.2 ∧ ∃ M, node f (e.2 : Int) = some M ∧ e.2 ≠ 1 ∧ M.parent = n := by
  obtain ⟨i, D, rfl, hi, hdd, hll⟩ := hl
  rw [entsAt_at hi] at he
  obtain ⟨h1, J, hJ⟩ := (h.ino i D hi).live e he
  obtain ⟨j, hj⟩ : ∃ j, e.2 = j + 1 := ⟨e.2 - 1, by omega⟩
  rw [hj, Nat.add_sub_cancel] at hJ
  rw [hj, isDir_nat hJ] at hk
  obtain ⟨k1, k2, k3, _⟩ := h.child hi hJ (x := e.1) (by rw [← hj]; exact he) hk
  rw [hj]
  exact ⟨⟨j, J, rfl, hJ, hk, k1⟩, .up k _ J (by omega) (node_nat hJ) (by rw [k2]; exact hd), J, node_nat hJ, by omega, k2⟩
theorem vis_below (h : WF c f) : ∀ (d n k : Nat), LD f n → Deep f k n → ∀ x ∈ visM f d n, ∃ j, Below_ f j x n ∧ LD f x
  | 0, n, k, _, _, x, hx => by cases hx
  | d + 1, n, k, hl, hd, x, hx => by
    rcases List.mem_cons.1 hx with rfl | hx
    · exact ⟨0, rfl, hl⟩
    · obtain ⟨e, he, hx⟩ := List.mem_flatMap.1 hx
      unfold visL at hx
      split at hx
      · rename_i h1
        obtain ⟨k1, k2, M, k3, k4, k5⟩ := h.kid hl hd he h1
        obtain ⟨j, k6, k7⟩ := vis_below h d e.2 (k + 1) k1 k2 x hx
        refine ⟨j + 1, ?_, k7⟩
        have := below_up j x e.2 k6 k3 k4
        rw [k5] at this
        exact this
      · cases hx
theorem cnt_once (h : WF c f) {i : Nat} {D : Ino} (hi : f[i]? = some (some D)) : ∀ (a b : Ents) (e : En), D.ents = a ++ e :: b → isDir f (e.2 : Int) = true → ∀ u ∈ b, u.2 ≠ e.2 := fun a b e hab hd u hu hx => by
  have he : e ∈ D.ents := by rw [hab]; exact List.mem_append_right _ (List.mem_cons_self ..)
  obtain ⟨h1, J, hJ⟩ := (h.ino i D hi).live e he
  obtain ⟨j, hj⟩ : ∃ j, e.2 = j + 1 := ⟨e.2 - 1, by omega⟩
  rw [hj, Nat.add_sub_cancel] at hJ
  rw [hj, isDir_nat hJ] at hd
  have h2 := (h.ino j J hJ).one hd
  have h3 := (h.ino j J hJ).cnt
  have h4 := sumF_ge (fun I => cntE I.ents (j + 1)) f i D hi
  have h5 : 2 ≤ cntE D.ents (j + 1) := by
    rw [hab]
    unfold cntE
    rw [List.countP_append, List.countP_cons]
    have h6 : 1 ≤ b.countP (fun e => e.2 == j + 1) := List.countP_pos_iff.2 ⟨u, hu, by rw [hx, hj]; simp⟩
    have h7 : (if (e.2 == j + 1) = true then 1 else 0) = 1 := by rw [if_pos (by rw [hj]; simp)]
    omega
  unfold cntF at h3
  omega
theorem vis_nodup (h : WF c f) : ∀ (d n k : Nat), LD f n → Deep f k n → (visM f d n).Nodup
  | 0, n, k, _, _ => List.Pairwise.nil
  | d + 1, n, k, hl, hd => by
    have hb : ∀ e ∈ entsAt f n, ∀ x ∈ visL f (visM f d) e, isDir f (e.2 : Int) = true ∧ ∃ j, Below_ f j x e.2 := fun e he x hx => by
      unfold visL at hx
      split at hx
      · rename_i h1
        obtain ⟨k1, k2, _⟩ := h.kid hl hd he h1
        obtain ⟨j, k6, _⟩ := vis_below h d e.2 (k + 1) k1 k2 x hx
        exact ⟨h1, j, k6⟩
      · cases hx
    have hdp : ∀ e ∈ entsAt f n, ∀ x ∈ visL f (visM f d) e, ∃ j, Deep f (k + 1 + j) x := fun e he x hx => by
      obtain ⟨h1, j, h2⟩ := hb e he x hx
      obtain ⟨_, k2, _⟩ := h.kid hl hd he h1
      exact ⟨j, below_deep j x e.2 (k + 1) h2 k2⟩
    rw [visM]
    refine List.nodup_cons.2 ⟨fun hm => ?_, ?_⟩
    · obtain ⟨e, he, hx⟩ := List.mem_flatMap.1 hm
      obtain ⟨j, hj⟩ := hdp e he n hx
      have := hj.uniq hd
      omega
    · obtain ⟨i, D, rfl, hi, hdd, hll⟩ := hl
      have hE := entsAt_at hi
      have H : ∀ (b a : Ents), D.ents = a ++ b → (b.flatMap (visL f (visM f d))).Nodup := by
        intro b
        induction b with
        | nil => exact fun _ _ => List.Pairwise.nil
        | cons e b ih =>
          intro a hab
          have he : e ∈ entsAt f (i + 1) := by rw [hE, hab]; exact List.mem_append_right _ (List.mem_cons_self ..)
          rw [List.flatMap_cons]
          refine List.nodup_append.2 ⟨?_, ih (a ++ [e]) (by rw [hab]; simp), fun x hx y hy hxy => ?_⟩
          · unfold visL
            split
            · rename_i h1
              obtain ⟨k1, k2, _⟩ := h.kid ⟨i, D, rfl, hi, hdd, hll⟩ hd he h1
              exact vis_nodup h d e.2 (k + 1) k1 k2
            · exact List.Pairwise.nil
          · subst hxy
            obtain ⟨u, hu, hy⟩ := List.mem_flatMap.1 hy
            have hu' : u ∈ entsAt f (i + 1) := by rw [hE, hab]; exact List.mem_append_right _ (List.mem_cons_of_mem _ hu)
            obtain ⟨k1, j1, k2⟩ := hb e he x hx
            obtain ⟨k3, j2, k4⟩ := hb u hu' x hy
            obtain ⟨_, q1, _⟩ := h.kid ⟨i, D, rfl, hi, hdd, hll⟩ hd he k1
            obtain ⟨_, q2, _⟩ := h.kid ⟨i, D, rfl, hi, hdd, hll⟩ hd hu' k3
            have q3 := (below_deep j1 x e.2 _ k2 q1).uniq (below_deep j2 x u.2 _ k4 q2)
            obtain rfl : j1 = j2 := by omega
            exact cnt_once h hi a b e hab k1 u hu (below_fun j1 x u.2 e.2 k4 k2)
      have := H D.ents [] rfl
      rw [hE]
      exact this
theorem WF.ldRoot (h : WF c f) : LD f 1 := by
  obtain ⟨R, hR, h1, h2, _⟩ := h.root
  exact ⟨0, R, rfl, hR, h1, h2⟩
theorem sum_le (K : Nat) : ∀ l : List Nat, (∀ x ∈ l, x ≤ K) → l.sum ≤ l.length * K
  | [], _ => Nat.zero_le _
  | x :: l, h => by
    have h1 := sum_le K l (fun y hy => h y (List.mem_cons_of_mem _ hy))
    have h2 := h x (List.mem_cons_self ..)
    rw [List.sum_cons, List.length_cons, Nat.succ_mul]
    omega
theorem TreeM_len (h : WF c f) (hc : c ≤ 5000) : (TreeM f).length ≤ 505000 := by
  have h1 := tree_len f 102 1 ⟨#[]⟩
  have h2 := nodup_len 101 (visM f 102 1) (vis_nodup h 102 1 0 h.ldRoot .root) (fun m hm => by
    obtain ⟨_, _, i, I, rfl, hi, _⟩ := vis_below h 102 1 0 h.ldRoot .root m hm
    have := (List.getElem?_eq_some_iff.1 hi).1
    have := h.len
    omega)
  have h3 := sum_le 5000 ((visM f 102 1).map (fun m => (entsAt f m).length)) (fun x hx => by
    obtain ⟨m, _, rfl⟩ := List.mem_map.1 hx
    unfold entsAt
    cases hn : node f (m : Int) with
    | none => exact Nat.zero_le _
    | some I =>
      obtain ⟨i, rfl, hi⟩ := nat_node hn
      have h4 := sumF_ge (fun I => I.ents.length) f i I hi
      have h5 := h.tot
      dsimp only
      omega)
  rw [List.length_map] at h3
  have h6 : (visM f 102 1).length * 5000 ≤ 101 * 5000 := Nat.mul_le_mul_right _ h2
  unfold TreeM
  omega
end
end Go.Proofs.Ytohgecmbkjienaa
/- tree: all entries below a directory, to whatever yield. Condition: the tree lies as stated, and what holds along all calls holds. -/
namespace Go.Proofs.Ytohgecmbkjienaa
open Go.RowKit Go.Shelf Go.PlainAid
set_option linter.unusedVariables false
set_option linter.unusedSimpArgs false
attribute [local go_sem] Oper.semAt_some
def encT (x : Te) : Array Value := #[.agg #[.string x.path, .int .i64 x.kind, .int .i64 x.mode, .string x.data]]
def tecs (x : Te) : List Value := [.string x.path, .int .i64 x.kind, .int .i64 x.mode, .string x.data]
theorem yield_mono {m l : Nat} {P : Program} {args : Array Value} {W : World} {R R' : Ending → World → Prop} (h : YieldAt Fence.wide m P l args W R) (k : ∀ e w, R e w → R' e w) : YieldAt Fence.wide m P l args W R' := by
  obtain ⟨fn, tmps, assign, body, h1, h2, h3⟩ := h
  exact ⟨fn, tmps, assign, body, h1, RoundIn.mono ⟨h2, h3⟩ k⟩
theorem conv_row {W : World} {dv : Value} {l : List UInt8} (h : W.ownsRow 0 5 1 dv l.length (Lib.byteCells l)) : (convert 70 9 dv).run Try.prog W = .ok (.string ⟨l.toArray⟩) W := by
  rcases h.2 with ⟨rfl, h0⟩ | ⟨g, cap, cur, rfl, _, hgb, _, _, _, htk⟩
  · have : l = [] := List.eq_nil_of_length_eq_zero h0
    subst this
    exact conv_nil W
  · refine run_convert_bytes_back (P := Try.prog) W 70 9 5 ⟨g, 0, none⟩ cap l Try.underlying70 Try.underlying5 Try.underlying9 (fun j hj => ?_)
    rw [Addr.add_lit]
    have hget : (Lib.byteCells l)[0 + j]? = some (.int .u8 (l[j].toNat : Int)) := by
      unfold Lib.byteCells
      rw [Nat.zero_add, List.getElem?_map, List.getElem?_eq_getElem hj]
      rfl
    rw [← htk, List.getElem?_take_of_lt (by omega), Array.getElem?_toList] at hget
    exact (cell_of_row W g (0 + j) cur 5 (0, 0) hgb).trans hget
theorem row_drew {W : World} {base size n : Nat} {e : TypeId} {v : Value} {xs : List Value} (h : W.ownsRow base e size v n xs) : (World.drew W).ownsRow base e size v n xs := row_keep h (fun _ _ => rfl)
theorem Keeps.trans' {T T' : List Nat} {A B C : World} (h : Keeps T A B) (k : Keeps T' B C) (hT : ∀ t ∈ T, t ∈ T') : Keeps T A C :=
  ⟨Nat.le_trans h.size k.size, fun t ht hl => (k.block t (hT t ht) (Nat.lt_of_lt_of_le hl h.size)).trans (h.block t ht hl)⟩
theorem keeps_below {T : List Nat} {A B : World} (h : Below A.heap.size A B) : Keeps T A B := ⟨h.size, fun k _ hk => h.block k hk⟩
theorem ext_less {T T' : List Nat} (A : World) (h : ∀ t ∈ T', t ∈ T) : Ext T A T' A := ⟨rfl, rfl, rfl, Nat.le_refl _, fun _ _ _ => rfl, fun k hk => .inl (h k hk)⟩
theorem ext_more {T T' : List Nat} {A B : World} (h : Below A.heap.size A B) (hT : ∀ t ∈ T', t ∈ T ∨ (A.heap.size ≤ t ∧ t < B.heap.size)) : Ext T A T' B := ⟨h.os, h.tape, h.output, h.size, fun k hk _ => h.block k hk, hT⟩
theorem keepN_of {n₀ : Nat} {S : Nat → Prop} {A B : World} (hn : n₀ ≤ A.heap.size) (h : Below A.heap.size A B) : KeepN n₀ S A B := ⟨h.size, fun g hg _ => h.block g (by omega)⟩
/-- What a row lies in, ahead of what is kept. -/
def withRow (v : Value) (T : List Nat) : List Nat := match v.ownBlock with
  | some g => g :: T
  | none => T
theorem withRow_mem {v : Value} {T : List Nat} {g : Nat} (h : v.ownBlock = some g) : g ∈ withRow v T := by
  unfold withRow
  rw [h]
  exact List.mem_cons_self ..
theorem withRow_old {v : Value} {T : List Nat} : ∀ t ∈ T, t ∈ withRow v T := fun t ht => by
  unfold withRow
  split
  · exact List.mem_cons_of_mem _ ht
  · exact ht
theorem withRow_new {v : Value} {T : List Nat} {t : Nat} (h : t ∈ withRow v T) : t ∈ T ∨ v.ownBlock = some t := by
  unfold withRow at h
  split at h
  · rename_i g hg
    rcases List.mem_cons.1 h with rfl | h
    · exact .inr hg
    · exact .inl h
  · exact .inl h
theorem name_at {W : World} {base : Nat} {v : Value} {l : List ByteArray} (hR : W.ownsRow base 9 1 v l.length (strs l)) {i : Nat} {x : ByteArray} (hx : l[i]? = some x) : ∃ g c, v = .slice (some ⟨g, 0, none⟩) l.length c ∧ W.cell? ⟨g, i, none⟩ = some (.string x) := by
  have hi := (List.getElem?_eq_some_iff.1 hx).1
  obtain ⟨g, cap, e, h1, _⟩ := hR.form (by omega)
  refine ⟨g, cap, e, ?_⟩
  rw [e] at hR
  rw [hR.cellAt _ (by omega)]
  simp [strs, hx]
/-- What tree leaves. -/
def TreeP (n₀ : Nat) (S : Nat → Prop) (J Jx : List Nat → List Te → World → Prop) (T : List Nat) (xs pre0 : List Te) (W : World) (e : Ending) (W' : World) : Prop :=
  (e = .returned (.bool true) ∧ J T (pre0 ++ xs) W' ∧ Keeps T W W' ∧ KeepN n₀ S W W') ∨ (e = .returned (.bool false) ∧ ∃ ps, ps <+: xs ∧ Jx T (pre0 ++ ps) W' ∧ Keeps T W W')
section
variable {p c : Nat} {f : Fs} {B : Nat → Nat → Prop} (l n₀ : Nat) (S : Nat → Prop) (J Jx : List Nat → List Te → World → Prop) (ALL : List Te)
  (hY : ∀ T pre x W, n₀ ≤ W.heap.size → pre ++ [x] <+: ALL → J T pre W → YieldAt Fence.wide 0 Try.prog l (encT x) W fun e W' => (e = .returned (.bool true) ∧ J T (pre ++ [x]) W' ∧ Keeps T W W' ∧ KeepN n₀ S W W') ∨ (e = .returned (.bool false) ∧ Jx T (pre ++ [x]) W' ∧ Keeps T W W'))
  (hJ : Abide J) (hJx : Abide Jx) (hw : WF c f) (hc : c ≤ 5000) (hB : ∀ i g, B i g → g < n₀ ∧ ¬ S g)
include hY hJ hJx hw hc hB
set_option maxRecDepth 100000 in
set_option maxHeartbeats 4000000 in
theorem tree_in : ∀ (d dd : Nat), 1 ≤ dd → ∀ (n k : Nat) (ahead : ByteArray) (T : List Nat) (W : World) (pre0 : List Te), FsIs W B p f → Deep f k n → LD f n → k + d = 102 → ahead.size ≤ 40 * k → n₀ ≤ W.heap.size → pre0 ++ treeM f d n ahead <+: ALL → J T pre0 W →
    CallsIn Fence.wide dd Try.prog 53 #[.pointer (some ⟨p, 0, none⟩), .int .i64 n, .string ahead, .func (.yield l) #[] #[]] W (TreeP n₀ S J Jx T (treeM f d n ahead) pre0 W) := by
  intro d
  induction d with
  | zero =>
    intro dd _ n k ahead T W pre0 _ hd _ hk
    have := deep_le hd
    have := hw.len
    omega
  | succ d ih =>
    intro dd hdd n k ahead T W pre0 hFs hd hl hk hsz hn0 hall hJ0
    obtain ⟨sv, ps, h⟩ := hFs
    have hf := hw.fine hc
    have hlen : f.length ≤ 100000 := by have := hf.1; omega
    obtain ⟨i0, D, rfl, hi, hdd2, hll⟩ := hl
    have hld : LD f (i0 + 1) := ⟨i0, D, rfl, hi, hdd2, hll⟩
    have hDk := hw.ino i0 D hi
    have hL : ListM f ((i0 + 1 : Nat) : Int) = (nms D.ents, 0) := by
      unfold ListM
      rw [node_nat hi]
      dsimp only
      rw [if_pos hdd2]
    have hlist := list_any h hf ((i0 + 1 : Nat) : Int)
    rw [hL] at hlist
    obtain ⟨m, hm⟩ : ∃ m, (nms D.ents).length = m := ⟨_, rfl⟩
    dsimp only at hlist
    rw [hm] at hlist
    have hmd : D.ents.length = m := by rw [← hm]; exact (List.length_map ..).symm
    have hm1 : m ≤ 10000 := by rw [← hmd]; exact (hf.2 i0 D hi).el
    have hTr : treeM f (d + 1) (i0 + 1) ahead = D.ents.flatMap (treeL f (treeM f d) ahead) := by rw [treeM, entsAt_at hi]
    rw [hTr] at hall ⊢
    have hlistH := Lib.hid hlist
    have hH := Lib.hid h
    have hJ0H := Lib.hid hJ0
    have hDH := Lib.hid hDk
    have hiH := Lib.hid hi
    have hwH := Lib.hid hw
    have hfH := Lib.hid hf
    have hdH := Lib.hid hd
    have hldH := Lib.hid hld
    have hallH := Lib.hid hall
    have hmH := Lib.hid hm
    have hmdH := Lib.hid hmd
    have hYH := Lib.hid hY
    have hJH := Lib.hid hJ
    have hJxH := Lib.hid hJx
    have hBH := Lib.hid hB
    have hihH := Lib.hid (ih 1 (Nat.le_refl _))
    have hddH := Lib.hid hdd2
    clear hlist h hJ0 hDk hi hw hf hd hld hall hm hmd hY hJ hJx hB ih hdd2 hL hTr hll
    have hcast : ((i0 + 1 : Nat) : Int) = (i0 : Int) + 1 := by omega
    rw [hcast] at hlistH ⊢
    refine callsIn_of_wp Try.func53 rfl trivial ?_ rfl
    simp only [Try.ntmps53, List.size_toArray, List.length_cons, List.length_nil, Nat.reduceAdd, Nat.reduceSub, Array.replicate_succ, Array.replicate_zero, List.push_toArray, List.append_toArray, List.nil_append, List.cons_append]
    gi_wp2_with (refine ⟨trivial, ?_⟩; gi_at_call 36; refine (callsIn_wide.2 hlistH.out).mono ?_; rintro e w1 ⟨⟨v, rfl, hR⟩, hb1⟩; obtain ⟨av, cv, rfl⟩ := ownsRow_slice hR; have hRH := Lib.hid hR; have hb1H := Lib.hid hb1; clear hR hb1)
    gi_loopw [24] (fun s24 wr => ∃ i : Nat, i ≤ m ∧ s24 = .int .i64 i ∧ Hid (J (withRow (.slice av m cv) T) (pre0 ++ (D.ents.take i).flatMap (treeL f (treeM f d) ahead)) wr) ∧ Hid (Keeps T W wr) ∧ Hid (Keeps (withRow (.slice av m cv) T) w1 wr) ∧ Hid (KeepN n₀ S W wr)) (fun s24 _ => m - (intOf s24).toNat)
    case atStart =>
      refine ⟨0, Nat.zero_le _, by go_num, Lib.hid ?_, Lib.hid (keeps_below hb1H.out), Lib.hid (keeps_below (Below.refl _ _)), Lib.hid (keepN_of hn0 hb1H.out)⟩
      rw [List.take_zero, List.flatMap_nil, List.append_nil]
      exact hJH.out T _ pre0 W w1 hJ0H.out (ext_more hb1H.out (fun t ht => (withRow_new ht).imp id (fun hg => ⟨row_ge hRH.out hg, row_lt hRH.out hg⟩)))
    case round =>
      obtain ⟨i, him, rfl, hJr, hKT, hK1, hKN⟩ := hrel
      by_cases hlt : i < m
      · obtain ⟨y, hy⟩ : ∃ y, D.ents[i]? = some y := ⟨_, List.getElem?_eq_getElem (by have := hmdH.out; omega)⟩
        have hRr := row_keep hRH.out (fun g hg => hK1.out.block g (withRow_mem hg) (row_lt hRH.out hg))
        obtain ⟨g, rfl, hc0⟩ : ∃ g, av = some ⟨g, 0, none⟩ ∧ wr.cell? ⟨g, i, none⟩ = some (.string y.1) := by
          rw [← hmH.out] at hRr
          obtain ⟨g, c', e, h1⟩ := name_at hRr (nms_of hy)
          obtain ⟨rfl, _⟩ : av = some ⟨g, 0, none⟩ ∧ cv = c' := by simpa using e
          exact ⟨g, rfl, h1⟩
        have hr := hH.out.keep hKN.out.size (fun i g hg => hKN.out.same g (hBH.out i g hg).1 (hBH.out i g hg).2)
        have hdi := isDir_fs hr ((i0 : Int) + 1) hlen
        rw [show isDir f ((i0 : Int) + 1) = true by rw [← hcast, isDir_nat hiH.out]; exact hddH.out] at hdi
        obtain ⟨q, hq, dv, ev, hA⟩ := hr.some_ i0 D hiH.out
        have hnd := node_yes hr hq hlen
        have hlk := lookup_any hA (hfH.out.2 i0 D hiH.out) y.1
        have hym := List.mem_of_getElem? hy
        rw [lookM_of hDH.out.srt (x := y.1) (n := y.2) hym] at hlk
        obtain ⟨hy2, J1, hj1⟩ := hDH.out.live y hym
        have hyn := hDH.out.name y hym
        obtain ⟨j, hj⟩ : ∃ j, y.2 = j + 1 := ⟨y.2 - 1, by omega⟩
        rw [hj, Nat.add_sub_cancel] at hj1
        rw [hj, show ((j + 1 : Nat) : Int) = (j : Int) + 1 by omega] at hlk
        obtain ⟨q2, hq2, dv2, ev2, hA2⟩ := hr.some_ j J1 hj1
        have hrH := Lib.hid hr
        have hq2H := Lib.hid hq2
        have hnd2 := Lib.hid (fun (X : World) (hb : Below wr.heap.size wr X) => node_yes (hrH.out.below hb) hq2 hlen)
        have hA2H := Lib.hid hA2
        have hdiH := Lib.hid hdi
        have hndH := Lib.hid hnd
        have hlkH := Lib.hid hlk
        have hyH := Lib.hid hy
        have hjH := Lib.hid hj
        have hj1H := Lib.hid hj1
        have hymH := Lib.hid hym
        have z1 : y.1.size ≤ 32 := hyn.2.1
        obtain ⟨nm, hnm⟩ : ∃ nm, y.1 = nm := ⟨_, rfl⟩
        rw [hnm] at hc0 hlkH z1
        have hnmH := Lib.hid hnm
        have x1 : (((j : Int) + 1) == 0) = false := beq_eq_false_iff_ne.2 (by omega)
        have hki := keepN_of (S := S) (A := wr) (B := wr) (by have := hKN.out.size; omega) (Below.refl _ _)
        clear hy hRr hr hdi hA hnd hlk hym hy2 hj hj1 hA2 hq hq2 hyn hnm
        have mixed : Try.prog.follows .mixedOrders = true := by kernel_rfl
        gi_wp2_with (first | (refine ⟨trivial, ?_⟩; gi_at_call 40; refine (callsIn_wide.2 hdiH.out).mono ?_; rintro e wq ⟨rfl, hwq⟩; obtain rfl := hwq.symm) | (refine ⟨trivial, ?_⟩; gi_at_call 38; refine (callsIn_wide.2 (hnd2.out _ hb3)).mono ?_; rintro e wq ⟨rfl, hwq⟩; obtain rfl := hwq.symm; have u0 : w3.cell? ⟨q2, 0, none⟩ = some (.int .i64 J1.kind) := (hA2H.out.below hb3).blk.cell 0; have u1 : w3.cell? ⟨q2, 1, none⟩ = some (.int .i64 J1.mode) := (hA2H.out.below hb3).blk.cell 1; have u4 : w3.cell? ⟨q2, 4, none⟩ = some dv2 := (hA2H.out.below hb3).blk.cell 4) | (refine ⟨trivial, ?_⟩; gi_at_call 38; refine (callsIn_wide.2 hndH.out).mono ?_; rintro e wq ⟨rfl, hwq⟩; obtain rfl := hwq.symm) | (refine ⟨trivial, ?_⟩; gi_at_call 55; refine (callsIn_wide.2 hlkH.out).mono ?_; rintro e w3 ⟨rfl, hb3⟩))
        have hbq := hb3
        have hn3 := hb3.size
        have hcv := Lib.hid (fun (Z : World) (hb : Below wr.heap.size wr Z) => conv_row (hA2H.out.below hb).dat)
        obtain ⟨D2, hD2⟩ : ∃ D2 : ByteArray, ⟨J1.data.toArray⟩ = D2 := ⟨_, rfl⟩
        rw [hD2] at hcv
        have hSS := Lib.hid (fun (Z : World) (hb : Below wr.heap.size wr Z) => show Z.cell? ⟨q2, 0, none⟩ = some (.int .i64 J1.kind) ∧ Z.cell? ⟨q2, 1, none⟩ = some (.int .i64 J1.mode) ∧ Z.cell? ⟨q2, 4, none⟩ = some dv2 ∧ (convert 70 9 dv2).run Try.prog Z = .ok (.string D2) Z from ⟨(hA2H.out.below hb).blk.cell 0, (hA2H.out.below hb).blk.cell 1, (hA2H.out.below hb).blk.cell 4, hcv.out Z hb⟩)
        have z2 : (ahead ++ nm).size = ahead.size + nm.size := ByteArray.size_append
        have hk9 : k ≤ 102 := by omega
        have hd9 : ahead.size + nm.size ≤ 5000 := by omega
        have hadd : ∀ Z : World, (Op.stringOp .add ahead nm).run Try.prog Z = .ok (.string (ahead ++ nm)) Z := fun Z => run_string_add_sum Z _ _ (by omega)
        refine wpIn_wide.2 ?_
        go_region_held3 (fun Z => Z.cell? ⟨q2, 0, none⟩ = some (.int .i64 J1.kind) ∧ Z.cell? ⟨q2, 1, none⟩ = some (.int .i64 J1.mode) ∧ Z.cell? ⟨q2, 4, none⟩ = some dv2 ∧ (convert 70 9 dv2).run Try.prog Z = .ok (.string D2) Z) (first | exact hSS.out _ hbq.drew | exact hSS.out _ (hbq.drew.alloc (by simp; omega) _) | go_keep) (fail)
        obtain ⟨q, hqe⟩ : ∃ q, w3.heap.size = q := ⟨_, rfl⟩
        obtain ⟨W8, hW8⟩ : ∃ W8, (w3.alloc (.cells #[.string (ahead ++ nm), .int .i64 J1.kind, .int .i64 J1.mode, .string D2] 56)).drew = W8 := ⟨_, rfl⟩
        have hb8 : Below wr.heap.size wr W8 := by
          rw [← hW8]
          exact below_drew (hb3.alloc hn3 _)
        have hT8 : Blk W8 q 56 #[.string (ahead ++ nm), .int .i64 J1.kind, .int .i64 J1.mode, .string D2] := by
          rw [← hW8]
          exact newB w3 _ _ hqe
        have hq8 : q < W8.heap.size := hT8.lt
        rw [hW8, hqe]
        have t0 : W8.cell? ⟨q, 0, none⟩ = some (.string (ahead ++ nm)) := hT8.cell 0
        have t1 : W8.cell? ⟨q, 1, none⟩ = some (.int .i64 J1.kind) := hT8.cell 1
        have t2 : W8.cell? ⟨q, 2, none⟩ = some (.int .i64 J1.mode) := hT8.cell 2
        have t3 : W8.cell? ⟨q, 3, none⟩ = some (.string D2) := hT8.cell 3
        obtain ⟨x, hx⟩ : ∃ x : Te, x = ⟨ahead ++ nm, J1.kind, J1.mode, D2⟩ := ⟨_, rfl⟩
        have hg : treeL f (treeM f d) ahead y = x :: (if J1.isDir = true then treeM f d (j + 1) (ahead ++ nm ++ slT) else []) := by
          unfold treeL
          rw [hjH.out, node_nat hj1H.out, hx, ← hD2, ← hnmH.out]
          rfl
        have htk : (D.ents.take (i + 1)).flatMap (treeL f (treeM f d) ahead) = (D.ents.take i).flatMap (treeL f (treeM f d) ahead) ++ x :: (if J1.isDir = true then treeM f d (j + 1) (ahead ++ nm ++ slT) else []) := by
          obtain ⟨h1, h2⟩ := List.getElem?_eq_some_iff.1 hyH.out
          rw [List.take_succ_eq_append_getElem h1, h2, List.flatMap_append, List.flatMap_cons, List.flatMap_nil, List.append_nil, hg]
        have hpre : (D.ents.take (i + 1)).flatMap (treeL f (treeM f d) ahead) <+: D.ents.flatMap (treeL f (treeM f d) ahead) := by
          refine ⟨(D.ents.drop (i + 1)).flatMap (treeL f (treeM f d) ahead), ?_⟩
          rw [← List.flatMap_append, List.take_append_drop]
        obtain ⟨X, hX⟩ : ∃ X, (D.ents.take i).flatMap (treeL f (treeM f d) ahead) = X := ⟨_, rfl⟩
        obtain ⟨X1, hX1⟩ : ∃ X1, (D.ents.take (i + 1)).flatMap (treeL f (treeM f d) ahead) = X1 := ⟨_, rfl⟩
        obtain ⟨XA, hXA⟩ : ∃ XA, D.ents.flatMap (treeL f (treeM f d) ahead) = XA := ⟨_, rfl⟩
        obtain ⟨Sb, hSb⟩ : ∃ Sb, (if J1.isDir = true then treeM f d (j + 1) (ahead ++ nm ++ slT) else []) = Sb := ⟨_, rfl⟩
        obtain ⟨T1, hT1⟩ : ∃ T1, withRow (.slice (some ⟨g, 0, none⟩) m cv) T = T1 := ⟨_, rfl⟩
        have hTT : ∀ t ∈ T, t ∈ T1 := by rw [← hT1]; exact withRow_old
        have hX1H := Lib.hid hX1
        have hT1H := Lib.hid hT1
        have hXAH := Lib.hid hXA
        rw [hX1, hX, hSb] at htk
        rw [hX1, hXA] at hpre
        rw [hXA] at hallH
        rw [hX, hT1] at hJr
        rw [hT1] at hK1
        have hxp : pre0 ++ X ++ [x] ++ Sb <+: ALL := by
          have h9 : pre0 ++ X1 <+: pre0 ++ XA := List.prefix_append_right_inj pre0 |>.2 hpre
          have h10 := h9.trans hallH.out
          rw [htk] at h10
          simpa using h10
        have hJ8 : J (q :: T1) (pre0 ++ X) W8 := hJH.out T1 _ _ wr W8 hJr.out (ext_more hb8 (fun t ht => by
          rcases List.mem_cons.1 ht with rfl | ht
          · exact .inr ⟨by omega, hq8⟩
          · exact .inl ht))
        obtain ⟨fn, tmps, assign, body, hyy, hYR⟩ := yield_wide (m' := dd - 1) (hYH.out (q :: T1) (pre0 ++ X) x W8 (by have := hKN.out.size; have := hb8.size; omega) ((List.prefix_append _ _).trans hxp) hJ8)
        have hYRH := Lib.hid hYR
        rw [hx] at hyy
        dsimp only [encT] at hyy
        have hT8H := Lib.hid hT8
        have hxpH := Lib.hid hxp
        have htkH := Lib.hid htk
        have hpreH := Lib.hid hpre
        have hTTH := Lib.hid hTT
        have hSbH := Lib.hid hSb
        have hkeep8 : Hid (Keeps T W W8) := Lib.hid (hKT.out.trans' (keeps_below (T := T) hb8) (fun _ h => h))
        have hkeep81 : Hid (Keeps T1 w1 W8) := Lib.hid (hK1.out.trans' (keeps_below (T := T1) hb8) (fun _ h => h))
        have hkn8 : Hid (KeepN n₀ S W W8) := Lib.hid (hKN.out.trans (keepN_of (by have := hKN.out.size; omega) hb8))
        have hn8 : n₀ ≤ W8.heap.size := by have := hkn8.out.size; omega
        have hzz : (ahead ++ nm ++ slT).size = ahead.size + nm.size + 1 := by rw [ByteArray.size_append, ByteArray.size_append]; rfl
        have hadd2 : (ahead ++ nm).size + 1 ≤ 10000 := by omega
        clear hYR hW8 hb8 hT8 hJ8 htk hpre hxp hg hTT hSb hb3 hbq hn3 u0 u1 u4 hadd hX hX1 hXA hT1
        clear hcv hSS hc0
        gi_wp2
        refine hYRH.out.mono ?_
        rintro e W9 (⟨rfl, hJ9, hk9', hkn9⟩ | ⟨rfl, hJ9, hk9'⟩)
        · have hJ9H := Lib.hid hJ9
          have hkq := Lib.hid hk9'
          have hkt9 : Hid (Keeps T W W9) := Lib.hid (hkeep8.out.trans' hk9' (fun t h => List.mem_cons_of_mem _ (hTTH.out t h)))
          have hkt19 : Hid (Keeps T1 w1 W9) := Lib.hid (hkeep81.out.trans' hk9' (fun t h => List.mem_cons_of_mem _ h))
          have hkn9H : Hid (KeepN n₀ S W W9) := Lib.hid (hkn8.out.trans hkn9)
          have hr9 := hH.out.keep hkn9H.out.size (fun i g hg => hkn9H.out.same g (hBH.out i g hg).1 (hBH.out i g hg).2)
          obtain ⟨q9, hq9, dv9, ev9, hA9⟩ := hr9.some_ j J1 hj1H.out
          obtain rfl : q9 = q2 := by
            have h11 := hq2H.out
            rw [hq9] at h11
            cases h11
            rfl
          have hdj := isDir_any hA9
          have c9 : W9.cell? ⟨q, 0, none⟩ = some (.string (ahead ++ nm)) := (World.cell?_of_block (a := ⟨q, 0, none⟩) (hk9'.block q (List.mem_cons_self ..) hq8)).trans (hT8H.out.cell 0)
          have hs9 := hkn9.size
          obtain ⟨jd, hjd⟩ : ∃ z, J1.isDir = z := ⟨_, rfl⟩
          have hSb9 := hSbH.out
          rw [hjd] at hdj hSb9
          have hdjH := Lib.hid hdj
          have hjdH := Lib.hid hjd
          have hr9H := Lib.hid hr9
          clear hJ9 hk9' hkn9 hr9 hA9 hq9 hdj hjd hyy t0 t1 t2 t3
          cases jd with
          | false =>
            obtain rfl : [] = Sb := by simpa using hSb9
            gi_wp2_with (refine ⟨trivial, ?_⟩; gi_at_call 49; refine (callsIn_wide.2 hdjH.out).mono ?_; rintro e wq ⟨rfl, hwq⟩; obtain rfl := hwq.symm)
            repeat (refine ⟨trivial, ?_⟩; gi_wp2)
            go_roundw
            case rel =>
              refine ⟨i + 1, by omega, by go_num, ?_⟩
              rw [hT1H.out]
              refine ⟨Lib.hid ?_, hkt9, hkt19, hkn9H⟩
              have h11 := hJH.out _ T1 _ W9 W9 hJ9H.out (ext_less W9 (fun t h => List.mem_cons_of_mem _ h))
              rw [hX1H.out, htkH.out]
              simpa using h11
            case measure => simp [intOf]; omega
          | true =>
            rw [if_pos rfl] at hSb9
            subst hSb9
            have hadd3 : ∀ Z : World, (Op.stringOp .add (ahead ++ nm) ⟨#[47]⟩).run Try.prog Z = .ok (.string (ahead ++ nm ++ ⟨#[47]⟩)) Z := fun Z => run_string_add_sum Z _ _ (by show (ahead ++ nm).size + 1 ≤ _; omega)
            have hkid := hwH.out.kid hldH.out hdH.out (e := y) (by rw [entsAt_at hiH.out]; exact hymH.out) (by rw [hjH.out, isDir_nat hj1H.out]; exact hjdH.out)
            rw [hjH.out] at hkid
            have hcall := Lib.hid (callsIn_wide.1 (hihH.out (j + 1) (k + 1) (ahead ++ nm ++ slT) (q :: T1) W9 (pre0 ++ X ++ [x]) ⟨sv, ps, hr9H.out⟩ hkid.2.1 hkid.1 (by omega) (by omega) (by omega) hxpH.out hJ9H.out))
            rw [show ((j + 1 : Nat) : Int) = (j : Int) + 1 by omega] at hcall
            clear hkid
            gi_wp2_with (first | (refine ⟨trivial, ?_⟩; gi_at_call 49; refine (callsIn_wide.2 hdjH.out).mono ?_; rintro e wq ⟨rfl, hwq⟩; obtain rfl := hwq.symm) | (refine ⟨trivial, ?_⟩; gi_at_call 53; refine (callsIn_wide.2 hcall.out).mono ?_; rintro e W5 (⟨rfl, hJ5, hk5, hn5⟩ | ⟨rfl, ps5, hp5, hJ5, hk5⟩)))
            · have hJ5H := Lib.hid hJ5
              have hk5H := Lib.hid hk5
              have hn5H := Lib.hid hn5
              clear hJ5 hk5 hn5
              gi_wp2
              go_roundw
              case rel =>
                refine ⟨i + 1, by omega, by go_num, ?_⟩
                rw [hT1H.out]
                refine ⟨Lib.hid ?_, Lib.hid (hkt9.out.trans' hk5H.out (fun t h => List.mem_cons_of_mem _ (hTTH.out t h))), Lib.hid (hkt19.out.trans' hk5H.out (fun t h => List.mem_cons_of_mem _ h)), Lib.hid (hkn9H.out.trans hn5H.out)⟩
                have h11 := hJH.out _ T1 _ W5 W5 hJ5H.out (ext_less W5 (fun t h => List.mem_cons_of_mem _ h))
                rw [hX1H.out, htkH.out]
                simpa using h11
              case measure => simp [intOf]; omega
            · have hJ5H := Lib.hid hJ5
              have hk5H := Lib.hid hk5
              clear hJ5 hk5
              gi_wp2
              go_ret
              refine .inr ⟨rfl, X ++ [x] ++ ps5, ?_, ?_, hkt9.out.trans' hk5H.out (fun t h => List.mem_cons_of_mem _ (hTTH.out t h))⟩
              · rw [hXAH.out]
                refine List.IsPrefix.trans ?_ hpreH.out
                rw [htkH.out]
                obtain ⟨r5, h5⟩ := hp5
                exact ⟨r5, by rw [← h5]; simp⟩
              · have h11 := hJxH.out _ T _ W5 W5 hJ5H.out (ext_less W5 (fun t h => List.mem_cons_of_mem _ (hTTH.out t h)))
                simpa using h11
        · have hJ9H := Lib.hid hJ9
          have hkt9 : Hid (Keeps T W W9) := Lib.hid (hkeep8.out.trans' hk9' (fun t h => List.mem_cons_of_mem _ (hTTH.out t h)))
          clear hJ9 hk9' hyy t0 t1 t2 t3
          have hend : TreeP n₀ S J Jx T (D.ents.flatMap (treeL f (treeM f d) ahead)) pre0 W (.returned (.bool false)) W9 := by
            refine .inr ⟨rfl, X ++ [x], ?_, ?_, hkt9.out⟩
            · rw [hXAH.out]
              refine List.IsPrefix.trans ?_ hpreH.out
              rw [htkH.out]
              exact ⟨Sb, by simp⟩
            · have h11 := hJxH.out _ T _ W9 W9 hJ9H.out (ext_less W9 (fun t h => List.mem_cons_of_mem _ (hTTH.out t h)))
              simpa using h11
          have hendH := Lib.hid hend
          clear hend
          gi_wp2
          refine ⟨trivial, ?_⟩
          gi_wp2
          all_goals first | (rename_i h1 h2; have h3 := Option.some.inj h1; exfalso; simp [undef] at h3; done) | (refine ⟨trivial, ?_⟩; gi_wp2; go_ret; exact hendH.out)
      · obtain rfl : i = m := by omega
        have hJ9 := hJr.out
        rw [← hmdH.out, List.take_length] at hJ9
        have hJ9H := Lib.hid (hJH.out _ T _ wr wr hJ9 (ext_less wr withRow_old))
        clear hJ9
        gi_wp2
        go_ret
        exact .inl ⟨rfl, hJ9H.out, hKT.out, hKN.out⟩
end
end Go.Proofs.Ytohgecmbkjienaa
/- The law's tree: all entries as a row. Condition: the tree lies as stated, and what holds along all calls holds. -/
namespace Go.Proofs.Ytohgecmbkjienaa
open Go.RowKit Go.Shelf Go.PlainAid
set_option linter.unusedVariables false
set_option linter.unusedSimpArgs false
attribute [local go_sem] Oper.semAt_some
theorem infoE : (Try.prog.info? 56).map (fun i => (i.zero, i.size, i.bytes)) = some (some (.agg #[.string ⟨#[]⟩, .int .i64 0, .int .i64 0, .string ⟨#[]⟩]), 4, 48) := by kernel_rfl
theorem tecs_len (x : Te) : (tecs x).length = 4 := rfl
theorem tecs_one (l : List Te) : ∀ u ∈ flat tecs l, u.oneCell' = true := fun u hu => by
  obtain ⟨x, _, hx⟩ := List.mem_flatMap.1 hu
  simp only [tecs, List.mem_cons, List.not_mem_nil, or_false] at hx
  rcases hx with rfl | rfl | rfl | rfl <;> rfl
section
variable {w : World} {B : Nat → Nat → Prop} {p c : Nat} {f : Fs} {sv : Value} {ps : List (Option Nat)}
set_option maxRecDepth 100000 in
theorem Tree1_stops (d n₀ b : Nat) (hd : 1 ≤ d) (S : Nat → Prop) (h : FsIs w B p f) (hw : WF c f) (hc : c ≤ 5000) (hB : ∀ i g, B i g → g < n₀ ∧ ¬ S g) (hn : n₀ ≤ w.heap.size) (hx : Blk w b 24 #[.pointer (some ⟨p, 0, none⟩)]) :
    SeqT Fence.wide d Try.prog 52 #[.pointer (some ⟨b, 0, none⟩)] encT (fun _ _ A Z => n₀ ≤ A.heap.size → KeepN n₀ S A Z) (fun xs => xs = TreeM f) (fun pre => pre <+: TreeM f) [] w := by
  intro l J Jx W hW hJ hJx hY h0
  have c0 : W.cell? ⟨b, 0, none⟩ = some (.pointer (some ⟨p, 0, none⟩)) := (blk_beneath hx hW).cell 0
  have ht := callsIn_wide.1 (tree_in (B := B) l n₀ S J Jx (TreeM f) (fun T pre x W1 hn1 hsp hj => yield_mono (yield_wide (hY T pre x W1 hsp hj)) (fun e w' h9 => h9.imp (fun h9 => ⟨h9.1, h9.2.1, h9.2.2.1, h9.2.2.2 hn1⟩) id)) hJ hJx hw hc hB 102 1 (Nat.le_refl _) 1 0 ⟨#[]⟩ [] W [] (h.below hW) .root hw.ldRoot rfl (by decide) (by have := hW.size; omega) (List.prefix_rfl) h0)
  rw [show ((1 : Nat) : Int) = 1 from rfl] at ht
  have ht := Lib.hid ht
  clear hW hJ hJx hY h0 h hw hc hB hn hx
  show CallsIn Fence.wide d Try.prog 52 #[.func (.yield l) #[] #[], .pointer (some ⟨b, 0, none⟩)] W _
  refine callsIn_of_wp Try.func52 rfl trivial ?_ rfl
  simp only [Try.ntmps52, List.size_toArray, List.length_cons, List.length_nil, Nat.reduceAdd, Nat.reduceSub, Array.replicate_succ, Array.replicate_zero, List.push_toArray, List.append_toArray, List.nil_append, List.cons_append]
  gi_wp2_with (refine ⟨trivial, ?_⟩; gi_at_call 53; refine (callsIn_wide.2 ht.out).mono ?_; rintro e W5 (⟨rfl, hJ5, _, _⟩ | ⟨rfl, ps5, hp5, hJ5, _⟩))
  · gi_wp2
    go_end0
    exact ⟨⟨_, rfl⟩, .inl ⟨[], TreeM f, rfl, hJ5⟩⟩
  · gi_wp2
    go_end0
    exact ⟨⟨_, rfl⟩, .inr ⟨[], ps5, hp5, hJ5⟩⟩
/-- What the loop holds. -/
def InvE (n₀ c : Nat) (w0 : World) (T : List Nat) (pre : List Te) (W : World) : Prop :=
  InvG n₀ (fun g => g = c) (fun _ => False) w0 T W ∧ (∀ k ∈ T, k < W.heap.size) ∧ ∃ v, Blk W c 28 #[v] ∧ W.ownsRow n₀ 56 4 v pre.length (flat tecs pre) ∧ ∀ g, v.ownBlock = some g → g ∉ T
theorem invE_abide {n₀ c : Nat} {w0 : World} (hc : c < n₀) : Abide (InvE n₀ c w0) := fun T T' pre A B ⟨h1, h0, v, h2, h3, h4⟩ he => by
  refine ⟨h1.ext (fun _ h => h.elim) he, fun k hk => ?_, v, blk_ext h2 h1.ts hc (fun h => h) he, row_keep h3 (fun g hg => he.block g (row_lt h3 hg) (h4 g hg)), fun g hg hm => ?_⟩
  · rcases he.new k hk with h5 | h5
    · exact Nat.lt_of_lt_of_le (h0 k h5) he.size
    · exact h5.2
  · rcases he.new g hm with h5 | h5
    · exact h4 g hg h5
    · have := row_lt h3 hg
      omega
theorem InvG.grown {n₀ : Nat} {X XT : Nat → Prop} {w0 W W' : World} {T : List Nat} {r : Option Nat} (h : InvG n₀ X XT w0 T W) (k : W.grownBy W' r) (hr : ∀ g, r = some g → n₀ ≤ g) : InvG n₀ X XT w0 T W' :=
  ⟨h.ts, k.os.trans h.os, k.tape.trans h.tape, k.output.trans h.output, Nat.le_trans h.n0 k.size, fun g h1 h2 => (k.block g (by have := h.n0; omega) (fun e => by have := hr g e.symm; omega)).trans (h.block g h1 h2)⟩
set_option maxRecDepth 100000 in
set_option maxHeartbeats 2000000 in
theorem tree_any_in (n : Nat) (hn : 3 ≤ n) (h : FsAt w B p f sv ps) (hw : WF c f) (hc5 : c ≤ 5000) : CallsIn Fence.wide n Try.prog 11 #[.pointer (some ⟨p, 0, none⟩)] w fun e w' => ∃ v, e = .returned v ∧ w'.ownsRow w.heap.size 56 4 v (TreeM f).length (flat tecs (TreeM f)) ∧ Below w.heap.size w w' := by
  have h1 : 1 ≤ n := by omega
  have hpl := h.lt 0 p h.bp
  obtain ⟨c, hc⟩ : ∃ c, w.heap.size = c := ⟨_, rfl⟩
  obtain ⟨w0, hw0⟩ : ∃ x, (w.alloc (.cells #[.slice none 0 0] 28)).alloc (.cells #[.pointer (some ⟨p, 0, none⟩)] 24) = x := ⟨_, rfl⟩
  have hb0 : Below w.heap.size w w0 := by rw [← hw0]; exact (alB _ _).alloc (by simp) _
  have hs0 : w0.heap.size = c + 2 := by rw [← hw0]; simp [hc]
  have kc : Blk w0 c 28 #[.slice none 0 0] := by rw [← hw0, ← hc]; exact (Blk.new _ _ _).alloc _
  have kb : Blk w0 (c + 1) 24 #[.pointer (some ⟨p, 0, none⟩)] := by rw [← hw0]; exact newB _ _ _ (by simp [hc])
  have h0 := h.below hb0
  have hBB : ∀ i g, B i g → g < w0.heap.size ∧ ¬ g = c := fun i g hg => by have := h.lt i g hg; omega
  have hTl := TreeM_len hw hc5
  obtain ⟨i0, hi0, hz0, hz1, hz2⟩ := info_parts infoE
  have hst := Tree1_stops (n - 1) w0.heap.size (c + 1) (by omega) (fun g => g = c) ⟨sv, ps, h0⟩ hw hc5 hBB (Nat.le_refl _) kb
  obtain ⟨TM, hTM⟩ : ∃ TM, TreeM f = TM := ⟨_, rfl⟩
  rw [hTM] at hst hTl ⊢
  have hw0H := Lib.hid hw0
  have hb0H := Lib.hid hb0
  have hcH := Lib.hid hc
  have hstH := Lib.hid hst
  have hi0H := Lib.hid hi0
  have htlH := Lib.hid hTl
  clear h hw0 hb0 h0 hBB hw hst hTM
  refine callsIn_of_wp_marks Try.func11 rfl trivial ?_ rfl
  simp only [Try.ntmps11, List.size_toArray, List.length_cons, List.length_nil, Nat.reduceAdd, Nat.reduceSub, Array.replicate_succ, Array.replicate_zero, List.push_toArray, List.append_toArray, List.nil_append, List.cons_append]
  gi_wp2_with (refine ⟨trivial, ?_⟩; gi_at_call 25; refine (callsIn_wide.2 (Tree_any (some p) _)).mono ?_; rintro e w' ⟨rfl, rfl⟩)
  rw [show ptrV (some p) = Value.pointer (some ⟨p, 0, none⟩) from rfl, hw0H.out]
  apply range_law rfl h1 (gf := 52) (lb := #[.pointer (some ⟨c + 1, 0, none⟩)]) rfl trivial (enters_of Try.func52 (by kernel_rfl) rfl)
    hstH.out (fun k hk => by cases hk) (fun pre x A B k o o' hk h hn => keepN_b hk (h (by simpa [World.putObj] using hn))) (Below.refl _ _) (fun _ => rfl)
    (InvE w0.heap.size c w0) (fun _ _ _ _ => False) (invE_abide (by omega)) (fun _ _ _ _ _ _ h _ => h) ⟨InvG.start (fun k hk => by cases hk) (Nat.le_refl _), (fun k hk => by cases hk), _, kc, World.ownsRow_nil _ _ _ _, fun g hg => by simp [Value.ownBlock] at hg⟩
    (fun x W => { tmps := #[.pointer (some ⟨p, 0, none⟩), undef, .slice none 0 0, .pointer (some ⟨c, 0, none⟩), .pointer (some ⟨W.heap.size, 0, none⟩), .pointer (some ⟨p, 0, none⟩), .func (.func 52) #[] #[.pointer (some ⟨c + 1, 0, none⟩)], .agg #[.string x.path, .int .i64 x.kind, .int .i64 x.mode, .string x.data], undef, undef, undef, undef, undef], defers := [] }) (fun x W => W.alloc (.cells #[.string x.path, .int .i64 x.kind, .int .i64 x.mode, .string x.data] 56)) (fun x W => alB W _) ?ka ?assign ?body ?done ?stop
  case ka => exact fun pre x A B hk hn => keepN_of hn (alB A _) |>.trans (hk (by simp; omega))
  case assign =>
    intro l x W K hK
    dsimp only [encT]
    gi_wp2
    simpa using hK
  case body =>
    intro l T pre x W W' o hsp hiW hlW hW' ⟨hI, hTl2, v, hC, hR, hT⟩
    obtain ⟨av, cv, rfl⟩ := ownsRow_slice hR
    have hpl2 : pre.length + 1 ≤ 505000 := by
      have h9 := hsp.length_le
      rw [List.length_append] at h9
      have := htlH.out
      simp at h9
      omega
    obtain ⟨k, hk⟩ : ∃ k, pre.length = k := ⟨_, rfl⟩
    obtain ⟨q, hq⟩ : ∃ q, W.heap.size = q := ⟨_, rfl⟩
    have hB4 : Blk W' q 56 #[.string x.path, .int .i64 x.kind, .int .i64 x.mode, .string x.data] := by
      rw [hW']
      exact (World.putObj_heap_other (by omega)).trans (newB W _ q hq)
    rw [hk] at hR hpl2 hC
    rw [hq]
    have hnI := hI.n0
    have y0 : W'.cell? ⟨c, 0, none⟩ = some (.slice av k cv) := hC.cell 0
    have g0 : W'.frozen? ⟨c, 0, none⟩ = false := hC.frozen 0
    have e0 : W'.cell? ⟨q, 0, none⟩ = some (.string x.path) := hB4.cell 0
    have e1 : W'.cell? ⟨q, 1, none⟩ = some (.int .i64 x.kind) := hB4.cell 1
    have e2 : W'.cell? ⟨q, 2, none⟩ = some (.int .i64 x.mode) := hB4.cell 2
    have e3 : W'.cell? ⟨q, 3, none⟩ = some (.string x.data) := hB4.cell 3
    obtain ⟨W2, hW2⟩ : ∃ W2, W'.alloc (.cells #[.string x.path, .int .i64 x.kind, .int .i64 x.mode, .string x.data] 56) = W2 := ⟨_, rfl⟩
    have hb2 : Below W'.heap.size W' W2 := by rw [← hW2]; exact alB _ _
    have hI2 := Lib.hid (hI.below hb2)
    have hR2 := Lib.hid (show W2.ownsRow w0.heap.size 56 4 (.slice av k cv) k (flat tecs pre) by rw [← hW2]; exact hR.alloc _)
    have hN2 := Lib.hid (show Blk W2 W'.heap.size 56 #[.string x.path, .int .i64 x.kind, .int .i64 x.mode, .string x.data] by rw [← hW2]; exact Blk.new _ _ _)
    have hC2 := Lib.hid (show Blk W2 c 28 #[.slice av k cv] by rw [← hW2]; exact hC.alloc _)
    have hs2 : W2.heap.size = W'.heap.size + 1 := by rw [← hW2]; simp
    have hb2H := Lib.hid hb2
    have hTH := Lib.hid hT
    have hTlH := Lib.hid hTl2
    have hIH := Lib.hid hI
    have hRH := Lib.hid hR
    have hkH := Lib.hid hk
    have hcW : c < W'.heap.size := hC.lt
    clear hW' hI hR hC hT hTl2 hiW hsp hB4 hb2 hk
    gi_wp2_with (first | rw [hW2] | (gi_at_builtin; refine wpListIn_append_own_at _ rfl _ _ 28 rfl w0.heap.size 56 i0 _ 4 48 Try.underlying28 hi0H.out hz0 hz1 hz2 rfl (by decide) (.slice av k cv) k (flat tecs pre) (by rfl) hR2.out ⟨W'.heap.size, 0, none⟩ 1 1 (tecs x) (by rfl) (by rfl) (fun j u hj => (by rw [Addr.add_lit, Nat.zero_add, hN2.out.cell j]; simpa [tecs] using hj)) (fun u hu => tecs_one [x] u (by simpa [flat] using hu)) (by unfold maxLen; omega) (by omega) (by omega) ?_; intro v5 w5 hown5 hgr5 _ hat5; obtain ⟨a5, c5, rfl⟩ := ownsRow_slice hown5; have hgrH := Lib.hid hgr5; have hownH := Lib.hid hown5; have hatH := Lib.hid hat5; have hC5 := (hgr5.block c (by omega) (fun e => by have := row_ge hR2.out e.symm; omega)).trans hC2.out; have y5 : w5.cell? ⟨c, 0, none⟩ = some (.slice av k cv) := Blk.cell hC5 0; have g5 : w5.frozen? ⟨c, 0, none⟩ = false := Blk.frozen hC5 0; have hC5H := Lib.hid hC5; clear hown5 hgr5 hat5 hC5))
    have hrow : ∀ g, (Value.slice av k cv).ownBlock = some g → w0.heap.size ≤ g ∧ g < W'.heap.size ∧ g ∉ T := fun g hg => ⟨row_ge hRH.out hg, row_lt hRH.out hg, hTH.out g (by rw [hkH.out]; exact hg)⟩
    have hnew : ∀ g, (Value.slice a5 (k + 1) c5).ownBlock = some g → w0.heap.size ≤ g ∧ g ∉ T := fun g hg => by
      rcases hatH.out with h9 | h9
      · have h10 := hrow g (by rw [← h9]; exact hg)
        exact ⟨h10.1, h10.2.2⟩
      · rw [hg] at h9
        have h10 : g = W2.heap.size := Option.some.inj h9
        exact ⟨by omega, fun hm => by have := hTlH.out g hm; omega⟩
    have hfar : ∀ g, g < W'.heap.size → (Value.slice av k cv).ownBlock ≠ some g → g ≠ c → (w5.setCell ⟨c, 0, none⟩ (.slice a5 (k + 1) c5)).heap[g]? = W'.heap[g]? := fun g h1 h2 h3 =>
      (Below.heap_setCell _ _ _ _ (fun e => h3 e)).trans ((hgrH.out.block g (by omega) (fun e => h2 e.symm)).trans (hb2H.out.block g h1))
    have hsz : W'.heap.size ≤ (w5.setCell ⟨c, 0, none⟩ (.slice a5 (k + 1) c5)).heap.size := by
      rw [World.size_setCell]
      have := hgrH.out.size
      omega
    refine ⟨⟨(hI2.out.grown hgrH.out (fun g hg => (hrow g hg).1)).set (.inl rfl) _, fun t ht => Nat.lt_of_lt_of_le (hTlH.out t ht) hsz, .slice a5 (k + 1) c5, ?_, ?_, fun g hg => (hnew g hg).2⟩, ⟨hsz, fun t ht hl => hfar t hl (fun e => (hrow t e).2.2 ht) (fun e => ?_)⟩, fun hn5 => ⟨hsz, fun g hg hgc => hfar g (by omega) (fun e => by have := (hrow g e).1; omega) hgc⟩⟩
    · exact Blk.set_ hC5H.out 0 _
    · have h9 := hownH.out
      rw [show (pre ++ [x]).length = k + 1 by rw [List.length_append, hkH.out]; rfl, show flat tecs (pre ++ [x]) = flat tecs pre ++ tecs x by rw [flat_append]; simp [flat]]
      exact row_keep h9 (fun g hg => Below.heap_setCell _ _ _ _ (fun e => by have := (hnew g hg).1; have e' : g = c := e; omega))
    · rcases hIH.out.ts t ht with h9 | h9
      · omega
      · exact h9
  case done =>
    rintro D T xs W hD hDT rfl ⟨hI, _, v, hC, hR, hT⟩ hK
    have y0 : W.cell? ⟨c, 0, none⟩ = some v := hC.cell 0
    have hIH := Lib.hid hI
    have hKH := Lib.hid hK
    have hRH := Lib.hid hR
    have hTH := Lib.hid hT
    clear hI hK hC hR hT
    gi_wp2
    refine ⟨by simp, .inl ⟨_, _, rfl, run_takeDeferred hKH.out, ?_⟩⟩
    refine ⟨_, results_tmp rfl _ _ _, v, rfl, ?_, ?_⟩
    · refine row_weak (row_keep hRH.out (fun g hg => World.putObj_heap_other (fun e => hTH.out g hg (e ▸ hDT)))) (by omega)
    · exact (hIH.out.toBelow hb0H.out (fun g hg => by have := hcH.out; omega) (Nat.le_refl _)).trans (belowK_b (w := w) (Nat.le_refl _) W D _ _ (by rw [hs0] at hD; have := hcH.out; omega) hKH.out rfl rfl)
  case stop =>
    rintro D c T pre W _ _ _ h _
    exact h.elim
end
end Go.Proofs.Ytohgecmbkjienaa
/- Same: of two rows of the same entries. Condition: the rows lie as stated. -/
namespace Go.Proofs.Ytohgecmbkjienaa
open Go.RowKit Go.Shelf Go.PlainAid
set_option linter.unusedVariables false
set_option linter.unusedSimpArgs false
attribute [local go_sem] Oper.semAt_some
theorem below_drewN {n : Nat} {w w2 : World} (h : Below n w w2) (k : Nat) : Below n w (w2.drewN k) := ⟨h.os, h.tape, h.output, h.size, h.block⟩
theorem entry_at {W : World} {base : Nat} {a : Option Addr} {c m : Nat} {l : List Te} (h : W.ownsRow base 56 4 (.slice a m c) l.length (flat tecs l)) {i : Nat} {x : Te} (hx : l[i]? = some x) : ∃ g, a = some ⟨g, 0, none⟩ ∧ g < W.heap.size ∧ W.cell? ⟨g, i * 4, none⟩ = some (.string x.path) ∧ W.cell? ⟨g, i * 4 + 1, none⟩ = some (.int .i64 x.kind) ∧ W.cell? ⟨g, i * 4 + 2, none⟩ = some (.int .i64 x.mode) ∧ W.cell? ⟨g, i * 4 + 3, none⟩ = some (.string x.data) := by
  obtain ⟨g, cap, e, _, h1, _⟩ := row_at tecs_len h hx
  obtain ⟨rfl, _⟩ : a = some ⟨g, 0, none⟩ ∧ _ := by simpa using e
  have c0 := h1 0 _ rfl
  exact ⟨g, rfl, block_of_cell c0, c0, h1 1 _ rfl, h1 2 _ rfl, h1 3 _ rfl⟩
set_option maxRecDepth 100000 in
set_option maxHeartbeats 2000000 in
theorem same_any {w : World} {b1 b2 : Nat} {v1 v2 : Value} {l : List Te} (h1 : w.ownsRow b1 56 4 v1 l.length (flat tecs l)) (h2 : w.ownsRow b2 56 4 v2 l.length (flat tecs l)) (hl : l.length ≤ 1000000) :
    Calls Try.prog 15 #[v1, v2] w fun e w' => e = .returned (.bool true) ∧ Below w.heap.size w w' := by
  obtain ⟨a1, c1, rfl⟩ := ownsRow_slice h1
  obtain ⟨a2, c2, rfl⟩ := ownsRow_slice h2
  obtain ⟨n, hn⟩ : ∃ n, l.length = n := ⟨_, rfl⟩
  have h1H := Lib.hid h1
  have h2H := Lib.hid h2
  have hnH := Lib.hid hn
  rw [hn] at hl ⊢
  clear h1 h2 hn
  go_enter Try.func15, Try.ntmps15
  go_wp2
  go_loopw [5] (fun s5 wr => ∃ i : Nat, i ≤ n ∧ s5 = .int .i64 i ∧ Hid (Below w.heap.size w wr)) (fun s5 _ => n - (intOf s5).toNat)
  case atStart => exact ⟨0, Nat.zero_le _, by go_num, Lib.hid (Below.refl _ _)⟩
  case round =>
    obtain ⟨i, hi, rfl, hb⟩ := hrel
    by_cases hlt : i < n
    · obtain ⟨x, hx⟩ : ∃ x, l[i]? = some x := ⟨_, List.getElem?_eq_getElem (by have := hnH.out; omega)⟩
      obtain ⟨g, rfl, hg, p0, p1, p2, p3⟩ := entry_at (row_beneath h1H.out hb.out) hx
      obtain ⟨g2, rfl, hg2, q0, q1, q2, q3⟩ := entry_at (row_beneath h2H.out hb.out) hx
      clear hx
      go_upto_region 6 with (fail)
      go_quiet (fail)
      go_wp2_with fail
      go_roundw
      case rel => exact ⟨i + 1, by omega, by go_num, Lib.hid (below_drewN hb.out _)⟩
      case measure => simp [intOf]; omega
    · obtain rfl : i = n := by omega
      go_wp2
      go_ret
      exact ⟨rfl, hb.out⟩
end Go.Proofs.Ytohgecmbkjienaa
