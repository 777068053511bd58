/- A here-document's body is told as it stands: plain part of LexDocs. No condition. -/
import Derived.Test.YtkakphiofahlgaaDoorLxLn
namespace Go.Proofs.YtkakphiofahlgaaDoor
open Go.RowKit Go.PlainAid

theorem ext_of {s z : ByteArray} {A i j : Nat} (h : ∀ x, i ≤ x → x < j → z.data.toList[A + x]? = s.data.toList[x]?) : z.extract (A + i) (A + j) = s.extract i j := by
  refine ba_data ?_
  rw [Lib.extract_data, Lib.extract_data]
  refine List.ext_getElem? fun k => ?_
  rw [List.getElem?_take, List.getElem?_take, List.getElem?_drop, List.getElem?_drop]
  by_cases hk : k < j - i
  · rw [if_pos (by omega), if_pos hk, Nat.add_assoc]
    exact h (i + k) (by omega) (by omega)
  · rw [if_neg (by omega), if_neg hk]

/-- The text ahead of the body, its end, the delimiter, the line that is it. -/
def hdC : ByteArray := ⟨#[99, 97, 116, 32, 60, 60, 39, 84, 72, 69, 32, 69, 78, 68, 39, 32, 120, 10]⟩
def tlC : ByteArray := ⟨#[84, 72, 69, 32, 69, 78, 68, 10, 114, 101, 115, 116]⟩
def teC : ByteArray := ⟨#[84, 72, 69, 32, 69, 78, 68]⟩
def tnC : ByteArray := ⟨#[84, 72, 69, 32, 69, 78, 68, 10]⟩
def dtk2 : Tk := ⟨1, ⟨#[39, 84, 72, 69, 32, 69, 78, 68, 39]⟩, 6, ⟨#[]⟩, false⟩
def dtk3 : Tk := ⟨1, ⟨#[120]⟩, 16, ⟨#[]⟩, false⟩
def dtks (t : Tk) : List Tk := [⟨1, ⟨#[99, 97, 116]⟩, 0, ⟨#[]⟩, false⟩, ⟨2, ⟨#[60, 60]⟩, 4, ⟨#[]⟩, false⟩, t, dtk3, ⟨3, ⟨#[10]⟩, 17, ⟨#[]⟩, false⟩]
theorem hd_line : lineM hdC hdC.size ⟨0, [], []⟩ = (0, 0, ⟨18, dtks dtk2, [(2, false)]⟩) := by kernel_rfl
theorem hd_unq : unqM dtk2.text = ([84, 72, 69, 32, 69, 78, 68], true) := by kernel_rfl
theorem hd_last : bt hdC 17 = 10 := by kernel_rfl
theorem hd_size : hdC.size = 18 := rfl
theorem tl_size : tlC.size = 12 := rfl

section
variable {B : ByteArray}
theorem z_get {i : Nat} : (hdC ++ B ++ tlC).data.toList[i]? = if i < 18 then hdC.data.toList[i]? else if i < 18 + B.size then B.data.toList[i - 18]? else tlC.data.toList[i - (18 + B.size)]? := by
  rw [ByteArray.data_append, ByteArray.data_append, Array.toList_append, Array.toList_append]
  have h1 : hdC.data.toList.length = 18 := rfl
  have h2 : B.data.toList.length = B.size := (Lib.size_eq B).symm
  by_cases hi : i < 18
  · rw [if_pos hi, List.getElem?_append_left (by rw [List.length_append, h1]; omega), List.getElem?_append_left (by omega)]
  · rw [if_neg hi]
    by_cases hj : i < 18 + B.size
    · rw [if_pos hj, List.getElem?_append_left (by rw [List.length_append, h1, h2]; omega), List.getElem?_append_right (by omega), h1]
    · rw [if_neg hj, List.getElem?_append_right (by rw [List.length_append, h1, h2]; omega), List.length_append, h1, h2]
theorem z_size : (hdC ++ B ++ tlC).size = 30 + B.size := by
  rw [ByteArray.size_append, ByteArray.size_append, hd_size, tl_size]; omega
theorem z_line : lineM (hdC ++ B ++ tlC) (hdC ++ B ++ tlC).size ⟨0, [], []⟩ = (0, 0, ⟨18, dtks dtk2, [(2, false)]⟩) := by
  have hA : Agr hdC (hdC ++ B ++ tlC) 0 18 := ⟨fun i hi => by rw [Nat.zero_add, z_get, if_pos hi], Nat.le_refl _, by rw [z_size]; omega, by decide, hd_last⟩
  have hnl : NL ⟨18, dtks dtk2, [(2, false)]⟩ := ⟨⟨3, ⟨#[10]⟩, 17, ⟨#[]⟩, false⟩, rfl, rfl⟩
  have hn0 : ¬ NL ⟨0, [], []⟩ := by rintro ⟨u, hu, _⟩; simp at hu
  have h := line_agr hA hdC.size ⟨0, [], []⟩ (hdC ++ B ++ tlC).size ⟨0, [], []⟩ ⟨rfl, rfl, rfl⟩ (Nat.zero_le _) hn0
  rw [hd_line] at h
  obtain ⟨r, h1, h2⟩ := h rfl hnl rfl (by rw [z_size]; show 18 ≤ 0 + _; omega)
  rw [h1]
  obtain ⟨p, ts, ds⟩ := r
  obtain ⟨e1, e2, e3⟩ := h2
  have e1' : p = 18 := e1
  have e2' : ts = dtks dtk2 := e2
  have e3' : ds = [(2, false)] := e3
  rw [e1', e2', e3']
/-- Empty, or closed by a byte 10. -/
def Closed (B : ByteArray) : Prop := B.size = 0 ∨ bt B (B.size - 1) = 10
theorem ext_snoc {k o : Nat} (h : B.data.toList[k + o]? = some 10) : (B.extract k (k + o + 1)).data.toList = (B.extract k (k + o)).data.toList ++ [10] := by
  rw [Lib.extract_data, Lib.extract_data, show k + o + 1 - k = o + 1 by omega, show k + o - k = o by omega, List.take_add_one, List.getElem?_drop, h]
  rfl
theorem drop_line {k o : Nat} (h : B.data.toList[k + o]? = some 10) : B.data.toList.drop k = (B.extract k (k + o)).data.toList ++ [10] ++ B.data.toList.drop (k + o + 1) := by
  rw [← ext_snoc h, Lib.extract_data, show k + o + 1 - k = o + 1 by omega]
  conv => lhs; rw [← List.take_append_drop (o + 1) (B.data.toList.drop k)]
  rw [List.drop_drop]
  congr 2
theorem z_tail : docM (hdC ++ B ++ tlC) teC false 1 (18 + B.size) [] = (some [], 18 + B.size + 8) ∧ ∀ (f : Nat) (acc : List UInt8), docM (hdC ++ B ++ tlC) teC false (f + 1) (18 + B.size) acc = (some acc, 18 + B.size + 8) := by
  have hl : lnM (hdC ++ B ++ tlC) (18 + B.size) = (7 : Nat) := idx_of (by rw [z_size]; omega)
    (by rw [z_get, if_neg (by omega), if_neg (by omega), show 18 + B.size + 7 - (18 + B.size) = 7 by omega]; rfl)
    (fun j hj => by
      rw [z_get, if_neg (by omega), if_neg (by omega), show 18 + B.size + j - (18 + B.size) = j by omega]
      have : ∀ j, j < 7 → tlC.data.toList[j]? ≠ some 10 := by decide
      exact this j hj)
  have hr : remN (hdC ++ B ++ tlC) (18 + B.size) = 18 + B.size + 7 := by unfold remN; rw [hl, if_pos (by omega)]; rfl
  have hw : isWhole (hdC ++ B ++ tlC) (18 + B.size) = true := by unfold isWhole; rw [hl]; exact decide_eq_true (by omega)
  have hn : nextN (hdC ++ B ++ tlC) (18 + B.size) = 18 + B.size + 8 := by unfold nextN; rw [hw, if_pos rfl, hr]
  have hb : dLine (hdC ++ B ++ tlC) (18 + B.size) false = teC := by
    unfold dLine lineB
    rw [if_neg (by decide), hr]
    have := ext_of (s := tlC) (z := hdC ++ B ++ tlC) (A := 18 + B.size) (i := 0) (j := 7) (fun x _ hx => by rw [z_get, if_neg (by omega), if_neg (by omega), show 18 + B.size + x - (18 + B.size) = x by omega])
    rw [Nat.add_zero] at this
    rw [this]
    rfl
  have key : ∀ (f : Nat) (acc : List UInt8), docM (hdC ++ B ++ tlC) teC false (f + 1) (18 + B.size) acc = (some acc, 18 + B.size + 8) := fun f acc => by
    rw [doc_done (by rw [z_size]; omega) (by rw [hb]; exact beq_self_eq_true _), hn]
  exact ⟨key 0 [], key⟩
theorem z_doc (hs : B.size ≤ 1000000) (hc : Closed B) : ∀ (d k f : Nat) (acc : List UInt8), B.size - k ≤ d → k ≤ B.size → 30 + B.size ≤ 18 + k + f → (∀ l ∈ linesAt B hs k, l.1 ≠ tnC) →
    docM (hdC ++ B ++ tlC) teC false f (18 + k) acc = (some (acc ++ B.data.toList.drop k), 18 + B.size + 8) := by
  intro d
  induction d with
  | zero =>
    intro k f acc hd hk hf _
    obtain rfl : k = B.size := by omega
    obtain ⟨g, rfl⟩ : ∃ g, f = g + 1 := ⟨f - 1, by omega⟩
    rw [z_tail.2, List.drop_of_length_le (by rw [← Lib.size_eq]; exact Nat.le_refl _), List.append_nil]
  | succ d ih =>
    intro k f acc hd hk hf hno
    obtain ⟨g, rfl⟩ : ∃ g, f = g + 1 := ⟨f - 1, by omega⟩
    by_cases hkB : k < B.size
    · have hw : 0 ≤ lnM B k := by
        by_cases h0 : 0 ≤ lnM B k
        · exact h0
        · exfalso
          rcases hc with h | h
          · omega
          · exact no_nl h0 (show k ≤ B.size - 1 by omega) (by omega) h
      obtain ⟨o, ho⟩ : ∃ o : Nat, lnM B k = o := ⟨(lnM B k).toNat, by omega⟩
      have hlt := lnM_lt hw
      rw [ho] at hlt
      have hlt' : k + o < B.size := hlt
      obtain ⟨g1, g2⟩ := Lib.indexByte_some ho
      rw [rest_get hlt'] at g1
      have hl : lnM (hdC ++ B ++ tlC) (18 + k) = o := idx_of (by rw [z_size]; omega)
        (by rw [z_get, if_neg (by omega), if_pos (by omega), show 18 + k + o - 18 = k + o by omega]; exact g1)
        (fun j hj => by
          rw [z_get, if_neg (by omega), if_pos (by omega), show 18 + k + j - 18 = k + j by omega]
          have := g2 j hj
          rwa [rest_get (by omega)] at this)
      have hr : remN (hdC ++ B ++ tlC) (18 + k) = 18 + k + o := by unfold remN; rw [hl, if_pos (by omega)]; rfl
      have hwz : isWhole (hdC ++ B ++ tlC) (18 + k) = true := by unfold isWhole; rw [hl]; exact decide_eq_true (by omega)
      have hn : nextN (hdC ++ B ++ tlC) (18 + k) = 18 + (k + o + 1) := by unfold nextN; rw [hwz, if_pos rfl, hr]; omega
      have hb : dLine (hdC ++ B ++ tlC) (18 + k) false = B.extract k (k + o) := by
        unfold dLine lineB
        rw [if_neg (by decide), hr, Nat.add_assoc]
        exact ext_of (fun x h1 h2 => by rw [z_get, if_neg (by omega), if_pos (by omega), show 18 + x - 18 = x by omega])
      have hle : lineEnd B k = k + o + 1 := by
        have ho' : nl B k = o := ho
        unfold lineEnd; rw [ho', if_pos (by omega)]; rfl
      rw [linesAt_step B hs k hkB] at hno
      have hne : ((B.extract k (k + o)).toList == teC.toList) = false := by
        cases hE : ((B.extract k (k + o)).toList == teC.toList)
        · rfl
        · exfalso
          refine hno _ (List.mem_cons_self ..) ?_
          show B.extract k (lineEnd B k) = tnC
          rw [hle]
          refine ba_data ?_
          have h9 := eq_of_beq hE
          rw [ByteArray.toList_eq, ByteArray.toList_eq] at h9
          rw [ext_snoc g1, h9]
          rfl
      rw [doc_on (by rw [z_size]; omega) (by rw [hb]; exact hne), hb, hn]
      rw [ih (k + o + 1) g _ (by omega) (by omega) (by omega) (fun l hl2 => hno l (List.mem_cons_of_mem _ (by rw [hle]; exact hl2)))]
      rw [drop_line g1]
      simp only [List.append_assoc]
    · obtain rfl : k = B.size := by omega
      rw [z_tail.2, List.drop_of_length_le (by rw [← Lib.size_eq]; exact Nat.le_refl _), List.append_nil]
/-- The law's plain part. -/
theorem top_docs (hs : B.size ≤ 1000000) (h4 : B.size ≤ 5000) (hc : Closed B) (hno : ∀ l ∈ linesOf B hs, l.1 ≠ tnC) :
    topM (hdC ++ B ++ tlC) 0 = ⟨dtks (dtk2.told B true), 26 + B.size, 0, 0⟩ := by
  have ht : topM (hdC ++ B ++ tlC) 0 = atM (hdC ++ B ++ tlC) 0 := by unfold topM; rw [if_neg (by rw [z_size]; omega), if_neg (by omega)]; rfl
  have hdoc := z_doc hs hc B.size 0 (hdC ++ B ++ tlC).size [] (by omega) (Nat.zero_le _) (by rw [z_size]; omega) hno
  have he : (⟨(unqM dtk2.text).1.toArray⟩ : ByteArray) = teC := by rw [hd_unq]; rfl
  have hd2 : docM (hdC ++ B ++ tlC) ⟨(unqM dtk2.text).1.toArray⟩ (2, false).2 (hdC ++ B ++ tlC).size 18 [] = (some (B.data.toList), 26 + B.size) := by
    rw [he]
    rw [Nat.add_zero, List.nil_append, List.drop_zero] at hdoc
    rw [show 26 + B.size = 18 + B.size + 8 by omega]
    exact hdoc
  have hon := docs_on (s := hdC ++ B ++ tlC) (d := (2, false)) (ds := []) (ts := dtks dtk2) (i := 18) (t := dtk2) rfl hd2
  have hfin : docsM (hdC ++ B ++ tlC) [(2, false)] (dtks dtk2) 18 = (0, 0, dtks (dtk2.told B true), 26 + B.size) := by
    rw [hon, hd_unq]
    show (0, 0, (dtks dtk2).set 2 _, 26 + B.size) = _
    have hB : (⟨B.data.toList.toArray⟩ : ByteArray) = B := by cases B; simp
    rw [hB]
    rfl
  rw [ht, at_ok z_line hfin]
end
end Go.Proofs.YtkakphiofahlgaaDoor
