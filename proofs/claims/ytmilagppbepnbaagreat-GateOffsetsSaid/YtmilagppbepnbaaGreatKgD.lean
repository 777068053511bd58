/- The kernel: its registers turn: put, cut. Condition: the kernel lies as stated. -/
import Derived.Test.YtmilagppbepnbaaGreatKgC
namespace Go.Proofs.YtmilagppbepnbaaGreat.Kn
open Go.RowKit Go.PlainAid
set_option linter.unusedVariables false
set_option linter.unusedSimpArgs false
attribute [local go_sem] Oper.semAt_some
theorem ask_app {X : Type} {l : List (Nat × X)} {n : Nat} {x : X} (h : ∀ p ∈ l, p.1 ≠ n) (m : Nat) : ask (l ++ [(n, x)]) m = if m = n then some x else ask l m := by
  induction l with
  | nil => show (if n = m then some x else none) = if m = n then some x else none
           by_cases e : n = m
           · rw [if_pos e, if_pos e.symm]
           · rw [if_neg e, if_neg (fun k => e k.symm)]
  | cons p t ih =>
    have hp := h p (List.mem_cons_self ..)
    rw [List.cons_append]
    unfold ask
    rw [ih (fun r hr => h r (List.mem_cons_of_mem _ hr))]
    by_cases em : m = n
    · subst em; rw [if_neg hp, if_pos rfl, if_pos rfl]
    · rw [if_neg em, if_neg em]
theorem app_ord {X : Type} {l : List (Nat × X)} {n : Nat} {x : X} (h : OrdK l) (hn : ∀ p ∈ l, p.1 < n) : OrdK (l ++ [(n, x)]) := by
  unfold OrdK at *
  rw [List.map_append, List.pairwise_append]
  refine ⟨h, List.pairwise_singleton _ _, fun a ha b hb => ?_⟩
  obtain ⟨p, hp, rfl⟩ := List.mem_map.1 ha
  obtain rfl : b = n := by simpa using hb
  exact hn p hp
def upN (b : Nat → Nat) (n v : Nat) : Nat → Nat := fun m => if m = n then v else b m
theorem rows_app {X : Type} {l : List (Nat × X)} {n : Nat} {x : X} (b : Nat → Nat) (v : Nat) (hn : ∀ p ∈ l, p.1 ≠ n) : rowsOf (l ++ [(n, x)]) (upN b n v) = rowsOf l b ++ [(n, v)] := by
  unfold rowsOf upN
  rw [List.map_append]
  congr 1
  · exact List.map_congr_left (fun p hp => by rw [if_neg (hn p hp)])
  · simp
theorem cut1_len {X : Type} (l : List (Nat × X)) (n : Nat) (b : Nat → Nat) : (rowsOf (cut1 l n) b).length = (cut1 l n).length := rows_len _ _
theorem cut1_mem {X : Type} {l : List (Nat × X)} {n : Nat} {p : Nat × X} (h : p ∈ cut1 l n) : p ∈ l := (List.mem_filter.1 h).1
section
variable {w w' : World} {B : Ix → Nat → Prop} {q : Nat} {K : Ker} {M : Mp}
/-- A part that nothing speaks of is given blocks. -/
theorem give (h : KerIs w B q K M) (i : Ix) {S : Nat → Prop} (hv : Part K M q w S i) (hd : ∀ j g, B j g → ¬ S g) (hl : ∀ g, S g → g < w.heap.size) : KerIs w (upX B i S) q K M := by
  refine ⟨fun j => ?_, fun a b g ha hb => ?_, fun a g ha => ?_, h.num⟩
  · by_cases e : j = i
    · subst e; rw [upX_self]; exact hv
    · rw [upX_ne B e]; exact h.part j
  · unfold upX at ha hb
    split at ha
    · split at hb
      · rename_i e1 e2; rw [e1, e2]
      · exact absurd ha (hd _ _ hb)
    · split at hb
      · exact absurd hb (hd _ _ ha)
      · exact h.apart _ _ _ ha hb
  · unfold upX at ha
    split at ha
    · exact hl g ha
    · exact h.lt _ _ ha
theorem row_apart {w : World} {t u : TypeId} {a b : Nat} {v z : Value} {n m : Nat} {xs ys : List Value} (h : w.ownsRow 0 t a v n xs) (k : w.ownsRow 0 u b z m ys) (hne : t ≠ u) {g : Nat} (hg : v.ownBlock = some g) : ¬ z.ownBlock = some g := by
  intro hz
  rcases h.2 with ⟨rfl, _⟩ | ⟨g1, c1, cur1, rfl, _, hb1, _⟩
  · simp [Value.ownBlock] at hg
  · rcases k.2 with ⟨rfl, _⟩ | ⟨g2, c2, cur2, rfl, _, hb2, _⟩
    · simp [Value.ownBlock] at hz
    · obtain rfl : g1 = g := by simpa [Value.ownBlock] using hg
      obtain rfl : g2 = g1 := by simpa [Value.ownBlock] using hz
      rw [hb1] at hb2
      simp at hb2
      exact hne hb2.2

/- register R -/
def putR (K : Ker) (x : Prc) : Ker := { K with procs := K.procs ++ [(K.lastR + 1, x)], lastR := K.lastR + 1 }
def mpR (M : Mp) (K : Ker) (b tb : Nat) : Mp := { M with br := upN M.br (K.lastR + 1) b, bt := upN M.bt (K.lastR + 1) tb }
theorem nmbPR (h : Nmb K) (x : Prc) (hl : K.lastR < 90000) : Nmb (putR K x) := by
  have h1 : ∀ p ∈ K.procs, p.1 < K.lastR + 1 := fun p hp => Nat.lt_succ_of_le (h.lr p hp).2
  have h2 := app_ord (x := x) h.or_ h1
  have h3 : ∀ p ∈ K.procs ++ [(K.lastR + 1, x)], 1 ≤ p.1 ∧ p.1 ≤ K.lastR + 1 := fun p hp => by
    rcases List.mem_append.1 hp with hp | hp
    · have := h.lr p hp; omega
    · obtain rfl : p = (K.lastR + 1, x) := by simpa using hp
      exact ⟨by simp, Nat.le_refl _⟩
  exact ⟨h.ox, h.od, h2, h.lx, h.ld, h3, h.bx, h.bd, (by show K.lastR + 1 ≤ 90000; omega)⟩
set_option maxHeartbeats 1000000 in
theorem putR_any (h : KerIs w B q K M) {S : Nat → Prop} {b tb : Nat} {x : Prc} (hx : PrcAt w S b tb x) (hd : ∀ j g, B j g → ¬ S g) (hl : ∀ g, S g → g < w.heap.size) (hlast : K.lastR < 90000) :
    Calls Tryz.prog 29 #[.pointer (some ⟨q, 5, none⟩), .pointer (some ⟨b, 0, none⟩)] w fun e w' => e = .returned (.int .i64 ((K.lastR : Int) + 1)) ∧ ∃ B', KerIs w' B' q (putR K x) (mpR M K b tb) ∧ (∀ g, AllX B' g → (AllX B g ∨ S g) ∨ w.heap.size ≤ g) ∧ Frm (B .own) w w' ∧ (∀ j, j ≠ .own → j ≠ .proc (K.lastR + 1) → B' j = B j) := by
  obtain ⟨xv, dv, rv, o1, o2, ho⟩ := h.own
  have hne : ∀ p ∈ K.procs, p.1 ≠ K.lastR + 1 := fun p hp => by have := (h.num.lr p hp).2; omega
  have hno : ask K.procs (K.lastR + 1) = none := ask_none.2 hne
  have hB1 := give h (.proc (K.lastR + 1)) (S := S) (fun s hs => by rw [hno] at hs; cases hs) hd hl
  have hsx : upX B (.proc (K.lastR + 1)) S (.proc (K.lastR + 1)) = S := upX_self _ _ _
  have hso : upX B (.proc (K.lastR + 1)) S .own = B .own := upX_ne B (by simp) S
  refine (RR.put_any (regR ho h.num) (by decide) (by omega) (by have := lenR h.num M.br; omega) (by show 5 + 1 < 11; decide) b).mono fun e w' ⟨he, v', hr, hv, hF⟩ => ⟨he, ?_⟩
  have hFo : Frm (upX B (.proc (K.lastR + 1)) S .own) w w' := by rw [hso]; exact hF.mono (fun g hg => hg.elim (fun e => by rw [e]; exact ho.sq) (ho.sr g))
  have hnew : PrcAt w' S b tb x := hx.keep (fun g hg => hF.block g (hl g hg) (fun hh => by
    rcases hh with e | e
    · exact hd .own g (by rw [e]; exact ho.sq) hg
    · exact hd .own g (ho.sr g e) hg))
  have hin : ∀ g, g < w.heap.size → B .own g → g ≠ q → rv.ownBlock ≠ some g → w'.heap[g]? = w.heap[g]? := fun g h1 _ h2 h3 => hF.block g h1 (fun hh => hh.elim h2 h3)
  have hlen : (K.procs ++ [(K.lastR + 1, x)]).length = (rowsOf K.procs M.br ++ [(K.lastR + 1, b)]).length := by rw [List.length_append, List.length_append, rows_len]; rfl
  obtain ⟨S', hS'⟩ : ∃ S' : Nat → Prop, S' = fun g => B .own g ∨ v'.ownBlock = some g := ⟨_, rfl⟩
  have hv2 : ∀ g, v'.ownBlock = some g → B .own g ∨ w.heap.size ≤ g := fun g hg => (hv g hg).elim (fun h1 => .inl (ho.sr g h1)) .inr
  have hlv : ∀ g, v'.ownBlock = some g → g < w'.heap.size := fun g hg => row_lt hr.row hg
  have hown : OwnAt w' S' q (putR K x) (mpR M K b tb) xv dv v' o1 o2 := by
    subst hS'
    refine ⟨?_, ?_, ?_, ?_, ?_, ?_, .inl ho.sq, fun g hg => .inl (ho.sx g hg), fun g hg => .inl (ho.sd g hg), fun g hg => .inr hg, fun g hg => .inl (ho.s1 g hg), fun g hg => .inl (ho.s2 g hg), ho.ne⟩
    · exact hr.blk
    · exact row_keep ho.rx (fun g hg => hin g (row_lt ho.rx hg) (ho.sx g hg) (fun e => row_off ho.blk (by decide) ho.rx (by rw [← e]; exact hg.symm)) (fun e => (row_apart ho.rr ho.rx (by decide) e) hg))
    · exact row_keep ho.rd (fun g hg => hin g (row_lt ho.rd hg) (ho.sd g hg) (fun e => row_off ho.blk (by decide) ho.rd (by rw [← e]; exact hg.symm)) (fun e => (row_apart ho.rr ho.rd (by decide) e) hg))
    · show w'.ownsRow 0 _ 2 v' (K.procs ++ [(K.lastR + 1, x)]).length (flat rcs (rowsOf (K.procs ++ [(K.lastR + 1, x)]) (upN M.br (K.lastR + 1) b)))
      rw [rows_app M.br b hne, hlen]
      exact hr.row
    · exact row_keep ho.p1 (fun g hg => hin g (row_lt ho.p1 hg) (ho.s1 g hg) (fun e => row_off ho.blk (by decide) ho.p1 (by rw [← e]; exact hg.symm)) (fun e => (row_apart ho.rr ho.p1 (by decide) e) hg))
    · exact row_keep ho.p2 (fun g hg => hin g (row_lt ho.p2 hg) (ho.s2 g hg) (fun e => row_off ho.blk (by decide) ho.p2 (by rw [← e]; exact hg.symm)) (fun e => (row_apart ho.rr ho.p2 (by decide) e) hg))
  have hk := hB1.turn .own (S := S') (K' := putR K x) (M' := mpR M K b tb) (w' := w') (fun g hg => by
    subst hS'; rw [hso]
    exact hg.elim .inl (hv2 g)) (fun g hg => by
    subst hS'
    exact hg.elim (fun h1 => Nat.lt_of_lt_of_le (h.lt _ _ h1) hF.size) (hlv g)) hFo ⟨_, _, _, _, _, hown⟩ (fun j hj hp => ?_) (nmbPR h.num x hlast)
  · refine ⟨_, hk, fun g ⟨j, hj⟩ => ?_, by rw [← hso]; exact hFo, fun j h1 h2 => by rw [upX_ne _ h1, upX_ne B h2]⟩
    unfold upX at hj
    split at hj
    · subst hS'
      exact hj.elim (fun h1 => .inl (.inl ⟨_, h1⟩)) (fun h1 => (hv2 g h1).elim (fun h2 => .inl (.inl ⟨_, h2⟩)) .inr)
    · split at hj
      · exact .inl (.inr hj)
      · exact .inl (.inl ⟨_, hj⟩)
  · cases j with
    | own => exact absurd rfl hj
    | fs => exact hp
    | pipe m => exact hp
    | desc m => exact hp
    | proc m =>
      intro y hy
      have hy2 : ask (K.procs ++ [(K.lastR + 1, x)]) m = some y := hy
      rw [ask_app hne] at hy2
      by_cases e : m = K.lastR + 1
      · subst e
        rw [if_pos rfl] at hy2
        cases hy2
        rw [hsx]
        show PrcAt w' S (upN M.br (K.lastR + 1) b (K.lastR + 1)) (upN M.bt (K.lastR + 1) tb (K.lastR + 1)) x
        rw [show upN M.br (K.lastR + 1) b (K.lastR + 1) = b by unfold upN; rw [if_pos rfl], show upN M.bt (K.lastR + 1) tb (K.lastR + 1) = tb by unfold upN; rw [if_pos rfl]]
        exact hnew
      · rw [if_neg e] at hy2
        show PrcAt w' _ (upN M.br (K.lastR + 1) b m) (upN M.bt (K.lastR + 1) tb m) y
        rw [show upN M.br (K.lastR + 1) b m = M.br m by unfold upN; rw [if_neg e], show upN M.bt (K.lastR + 1) tb m = M.bt m by unfold upN; rw [if_neg e]]
        exact hp y hy2
def cutKR (K : Ker) (n : Nat) : Ker := { K with procs := cut1 K.procs n }
theorem nmbCR (h : Nmb K) (n : Nat) : Nmb (cutKR K n) := by
  have h2 := cut1_ord h.or_ n
  have h3 : ∀ p ∈ cut1 K.procs n, 1 ≤ p.1 ∧ p.1 ≤ K.lastR := fun p hp => h.lr p (cut1_mem hp)
  exact ⟨h.ox, h.od, h2, h.lx, h.ld, h3, h.bx, h.bd, h.br⟩
set_option maxHeartbeats 1000000 in
theorem cutR_any (h : KerIs w B q K M) (n : Nat) : Calls Tryz.prog 231 #[.pointer (some ⟨q, 5, none⟩), .int .i64 n] w fun e w' => e = .returned (.tuple #[]) ∧ ∃ B', KerIs w' B' q (cutKR K n) M ∧ (∀ g, AllX B' g → AllX B g ∨ w.heap.size ≤ g) ∧ Frm (B .own) w w' ∧ (∀ j, j ≠ .own → B' j = B j) := by
  obtain ⟨xv, dv, rv, o1, o2, ho⟩ := h.own
  refine (RR.cut_any (regR ho h.num) (by decide) (by have := lenR h.num M.br; omega) (by show 5 + 1 < 11; decide) (n : Int)).mono fun e w' ⟨he, v', hr, hv, hF⟩ => ⟨he, ?_⟩
  rw [rows_cut h.num.or_] at hr
  have hFo : Frm (B .own) w w' := hF.mono (fun g hg => hg.elim (fun e => by rw [e]; exact ho.sq) (ho.sr g))
  have hin : ∀ g, g < w.heap.size → B .own g → g ≠ q → rv.ownBlock ≠ some g → w'.heap[g]? = w.heap[g]? := fun g h1 _ h2 h3 => hF.block g h1 (fun hh => hh.elim h2 h3)
  obtain ⟨S', hS'⟩ : ∃ S' : Nat → Prop, S' = fun g => B .own g ∨ v'.ownBlock = some g := ⟨_, rfl⟩
  have hv2 : ∀ g, v'.ownBlock = some g → B .own g ∨ w.heap.size ≤ g := fun g hg => (hv g hg).elim (fun h1 => .inl (ho.sr g h1)) .inr
  have hlv : ∀ g, v'.ownBlock = some g → g < w'.heap.size := fun g hg => row_lt hr.row hg
  have hown : OwnAt w' S' q (cutKR K n) M xv dv v' o1 o2 := by
    subst hS'
    refine ⟨?_, ?_, ?_, ?_, ?_, ?_, .inl ho.sq, fun g hg => .inl (ho.sx g hg), fun g hg => .inl (ho.sd g hg), fun g hg => .inr hg, fun g hg => .inl (ho.s1 g hg), fun g hg => .inl (ho.s2 g hg), ho.ne⟩
    · exact hr.blk
    · exact row_keep ho.rx (fun g hg => hin g (row_lt ho.rx hg) (ho.sx g hg) (fun e => row_off ho.blk (by decide) ho.rx (by rw [← e]; exact hg.symm)) (fun e => (row_apart ho.rr ho.rx (by decide) e) hg))
    · exact row_keep ho.rd (fun g hg => hin g (row_lt ho.rd hg) (ho.sd g hg) (fun e => row_off ho.blk (by decide) ho.rd (by rw [← e]; exact hg.symm)) (fun e => (row_apart ho.rr ho.rd (by decide) e) hg))
    · show w'.ownsRow 0 _ 2 v' (cut1 K.procs n).length (flat rcs (rowsOf (cut1 K.procs n) M.br))
      rw [← cut1_len K.procs n M.br]
      exact hr.row
    · exact row_keep ho.p1 (fun g hg => hin g (row_lt ho.p1 hg) (ho.s1 g hg) (fun e => row_off ho.blk (by decide) ho.p1 (by rw [← e]; exact hg.symm)) (fun e => (row_apart ho.rr ho.p1 (by decide) e) hg))
    · exact row_keep ho.p2 (fun g hg => hin g (row_lt ho.p2 hg) (ho.s2 g hg) (fun e => row_off ho.blk (by decide) ho.p2 (by rw [← e]; exact hg.symm)) (fun e => (row_apart ho.rr ho.p2 (by decide) e) hg))
  refine ⟨upX B .own S', h.turn .own (S := S') (K' := cutKR K n) (M' := M) (w' := w') (fun g hg => by
    subst hS'
    exact hg.elim .inl (hv2 g)) (fun g hg => by
    subst hS'
    exact hg.elim (fun h1 => Nat.lt_of_lt_of_le (h.lt _ _ h1) hF.size) (hlv g)) hFo ⟨_, _, _, _, _, hown⟩ (fun j hj hp => ?_) (nmbCR h.num n), fun g ⟨j, hj⟩ => ?_, hFo, fun j hj => upX_ne B hj S'⟩
  rotate_left
  · unfold upX at hj
    split at hj
    · subst hS'
      exact hj.elim (fun h1 => .inl ⟨_, h1⟩) (fun h1 => (hv2 g h1).imp_left (fun h2 => ⟨_, h2⟩))
    · exact .inl ⟨_, hj⟩
  cases j with
  | own => exact absurd rfl hj
  | fs => exact hp
  | pipe m => exact hp
  | desc m => exact hp
  | proc m =>
    intro y hy
    have hy2 : ask (cut1 K.procs n) m = some y := hy
    rw [ask_cut] at hy2
    split at hy2
    · cases hy2
    · exact hp y hy2

/- register D -/
def putD (K : Ker) (x : Dsc) : Ker := { K with descs := K.descs ++ [(K.lastD + 1, x)], lastD := K.lastD + 1 }
def mpD (M : Mp) (K : Ker) (b : Nat) : Mp := { M with bd := upN M.bd (K.lastD + 1) b }
theorem nmbPD (h : Nmb K) (x : Dsc) (hl : K.lastD < 90000) : Nmb (putD K x) := by
  have h1 : ∀ p ∈ K.descs, p.1 < K.lastD + 1 := fun p hp => Nat.lt_succ_of_le (h.ld p hp).2
  have h2 := app_ord (x := x) h.od h1
  have h3 : ∀ p ∈ K.descs ++ [(K.lastD + 1, x)], 1 ≤ p.1 ∧ p.1 ≤ K.lastD + 1 := fun p hp => by
    rcases List.mem_append.1 hp with hp | hp
    · have := h.ld p hp; omega
    · obtain rfl : p = (K.lastD + 1, x) := by simpa using hp
      exact ⟨by simp, Nat.le_refl _⟩
  exact ⟨h.ox, h2, h.or_, h.lx, h3, h.lr, h.bx, (by show K.lastD + 1 ≤ 90000; omega), h.br⟩
set_option maxHeartbeats 1000000 in
theorem putD_any (h : KerIs w B q K M) {S : Nat → Prop} {b : Nat} {x : Dsc} (hx : DscAt M.bx w S b x) (hd : ∀ j g, B j g → ¬ S g) (hl : ∀ g, S g → g < w.heap.size) (hlast : K.lastD < 90000) :
    Calls Tryz.prog 60 #[.pointer (some ⟨q, 3, none⟩), .pointer (some ⟨b, 0, none⟩)] w fun e w' => e = .returned (.int .i64 ((K.lastD : Int) + 1)) ∧ ∃ B', KerIs w' B' q (putD K x) (mpD M K b) ∧ (∀ g, AllX B' g → (AllX B g ∨ S g) ∨ w.heap.size ≤ g) ∧ Frm (B .own) w w' ∧ (∀ j, j ≠ .own → j ≠ .desc (K.lastD + 1) → B' j = B j) := by
  obtain ⟨xv, dv, rv, o1, o2, ho⟩ := h.own
  have hne : ∀ p ∈ K.descs, p.1 ≠ K.lastD + 1 := fun p hp => by have := (h.num.ld p hp).2; omega
  have hno : ask K.descs (K.lastD + 1) = none := ask_none.2 hne
  have hB1 := give h (.desc (K.lastD + 1)) (S := S) (fun s hs => by rw [hno] at hs; cases hs) hd hl
  have hsx : upX B (.desc (K.lastD + 1)) S (.desc (K.lastD + 1)) = S := upX_self _ _ _
  have hso : upX B (.desc (K.lastD + 1)) S .own = B .own := upX_ne B (by simp) S
  refine (RD.put_any (regD ho h.num) (by decide) (by omega) (by have := lenD h.num M.bd; omega) (by show 3 + 1 < 11; decide) b).mono fun e w' ⟨he, v', hr, hv, hF⟩ => ⟨he, ?_⟩
  have hFo : Frm (upX B (.desc (K.lastD + 1)) S .own) w w' := by rw [hso]; exact hF.mono (fun g hg => hg.elim (fun e => by rw [e]; exact ho.sq) (ho.sd g))
  have hnew : DscAt M.bx w' S b x := hx.keep (fun g hg => hF.block g (hl g hg) (fun hh => by
    rcases hh with e | e
    · exact hd .own g (by rw [e]; exact ho.sq) hg
    · exact hd .own g (ho.sd g e) hg))
  have hin : ∀ g, g < w.heap.size → B .own g → g ≠ q → dv.ownBlock ≠ some g → w'.heap[g]? = w.heap[g]? := fun g h1 _ h2 h3 => hF.block g h1 (fun hh => hh.elim h2 h3)
  have hlen : (K.descs ++ [(K.lastD + 1, x)]).length = (rowsOf K.descs M.bd ++ [(K.lastD + 1, b)]).length := by rw [List.length_append, List.length_append, rows_len]; rfl
  obtain ⟨S', hS'⟩ : ∃ S' : Nat → Prop, S' = fun g => B .own g ∨ v'.ownBlock = some g := ⟨_, rfl⟩
  have hv2 : ∀ g, v'.ownBlock = some g → B .own g ∨ w.heap.size ≤ g := fun g hg => (hv g hg).elim (fun h1 => .inl (ho.sd g h1)) .inr
  have hlv : ∀ g, v'.ownBlock = some g → g < w'.heap.size := fun g hg => row_lt hr.row hg
  have hown : OwnAt w' S' q (putD K x) (mpD M K b) xv v' rv o1 o2 := by
    subst hS'
    refine ⟨?_, ?_, ?_, ?_, ?_, ?_, .inl ho.sq, fun g hg => .inl (ho.sx g hg), fun g hg => .inr hg, fun g hg => .inl (ho.sr g hg), fun g hg => .inl (ho.s1 g hg), fun g hg => .inl (ho.s2 g hg), ho.ne⟩
    · exact hr.blk
    · exact row_keep ho.rx (fun g hg => hin g (row_lt ho.rx hg) (ho.sx g hg) (fun e => row_off ho.blk (by decide) ho.rx (by rw [← e]; exact hg.symm)) (fun e => (row_apart ho.rd ho.rx (by decide) e) hg))
    · show w'.ownsRow 0 _ 2 v' (K.descs ++ [(K.lastD + 1, x)]).length (flat rcs (rowsOf (K.descs ++ [(K.lastD + 1, x)]) (upN M.bd (K.lastD + 1) b)))
      rw [rows_app M.bd b hne, hlen]
      exact hr.row
    · exact row_keep ho.rr (fun g hg => hin g (row_lt ho.rr hg) (ho.sr g hg) (fun e => row_off ho.blk (by decide) ho.rr (by rw [← e]; exact hg.symm)) (fun e => (row_apart ho.rd ho.rr (by decide) e) hg))
    · exact row_keep ho.p1 (fun g hg => hin g (row_lt ho.p1 hg) (ho.s1 g hg) (fun e => row_off ho.blk (by decide) ho.p1 (by rw [← e]; exact hg.symm)) (fun e => (row_apart ho.rd ho.p1 (by decide) e) hg))
    · exact row_keep ho.p2 (fun g hg => hin g (row_lt ho.p2 hg) (ho.s2 g hg) (fun e => row_off ho.blk (by decide) ho.p2 (by rw [← e]; exact hg.symm)) (fun e => (row_apart ho.rd ho.p2 (by decide) e) hg))
  have hk := hB1.turn .own (S := S') (K' := putD K x) (M' := mpD M K b) (w' := w') (fun g hg => by
    subst hS'; rw [hso]
    exact hg.elim .inl (hv2 g)) (fun g hg => by
    subst hS'
    exact hg.elim (fun h1 => Nat.lt_of_lt_of_le (h.lt _ _ h1) hF.size) (hlv g)) hFo ⟨_, _, _, _, _, hown⟩ (fun j hj hp => ?_) (nmbPD h.num x hlast)
  · refine ⟨_, hk, fun g ⟨j, hj⟩ => ?_, by rw [← hso]; exact hFo, fun j h1 h2 => by rw [upX_ne _ h1, upX_ne B h2]⟩
    unfold upX at hj
    split at hj
    · subst hS'
      exact hj.elim (fun h1 => .inl (.inl ⟨_, h1⟩)) (fun h1 => (hv2 g h1).elim (fun h2 => .inl (.inl ⟨_, h2⟩)) .inr)
    · split at hj
      · exact .inl (.inr hj)
      · exact .inl (.inl ⟨_, hj⟩)
  · cases j with
    | own => exact absurd rfl hj
    | fs => exact hp
    | pipe m => exact hp
    | desc m =>
      intro y hy
      have hy2 : ask (K.descs ++ [(K.lastD + 1, x)]) m = some y := hy
      rw [ask_app hne] at hy2
      by_cases e : m = K.lastD + 1
      · subst e
        rw [if_pos rfl] at hy2
        cases hy2
        rw [hsx]
        show DscAt M.bx w' S (upN M.bd (K.lastD + 1) b (K.lastD + 1)) x
        rw [show upN M.bd (K.lastD + 1) b (K.lastD + 1) = b by unfold upN; rw [if_pos rfl]]
        exact hnew
      · rw [if_neg e] at hy2
        show DscAt M.bx w' _ (upN M.bd (K.lastD + 1) b m) y
        rw [show upN M.bd (K.lastD + 1) b m = M.bd m by unfold upN; rw [if_neg e]]
        exact hp y hy2
    | proc m => exact hp
def cutKD (K : Ker) (n : Nat) : Ker := { K with descs := cut1 K.descs n }
theorem nmbCD (h : Nmb K) (n : Nat) : Nmb (cutKD K n) := by
  have h2 := cut1_ord h.od n
  have h3 : ∀ p ∈ cut1 K.descs n, 1 ≤ p.1 ∧ p.1 ≤ K.lastD := fun p hp => h.ld p (cut1_mem hp)
  exact ⟨h.ox, h2, h.or_, h.lx, h3, h.lr, h.bx, h.bd, h.br⟩
set_option maxHeartbeats 1000000 in
theorem cutD_any (h : KerIs w B q K M) (n : Nat) : Calls Tryz.prog 227 #[.pointer (some ⟨q, 3, none⟩), .int .i64 n] w fun e w' => e = .returned (.tuple #[]) ∧ ∃ B', KerIs w' B' q (cutKD K n) M ∧ (∀ g, AllX B' g → AllX B g ∨ w.heap.size ≤ g) ∧ Frm (B .own) w w' ∧ (∀ j, j ≠ .own → B' j = B j) := by
  obtain ⟨xv, dv, rv, o1, o2, ho⟩ := h.own
  refine (RD.cut_any (regD ho h.num) (by decide) (by have := lenD h.num M.bd; omega) (by show 3 + 1 < 11; decide) (n : Int)).mono fun e w' ⟨he, v', hr, hv, hF⟩ => ⟨he, ?_⟩
  rw [rows_cut h.num.od] at hr
  have hFo : Frm (B .own) w w' := hF.mono (fun g hg => hg.elim (fun e => by rw [e]; exact ho.sq) (ho.sd g))
  have hin : ∀ g, g < w.heap.size → B .own g → g ≠ q → dv.ownBlock ≠ some g → w'.heap[g]? = w.heap[g]? := fun g h1 _ h2 h3 => hF.block g h1 (fun hh => hh.elim h2 h3)
  obtain ⟨S', hS'⟩ : ∃ S' : Nat → Prop, S' = fun g => B .own g ∨ v'.ownBlock = some g := ⟨_, rfl⟩
  have hv2 : ∀ g, v'.ownBlock = some g → B .own g ∨ w.heap.size ≤ g := fun g hg => (hv g hg).elim (fun h1 => .inl (ho.sd g h1)) .inr
  have hlv : ∀ g, v'.ownBlock = some g → g < w'.heap.size := fun g hg => row_lt hr.row hg
  have hown : OwnAt w' S' q (cutKD K n) M xv v' rv o1 o2 := by
    subst hS'
    refine ⟨?_, ?_, ?_, ?_, ?_, ?_, .inl ho.sq, fun g hg => .inl (ho.sx g hg), fun g hg => .inr hg, fun g hg => .inl (ho.sr g hg), fun g hg => .inl (ho.s1 g hg), fun g hg => .inl (ho.s2 g hg), ho.ne⟩
    · exact hr.blk
    · exact row_keep ho.rx (fun g hg => hin g (row_lt ho.rx hg) (ho.sx g hg) (fun e => row_off ho.blk (by decide) ho.rx (by rw [← e]; exact hg.symm)) (fun e => (row_apart ho.rd ho.rx (by decide) e) hg))
    · show w'.ownsRow 0 _ 2 v' (cut1 K.descs n).length (flat rcs (rowsOf (cut1 K.descs n) M.bd))
      rw [← cut1_len K.descs n M.bd]
      exact hr.row
    · exact row_keep ho.rr (fun g hg => hin g (row_lt ho.rr hg) (ho.sr g hg) (fun e => row_off ho.blk (by decide) ho.rr (by rw [← e]; exact hg.symm)) (fun e => (row_apart ho.rd ho.rr (by decide) e) hg))
    · exact row_keep ho.p1 (fun g hg => hin g (row_lt ho.p1 hg) (ho.s1 g hg) (fun e => row_off ho.blk (by decide) ho.p1 (by rw [← e]; exact hg.symm)) (fun e => (row_apart ho.rd ho.p1 (by decide) e) hg))
    · exact row_keep ho.p2 (fun g hg => hin g (row_lt ho.p2 hg) (ho.s2 g hg) (fun e => row_off ho.blk (by decide) ho.p2 (by rw [← e]; exact hg.symm)) (fun e => (row_apart ho.rd ho.p2 (by decide) e) hg))
  refine ⟨upX B .own S', h.turn .own (S := S') (K' := cutKD K n) (M' := M) (w' := w') (fun g hg => by
    subst hS'
    exact hg.elim .inl (hv2 g)) (fun g hg => by
    subst hS'
    exact hg.elim (fun h1 => Nat.lt_of_lt_of_le (h.lt _ _ h1) hF.size) (hlv g)) hFo ⟨_, _, _, _, _, hown⟩ (fun j hj hp => ?_) (nmbCD h.num n), fun g ⟨j, hj⟩ => ?_, hFo, fun j hj => upX_ne B hj S'⟩
  rotate_left
  · unfold upX at hj
    split at hj
    · subst hS'
      exact hj.elim (fun h1 => .inl ⟨_, h1⟩) (fun h1 => (hv2 g h1).imp_left (fun h2 => ⟨_, h2⟩))
    · exact .inl ⟨_, hj⟩
  cases j with
  | own => exact absurd rfl hj
  | fs => exact hp
  | pipe m => exact hp
  | desc m =>
    intro y hy
    have hy2 : ask (cut1 K.descs n) m = some y := hy
    rw [ask_cut] at hy2
    split at hy2
    · cases hy2
    · exact hp y hy2
  | proc m => exact hp

/- register X -/
def putX (K : Ker) (x : Pp.St) : Ker := { K with pipes := K.pipes ++ [(K.lastX + 1, x)], lastX := K.lastX + 1 }
def mpX (M : Mp) (K : Ker) (b : Nat) : Mp := { M with bx := upN M.bx (K.lastX + 1) b }
theorem nmbPX (h : Nmb K) (x : Pp.St) (hl : K.lastX < 90000) : Nmb (putX K x) := by
  have h1 : ∀ p ∈ K.pipes, p.1 < K.lastX + 1 := fun p hp => Nat.lt_succ_of_le (h.lx p hp).2
  have h2 := app_ord (x := x) h.ox h1
  have h3 : ∀ p ∈ K.pipes ++ [(K.lastX + 1, x)], 1 ≤ p.1 ∧ p.1 ≤ K.lastX + 1 := fun p hp => by
    rcases List.mem_append.1 hp with hp | hp
    · have := h.lx p hp; omega
    · obtain rfl : p = (K.lastX + 1, x) := by simpa using hp
      exact ⟨by simp, Nat.le_refl _⟩
  exact ⟨h2, h.od, h.or_, h3, h.ld, h.lr, (by show K.lastX + 1 ≤ 90000; omega), h.bd, h.br⟩
set_option maxHeartbeats 1000000 in
theorem putX_any (h : KerIs w B q K M) {S : Nat → Prop} {b : Nat} {x : Pp.St} (hx : PipAt w S b x) (hd : ∀ j g, B j g → ¬ S g) (hl : ∀ g, S g → g < w.heap.size) (hlast : K.lastX < 90000) (hpp : ∀ m y, ask K.descs m = some y → ∀ z, y.pipe = some z → z ≤ K.lastX) :
    Calls Tryz.prog 202 #[.pointer (some ⟨q, 1, none⟩), .pointer (some ⟨b, 0, none⟩)] w fun e w' => e = .returned (.int .i64 ((K.lastX : Int) + 1)) ∧ ∃ B', KerIs w' B' q (putX K x) (mpX M K b) ∧ (∀ g, AllX B' g → (AllX B g ∨ S g) ∨ w.heap.size ≤ g) ∧ Frm (B .own) w w' ∧ (∀ j, j ≠ .own → j ≠ .pipe (K.lastX + 1) → B' j = B j) := by
  obtain ⟨xv, dv, rv, o1, o2, ho⟩ := h.own
  have hne : ∀ p ∈ K.pipes, p.1 ≠ K.lastX + 1 := fun p hp => by have := (h.num.lx p hp).2; omega
  have hno : ask K.pipes (K.lastX + 1) = none := ask_none.2 hne
  have hB1 := give h (.pipe (K.lastX + 1)) (S := S) (fun s hs => by rw [hno] at hs; cases hs) hd hl
  have hsx : upX B (.pipe (K.lastX + 1)) S (.pipe (K.lastX + 1)) = S := upX_self _ _ _
  have hso : upX B (.pipe (K.lastX + 1)) S .own = B .own := upX_ne B (by simp) S
  refine (RX.put_any (regX ho h.num) (by decide) (by omega) (by have := lenX h.num M.bx; omega) (by show 1 + 1 < 11; decide) b).mono fun e w' ⟨he, v', hr, hv, hF⟩ => ⟨he, ?_⟩
  have hFo : Frm (upX B (.pipe (K.lastX + 1)) S .own) w w' := by rw [hso]; exact hF.mono (fun g hg => hg.elim (fun e => by rw [e]; exact ho.sq) (ho.sx g))
  have hnew : PipAt w' S b x := hx.keep (fun g hg => hF.block g (hl g hg) (fun hh => by
    rcases hh with e | e
    · exact hd .own g (by rw [e]; exact ho.sq) hg
    · exact hd .own g (ho.sx g e) hg))
  have hin : ∀ g, g < w.heap.size → B .own g → g ≠ q → xv.ownBlock ≠ some g → w'.heap[g]? = w.heap[g]? := fun g h1 _ h2 h3 => hF.block g h1 (fun hh => hh.elim h2 h3)
  have hlen : (K.pipes ++ [(K.lastX + 1, x)]).length = (rowsOf K.pipes M.bx ++ [(K.lastX + 1, b)]).length := by rw [List.length_append, List.length_append, rows_len]; rfl
  obtain ⟨S', hS'⟩ : ∃ S' : Nat → Prop, S' = fun g => B .own g ∨ v'.ownBlock = some g := ⟨_, rfl⟩
  have hv2 : ∀ g, v'.ownBlock = some g → B .own g ∨ w.heap.size ≤ g := fun g hg => (hv g hg).elim (fun h1 => .inl (ho.sx g h1)) .inr
  have hlv : ∀ g, v'.ownBlock = some g → g < w'.heap.size := fun g hg => row_lt hr.row hg
  have hown : OwnAt w' S' q (putX K x) (mpX M K b) v' dv rv o1 o2 := by
    subst hS'
    refine ⟨?_, ?_, ?_, ?_, ?_, ?_, .inl ho.sq, fun g hg => .inr hg, fun g hg => .inl (ho.sd g hg), fun g hg => .inl (ho.sr g hg), fun g hg => .inl (ho.s1 g hg), fun g hg => .inl (ho.s2 g hg), ho.ne⟩
    · exact hr.blk
    · show w'.ownsRow 0 _ 2 v' (K.pipes ++ [(K.lastX + 1, x)]).length (flat rcs (rowsOf (K.pipes ++ [(K.lastX + 1, x)]) (upN M.bx (K.lastX + 1) b)))
      rw [rows_app M.bx b hne, hlen]
      exact hr.row
    · exact row_keep ho.rd (fun g hg => hin g (row_lt ho.rd hg) (ho.sd g hg) (fun e => row_off ho.blk (by decide) ho.rd (by rw [← e]; exact hg.symm)) (fun e => (row_apart ho.rx ho.rd (by decide) e) hg))
    · exact row_keep ho.rr (fun g hg => hin g (row_lt ho.rr hg) (ho.sr g hg) (fun e => row_off ho.blk (by decide) ho.rr (by rw [← e]; exact hg.symm)) (fun e => (row_apart ho.rx ho.rr (by decide) e) hg))
    · exact row_keep ho.p1 (fun g hg => hin g (row_lt ho.p1 hg) (ho.s1 g hg) (fun e => row_off ho.blk (by decide) ho.p1 (by rw [← e]; exact hg.symm)) (fun e => (row_apart ho.rx ho.p1 (by decide) e) hg))
    · exact row_keep ho.p2 (fun g hg => hin g (row_lt ho.p2 hg) (ho.s2 g hg) (fun e => row_off ho.blk (by decide) ho.p2 (by rw [← e]; exact hg.symm)) (fun e => (row_apart ho.rx ho.p2 (by decide) e) hg))
  have hk := hB1.turn .own (S := S') (K' := putX K x) (M' := mpX M K b) (w' := w') (fun g hg => by
    subst hS'; rw [hso]
    exact hg.elim .inl (hv2 g)) (fun g hg => by
    subst hS'
    exact hg.elim (fun h1 => Nat.lt_of_lt_of_le (h.lt _ _ h1) hF.size) (hlv g)) hFo ⟨_, _, _, _, _, hown⟩ (fun j hj hp => ?_) (nmbPX h.num x hlast)
  · refine ⟨_, hk, fun g ⟨j, hj⟩ => ?_, by rw [← hso]; exact hFo, fun j h1 h2 => by rw [upX_ne _ h1, upX_ne B h2]⟩
    unfold upX at hj
    split at hj
    · subst hS'
      exact hj.elim (fun h1 => .inl (.inl ⟨_, h1⟩)) (fun h1 => (hv2 g h1).elim (fun h2 => .inl (.inl ⟨_, h2⟩)) .inr)
    · split at hj
      · exact .inl (.inr hj)
      · exact .inl (.inl ⟨_, hj⟩)
  · cases j with
    | own => exact absurd rfl hj
    | fs => exact hp
    | pipe m =>
      intro y hy
      have hy2 : ask (K.pipes ++ [(K.lastX + 1, x)]) m = some y := hy
      rw [ask_app hne] at hy2
      by_cases e : m = K.lastX + 1
      · subst e
        rw [if_pos rfl] at hy2
        cases hy2
        rw [hsx]
        show PipAt w' S (upN M.bx (K.lastX + 1) b (K.lastX + 1)) x
        rw [show upN M.bx (K.lastX + 1) b (K.lastX + 1) = b by unfold upN; rw [if_pos rfl]]
        exact hnew
      · rw [if_neg e] at hy2
        show PipAt w' _ (upN M.bx (K.lastX + 1) b m) y
        rw [show upN M.bx (K.lastX + 1) b m = M.bx m by unfold upN; rw [if_neg e]]
        exact hp y hy2
    | desc m =>
      intro y hy
      have h9 := hp y hy
      show DscAt (upN M.bx (K.lastX + 1) b) w' _ (M.bd m) y
      have h8 := hpp m y hy
      refine ⟨?_, h9.2⟩
      have e : dcells (upN M.bx (K.lastX + 1) b) y = dcells M.bx y := by
        unfold dcells
        cases hpi : y.pipe with
        | none => rfl
        | some z =>
          have := h8 z hpi
          show _ = [_, _, _, _, _, ptrV (some (M.bx z)), _]
          rw [show Option.map (upN M.bx (K.lastX + 1) b) (some z) = some (M.bx z) by show some (upN M.bx (K.lastX + 1) b z) = _; unfold upN; rw [if_neg (by omega)]]
      rw [e]
      exact h9.1
    | proc m => exact hp
def cutKX (K : Ker) (n : Nat) : Ker := { K with pipes := cut1 K.pipes n }
theorem nmbCX (h : Nmb K) (n : Nat) : Nmb (cutKX K n) := by
  have h2 := cut1_ord h.ox n
  have h3 : ∀ p ∈ cut1 K.pipes n, 1 ≤ p.1 ∧ p.1 ≤ K.lastX := fun p hp => h.lx p (cut1_mem hp)
  exact ⟨h2, h.od, h.or_, h3, h.ld, h.lr, h.bx, h.bd, h.br⟩
set_option maxHeartbeats 1000000 in
theorem cutX_any (h : KerIs w B q K M) (n : Nat) : Calls Tryz.prog 230 #[.pointer (some ⟨q, 1, none⟩), .int .i64 n] w fun e w' => e = .returned (.tuple #[]) ∧ ∃ B', KerIs w' B' q (cutKX K n) M ∧ (∀ g, AllX B' g → AllX B g ∨ w.heap.size ≤ g) ∧ Frm (B .own) w w' ∧ (∀ j, j ≠ .own → B' j = B j) := by
  obtain ⟨xv, dv, rv, o1, o2, ho⟩ := h.own
  refine (RX.cut_any (regX ho h.num) (by decide) (by have := lenX h.num M.bx; omega) (by show 1 + 1 < 11; decide) (n : Int)).mono fun e w' ⟨he, v', hr, hv, hF⟩ => ⟨he, ?_⟩
  rw [rows_cut h.num.ox] at hr
  have hFo : Frm (B .own) w w' := hF.mono (fun g hg => hg.elim (fun e => by rw [e]; exact ho.sq) (ho.sx g))
  have hin : ∀ g, g < w.heap.size → B .own g → g ≠ q → xv.ownBlock ≠ some g → w'.heap[g]? = w.heap[g]? := fun g h1 _ h2 h3 => hF.block g h1 (fun hh => hh.elim h2 h3)
  obtain ⟨S', hS'⟩ : ∃ S' : Nat → Prop, S' = fun g => B .own g ∨ v'.ownBlock = some g := ⟨_, rfl⟩
  have hv2 : ∀ g, v'.ownBlock = some g → B .own g ∨ w.heap.size ≤ g := fun g hg => (hv g hg).elim (fun h1 => .inl (ho.sx g h1)) .inr
  have hlv : ∀ g, v'.ownBlock = some g → g < w'.heap.size := fun g hg => row_lt hr.row hg
  have hown : OwnAt w' S' q (cutKX K n) M v' dv rv o1 o2 := by
    subst hS'
    refine ⟨?_, ?_, ?_, ?_, ?_, ?_, .inl ho.sq, fun g hg => .inr hg, fun g hg => .inl (ho.sd g hg), fun g hg => .inl (ho.sr g hg), fun g hg => .inl (ho.s1 g hg), fun g hg => .inl (ho.s2 g hg), ho.ne⟩
    · exact hr.blk
    · show w'.ownsRow 0 _ 2 v' (cut1 K.pipes n).length (flat rcs (rowsOf (cut1 K.pipes n) M.bx))
      rw [← cut1_len K.pipes n M.bx]
      exact hr.row
    · exact row_keep ho.rd (fun g hg => hin g (row_lt ho.rd hg) (ho.sd g hg) (fun e => row_off ho.blk (by decide) ho.rd (by rw [← e]; exact hg.symm)) (fun e => (row_apart ho.rx ho.rd (by decide) e) hg))
    · exact row_keep ho.rr (fun g hg => hin g (row_lt ho.rr hg) (ho.sr g hg) (fun e => row_off ho.blk (by decide) ho.rr (by rw [← e]; exact hg.symm)) (fun e => (row_apart ho.rx ho.rr (by decide) e) hg))
    · exact row_keep ho.p1 (fun g hg => hin g (row_lt ho.p1 hg) (ho.s1 g hg) (fun e => row_off ho.blk (by decide) ho.p1 (by rw [← e]; exact hg.symm)) (fun e => (row_apart ho.rx ho.p1 (by decide) e) hg))
    · exact row_keep ho.p2 (fun g hg => hin g (row_lt ho.p2 hg) (ho.s2 g hg) (fun e => row_off ho.blk (by decide) ho.p2 (by rw [← e]; exact hg.symm)) (fun e => (row_apart ho.rx ho.p2 (by decide) e) hg))
  refine ⟨upX B .own S', h.turn .own (S := S') (K' := cutKX K n) (M' := M) (w' := w') (fun g hg => by
    subst hS'
    exact hg.elim .inl (hv2 g)) (fun g hg => by
    subst hS'
    exact hg.elim (fun h1 => Nat.lt_of_lt_of_le (h.lt _ _ h1) hF.size) (hlv g)) hFo ⟨_, _, _, _, _, hown⟩ (fun j hj hp => ?_) (nmbCX h.num n), fun g ⟨j, hj⟩ => ?_, hFo, fun j hj => upX_ne B hj S'⟩
  rotate_left
  · unfold upX at hj
    split at hj
    · subst hS'
      exact hj.elim (fun h1 => .inl ⟨_, h1⟩) (fun h1 => (hv2 g h1).imp_left (fun h2 => ⟨_, h2⟩))
    · exact .inl ⟨_, hj⟩
  cases j with
  | own => exact absurd rfl hj
  | fs => exact hp
  | pipe m =>
    intro y hy
    have hy2 : ask (cut1 K.pipes n) m = some y := hy
    rw [ask_cut] at hy2
    split at hy2
    · cases hy2
    · exact hp y hy2
  | desc m => exact hp
  | proc m => exact hp
end
end Go.Proofs.YtmilagppbepnbaaGreat.Kn
