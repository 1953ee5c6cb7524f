import PyProof.Rows.All
import Wide.All
import OpenK.AllK
import Wide.FinOn
import HandS.ForMost
import HandS.ForExc
import HandS.IsInst
import HandS.StrMore
import HandS.Defaults
import PySem.Challenge.RW_fullqueue_k01_letters_and_queues
set_option Elab.async false
set_option linter.all false
set_option maxRecDepth 100000
set_option maxHeartbeats 4000000
namespace My
open PySem
/-! ### strip of all letters leaves nothing exactly where all signs are letters -/
theorem takeWhile_all {α : Type} {p : α → Bool} : ∀ {l : List α}, l.all p = true → l.takeWhile p = l
  | [], _ => rfl
  | a :: l, h => by
    rw [List.all_cons, Bool.and_eq_true] at h
    rw [List.takeWhile_cons, h.1]
    exact congrArg (a :: ·) (takeWhile_all h.2)
theorem takeWhile_len {α : Type} {p : α → Bool} {l : List α} (h : l.length ≤ (l.takeWhile p).length) : l.all p = true := by
  have e := List.takeWhile_append_dropWhile (p := p) (l := l)
  have hd : (l.dropWhile p).length = 0 := by
    have := congrArg List.length e
    rw [List.length_append] at this
    omega
  have hd' := List.eq_nil_of_length_eq_zero hd
  rw [List.all_eq_true]
  intro x hx
  rw [← e, hd', List.append_nil] at hx
  exact List.all_eq_true.mp List.all_takeWhile x hx
theorem str_ext {x y : Str} (h : x.cps.toList = y.cps.toList) : x = y := by
  obtain ⟨⟨a⟩⟩ := x
  obtain ⟨⟨b⟩⟩ := y
  cases (show a = b from h)
  rfl
theorem strip_none {x : Str} {g : Nat → Bool} (h : x.cps.toList.all g = true) : (Txt.stripBy g true true x).cps.toList = [] := by
  have e := takeWhile_all h
  have lo : stripLo g true x = x.length := by
    show (x.cps.toList.takeWhile g).length = x.cps.size
    rw [e]; simp
  have hi : stripHi g true x x.length = x.length := by
    show x.length - ((x.cps.toList.drop x.cps.size).reverse.takeWhile g).length = x.length
    have : x.cps.toList.drop x.cps.size = [] := by
      rw [List.drop_eq_nil_iff]; simp
    rw [this]; simp
  unfold Txt.stripBy
  split
  · rename_i hs
    unfold stripSame at hs
    rw [lo] at hs
    simp only [Bool.and_eq_true, beq_iff_eq] at hs
    have h0 : x.cps.size = 0 := hs.1
    have : x.cps.toList.length = 0 := by simpa using h0
    exact List.eq_nil_of_length_eq_zero this
  · unfold stripped
    rw [lo, hi]
    show (x.cps.extract x.cps.size x.cps.size).toList = []
    simp
theorem strip_some {x : Str} {g : Nat → Bool} (h : (Txt.stripBy g true true x).cps.toList = []) : x.cps.toList.all g = true := by
  unfold Txt.stripBy at h
  split at h
  · rw [h]; rfl
  · unfold stripped at h
    have h1 : (x.cps.extract (stripLo g true x) (stripHi g true x (stripLo g true x))).toList = [] := h
    have hle : stripHi g true x (stripLo g true x) ≤ stripLo g true x := by
      have h2 : (x.cps.extract (stripLo g true x) (stripHi g true x (stripLo g true x))).size = 0 := by
        rw [← Array.length_toList, h1]; rfl
      rw [Array.size_extract] at h2
      have h3 : stripHi g true x (stripLo g true x) ≤ x.cps.size := Nat.sub_le _ _
      omega
    -- what is left at the end is no more than what stands behind lo
    have hlo : stripLo g true x = (x.cps.toList.takeWhile g).length := rfl
    have hhi : stripHi g true x (stripLo g true x) = x.cps.size - ((x.cps.toList.drop (stripLo g true x)).reverse.takeWhile g).length := rfl
    have hsz : x.cps.toList.length = x.cps.size := Array.length_toList
    have hdl : (x.cps.toList.drop (stripLo g true x)).length = x.cps.size - stripLo g true x := by rw [List.length_drop, hsz]
    have hlo2 : stripLo g true x ≤ x.cps.size := by
      rw [hlo, ← hsz]
      exact (List.takeWhile_sublist _).length_le
    have hle2 : (x.cps.toList.drop (stripLo g true x)).reverse.length ≤ ((x.cps.toList.drop (stripLo g true x)).reverse.takeWhile g).length := by
      rw [List.length_reverse, hdl]
      omega
    have h4 := takeWhile_len hle2
    rw [List.all_reverse] at h4
    -- the rest behind the first stretch holds g everywhere, so the stretch is the whole
    have e := List.takeWhile_append_dropWhile (p := g) (l := x.cps.toList)
    have h5 : x.cps.toList.drop (stripLo g true x) = x.cps.toList.dropWhile g := by
      have : x.cps.toList.drop (x.cps.toList.takeWhile g).length = x.cps.toList.dropWhile g := by
        conv => lhs; rw [← e]
        rw [e]
        have := List.drop_left (l₁ := x.cps.toList.takeWhile g) (l₂ := x.cps.toList.dropWhile g)
        rw [e] at this
        exact this
      exact this
    rw [h5] at h4
    rw [← e, List.all_append, h4]
    have : (x.cps.toList.takeWhile g).all g = true := List.all_takeWhile
    rw [this]; rfl
def letters : Str := "abcdefghijklmnopqrstuvwxyz"
def isLet (c : Nat) : Bool := decide (97 ≤ c) && decide (c ≤ 122)
def lettersOnly (s : Str) : Bool := s.cps.toList.all isLet
theorem letters_has (c : Nat) : letters.cps.contains c = isLet c := by
  have e : letters.cps = #[97,98,99,100,101,102,103,104,105,106,107,108,109,110,111,112,113,114,115,116,117,118,119,120,121,122] := by decide +kernel
  rw [e, Bool.eq_iff_iff, Array.contains_iff_mem]
  unfold isLet
  simp only [List.mem_toArray, List.mem_cons, List.not_mem_nil, or_false, Bool.and_eq_true, decide_eq_true_eq]
  omega
theorem goes_is : letters.cps.contains = isLet := funext letters_has
theorem strip_is (s : Str) : decide (Txt.stripChars s letters = ("" : Str)) = lettersOnly s := by
  unfold Txt.stripChars lettersOnly
  rw [goes_is]
  by_cases h : s.cps.toList.all isLet = true
  · rw [h, decide_eq_true_eq]
    exact str_ext (by rw [strip_none h]; decide +kernel)
  · have h' : s.cps.toList.all isLet = false := by simpa using h
    rw [h', decide_eq_false_iff_not]
    intro e
    apply h
    apply strip_some
    rw [e]
    decide +kernel
end My

namespace My
open PySem L2 TL
def top (i : Nat) : Stmt := PySem.Challenge.pw_fullqueue_k01_letters_and_queues.main.body.getD i (.Pass ⟨0, 0, 0, 0⟩)
/-! ### words -/
theorem exm_self {K : PySem.W.Frag} {S : Addr} (h1 : PySem.W.subIn K (.ref S) (.type "BaseException") = some true) (h2 : PySem.W.isClsIn K S = true) (h3 : PySem.W.typeIn K (.ref S) = some (.type "type")) (h4 : PySem.W.subIn K (.ref S) (.ref S) = some true) :
    PySem.W.exmOne K (.ref S) (.ref S) = some true := by
  have e1 : (PySem.W.subIn K (.ref S) (.type "BaseException") == some true) = true := by rw [h1] <;> rfl
  have e2 : ((PySem.W.clsIn K S).isSome && PySem.W.typeIn K (.ref S) == some (.type "type")) = true := by
    have h2' : (PySem.W.clsIn K S).isSome = true := h2
    rw [h2', h3] <;> rfl
  show (if (PySem.W.subIn K (.ref S) (.type "BaseException") == some true) = true then (if ((PySem.W.clsIn K S).isSome && PySem.W.typeIn K (.ref S) == some (.type "type")) = true then PySem.W.subIn K (.ref S) (.ref S) else none) else none) = some true
  rw [if_pos e1, if_pos e2]
  exact h4
/-- no exception is wished: none comes -/
theorem passN {X : Cx} : Passes (L2.CX X.prog X.w) X E0 := fun _ _ _ _ _ _ _ h => by
  obtain ⟨_, _, _, _, _, _, _, _, _, _, _, _, _, z⟩ := h
theorem cx_K {CX : CXT} {P : Program} {w : World} {K : PySem.W.Frag} {mg : Str → Option Value} {base : Heap} {N : List Str} {qual : Str} {scope : Scope} {f : Addr} {cd : Value} {A : Around} {outer : List Env} {s : Shared} {H : Hp} {E : XK} : (cxOf CX P w K mg base N qual scope f cd A outer s H E).K = K := rfl
theorem nox_K {X : Cx} : X.nox.K = X.K := rfl
theorem ite_t {α : Sort _} {a b : α} : (if true = true then a else b) = a := if_pos rfl
theorem ite_f {α : Sort _} {a b : α} : (if false = true then a else b) = b := if_neg Bool.false_ne_true
/-- a value of a known kind -/
inductive Kd (K : PySem.W.Frag) (H : Hp) : V → Prop where
  | non : Kd K H .non
  | bl (b : Bool) : Kd K H (.bl b)
  | int (i : Int) : Kd K H (.int i)
  | str (s : Str) (h : s.length ≤ 100000) : Kd K H (.str s)
  | ref {a : Addr} {n : String} (h : TyX K H (.ref a) (.type n)) (hn : n = "list" ∨ n = "tuple" ∨ n = "dict") : Kd K H (.ref a)
def tInt : V → Bool | .int _ => true | .bl _ => true | _ => false
def tBool : V → Bool | .bl _ => true | _ => false
def tStr : V → Bool | .str _ => true | _ => false
theorem isi_of {K : PySem.W.Frag} {H : Hp} {x : V} {T : String} {b : Bool} {Q : VK} (z : ∃ t, TyX K H x t ∧ PySem.W.kitOne K t (.type T) = some b) (q : Q (.bl b) H) : rIsi K [x, .ty T] H Q := by
  obtain ⟨t, h1, h2⟩ := z
  exact ⟨x, .ty T, t, _, _, rfl, .ty T, h1, h2, q⟩
theorem isi_int {K : PySem.W.Frag} {H : Hp} {x : V} {Q : VK} (k : Kd K H x) (q : Q (.bl (tInt x)) H) : rIsi K [x, .ty "int"] H Q := by
  refine isi_of ?_ q
  cases k with
  | non => exact ⟨_, .base .non, show _ = some false from kit_ty (by decide +kernel)⟩
  | bl b => exact ⟨_, .base (.bl b), show _ = some true from kit_ty (by decide +kernel)⟩
  | int b => exact ⟨_, .base (.int b), show _ = some true from kit_ty (by decide +kernel)⟩
  | str b => exact ⟨_, .base (.str b), show _ = some false from kit_ty (by decide +kernel)⟩
  | ref h hn => rcases hn with rfl | rfl | rfl <;> exact ⟨_, h, show _ = some false from kit_ty (by decide +kernel)⟩
theorem isi_bool {K : PySem.W.Frag} {H : Hp} {x : V} {Q : VK} (k : Kd K H x) (q : Q (.bl (tBool x)) H) : rIsi K [x, .ty "bool"] H Q := by
  refine isi_of ?_ q
  cases k with
  | non => exact ⟨_, .base .non, show _ = some false from kit_ty (by decide +kernel)⟩
  | bl b => exact ⟨_, .base (.bl b), show _ = some true from kit_ty (by decide +kernel)⟩
  | int b => exact ⟨_, .base (.int b), show _ = some false from kit_ty (by decide +kernel)⟩
  | str b => exact ⟨_, .base (.str b), show _ = some false from kit_ty (by decide +kernel)⟩
  | ref h hn => rcases hn with rfl | rfl | rfl <;> exact ⟨_, h, show _ = some false from kit_ty (by decide +kernel)⟩
theorem isi_str {K : PySem.W.Frag} {H : Hp} {x : V} {Q : VK} (k : Kd K H x) (q : Q (.bl (tStr x)) H) : rIsi K [x, .ty "str"] H Q := by
  refine isi_of ?_ q
  cases k with
  | non => exact ⟨_, .base .non, show _ = some false from kit_ty (by decide +kernel)⟩
  | bl b => exact ⟨_, .base (.bl b), show _ = some false from kit_ty (by decide +kernel)⟩
  | int b => exact ⟨_, .base (.int b), show _ = some false from kit_ty (by decide +kernel)⟩
  | str b => exact ⟨_, .base (.str b), show _ = some true from kit_ty (by decide +kernel)⟩
  | ref h hn => rcases hn with rfl | rfl | rfl <;> exact ⟨_, h, show _ = some false from kit_ty (by decide +kernel)⟩

/-! ### flat lists compared -/
def flatD : V → PyData
  | .bl b => .bool b
  | .int i => .int i
  | .str s => .str s
  | _ => .none
def okF : V → Bool
  | .str s => PyData.strOk s
  | .non => true
  | .bl _ => true
  | .int _ => true
  | _ => false
theorem dp_flat {K : PySem.W.Frag} {H : Hp} {v : V} (h : okF v = true) : Dp K H v (flatD v) := by
  cases v with
  | non => exact .non
  | bl b => exact .bl b
  | int i => exact .int i
  | str s => exact .str s
  | _ => cases h
theorem dp_all {K : PySem.W.Frag} {H : Hp} : ∀ {xs : List V}, xs.all okF = true → DpAll K H xs (xs.map flatD)
  | [], _ => .nil
  | x :: xs, h => by
    rw [List.all_cons, Bool.and_eq_true] at h
    exact .cons (dp_flat h.1) (dp_all h.2)
theorem dp_list {K : PySem.W.Frag} {H : Hp} {a : Addr} {xs : List V} (h : SqL K H a xs) (hx : xs.all okF = true) : Dp K H (.ref a) (.list (xs.map flatD)) := .lst h (dp_all hx)
theorem lay_flat : ∀ {xs : List V}, xs.all okF = true → PyData.canLayAll0 (xs.map flatD) = true ∧ PyData.depthAll (xs.map flatD) = 0
  | [], _ => ⟨by simp [PyData.canLayAll0], by simp [PyData.depthAll]⟩
  | x :: xs, h => by
    rw [List.all_cons, Bool.and_eq_true] at h
    obtain ⟨h1, h2⟩ := lay_flat h.2
    rw [List.map_cons]
    have e1 : PyData.canLay0 (flatD x) = true ∧ PyData.depth (flatD x) = 0 := by
      cases x with
      | str s => exact ⟨by rw [flatD, PyData.canLay0]; exact h.1, by simp [flatD, PyData.depth]⟩
      | _ => first | exact ⟨by simp [flatD, PyData.canLay0], by simp [flatD, PyData.depth]⟩ | cases h.1
    exact ⟨by rw [PyData.canLayAll0, e1.1, h1]; rfl, by rw [PyData.depthAll, e1.2, h2]; rfl⟩
theorem shaped_flat {xs : List V} (h : xs.all okF = true) : SeqAt.shaped (.list (xs.map flatD)) = true := by
  obtain ⟨h1, h2⟩ := lay_flat h
  unfold SeqAt.shaped
  rw [PyData.canLay0, h1, PyData.depth, h2]
  rfl
def eqL (xs ys : List V) : Bool := PyData.eqvAll (xs.map flatD) (ys.map flatD)
theorem ne_lists {K : PySem.W.Frag} {H : Hp} {a b : Addr} {xs ys : List V} {Q : VK} (ha : SqL K H a xs) (hb : SqL K H b ys) (hx : xs.all okF = true) (hy : ys.all okF = true) (q : Q (.bl (!eqL xs ys)) H) : rNeD K (.ref a) (.ref b) H Q :=
  ⟨_, _, dp_list ha hx, dp_list hb hy, shaped_flat hx, shaped_flat hy, by
    show Q (.bl (!PyData.eqv (.list (xs.map flatD)) (.list (ys.map flatD)))) H
    rw [PyData.eqv]
    exact q⟩
theorem eq_lists {K : PySem.W.Frag} {H : Hp} {a b : Addr} {xs ys : List V} {Q : VK} (ha : SqL K H a xs) (hb : SqL K H b ys) (hx : xs.all okF = true) (hy : ys.all okF = true) (q : Q (.bl (eqL xs ys)) H) : rEqD K (.ref a) (.ref b) H Q :=
  ⟨_, _, dp_list ha hx, dp_list hb hy, shaped_flat hx, shaped_flat hy, by
    show Q (.bl (PyData.eqv (.list (xs.map flatD)) (.list (ys.map flatD)))) H
    rw [PyData.eqv]
    exact q⟩
theorem eqL_bools : ∀ (bs cs : List Bool), eqL (bs.map V.bl) (cs.map V.bl) = decide (bs = cs)
  | [], [] => by simp [eqL, PyData.eqvAll]
  | [], c :: cs => by simp [eqL, PyData.eqvAll]
  | b :: bs, [] => by simp [eqL, PyData.eqvAll]
  | b :: bs, c :: cs => by
    have ih := eqL_bools bs cs
    unfold eqL at ih ⊢
    rw [List.map_cons, List.map_cons, List.map_cons, List.map_cons, PyData.eqvAll, ih]
    show ((PyData.eqv (.bool b) (.bool c)) && _) = _
    rw [PyData.eqv]
    by_cases h : b = c
    · subst h; simp
    · simp [h]
theorem ok_bools (bs : List Bool) : (bs.map V.bl).all okF = true := by
  rw [List.all_map, List.all_eq_true]
  intro x _
  rfl
theorem ok_ints (bs : List Int) : (bs.map V.int).all okF = true := by
  rw [List.all_map, List.all_eq_true]
  intro x _
  rfl
theorem eqL_nil (xs : List V) : eqL xs [] = xs.isEmpty := by
  cases xs with
  | nil => simp [eqL, PyData.eqvAll]
  | cons x xs => simp [eqL, PyData.eqvAll]
/-! ### the law's draws: two ints in a list -/
def okD (s : Int × Int) : Prop := 0 ≤ s.1 ∧ 0 ≤ s.2 ∧ s.2 < 2147483647
def dw (s : Int × Int) : HO := .lst [.int s.1, .int s.2]
def sp_draws (K : PySem.W.Frag) : Sp := fun vs H Q _ => ∃ (a : Addr) (ns : List Int) (k : Int), vs = [.ref a, .int k] ∧ SqL K H a (ns.map V.int) ∧ ns.length ≤ 63 ∧ 0 ≤ k ∧ k ≤ 1000000 ∧
  ∀ (p : Addr) (d : Int × Int) (H' : Hp), Same H H' → H p = none → okD d → H' p = some (dw d) → Q (.ref p) H'
def sp_draw : Sp := fun vs H Q _ => ∃ (p : Addr) (d : Int × Int) (u : Int), vs = [.ref p, .int u] ∧ H p = some (dw d) ∧ okD d ∧ 0 < u ∧ u ≤ 1000000000 ∧
  ∀ (v : Int) (d' : Int × Int) (H' : Hp), 0 ≤ v → v < u → okD d' → H' p = some (dw d') → (∀ q o, q ≠ p → H q = some o → H' q = some o) → Q (.int v) H'
theorem ix_at {K : PySem.W.Frag} {H : Hp} {p : Addr} {xs : List V} {i : Int} {v : V} {Q : VK} (h : SqL K H p xs) (h0 : 0 ≤ i) (hv : xs[i.toNat]? = some v) (q : Q v H) : rIxL K (.ref p) (.int i) H Q := by
  refine ⟨p, xs, i, v, rfl, rfl, h, ?_, q⟩
  have e : i = ((i.toNat : Nat) : Int) := by omega
  rw [e]
  exact atI_nat hv
theorem ix_str_at {z : Str} {i : Int} {c : Nat} {H : Hp} {Q : VK} (hz : z.length ≤ 100000) (h0 : 0 ≤ i) (hc : z.cps.toList[i.toNat]? = some c) (q : Q (.str ⟨#[c]⟩) H) : rIxS (.str z) (.int i) H Q := by
  refine ⟨z, i, c, rfl, rfl, Nat.le_trans hz (by decide), ?_, q⟩
  have e : i = ((i.toNat : Nat) : Int) := by omega
  rw [e]
  exact atI_nat hc
theorem set_at {H : Hp} {p : Addr} {xs : List V} {i : Int} {v : V} {Q : Hp → Prop} (h : H p = some (.lst xs)) (h0 : 0 ≤ i) (hi : i < xs.length) (q : Q (upd H p (.lst (xs.set i.toNat v)))) : rSetL (.ref p) (.int i) v H Q := by
  refine ⟨p, xs, i, i.toNat, rfl, rfl, h, ?_, q⟩
  unfold ixN
  rw [if_pos h0, if_pos hi]
theorem same_new {H : Hp} {p : Addr} (h : H p = none) (o : HO) : Same H (upd H p o) := fun b u q => by rw [upd_ne (ne_of_none q h)]; exact q

theorem ne_bools {K : PySem.W.Frag} {H : Hp} {a b : Addr} {bs cs : List Bool} {Q : VK} (ha : SqL K H a (bs.map V.bl)) (hb : SqL K H b (cs.map V.bl)) (q : Q (.bl (!decide (bs = cs))) H) : rNeD K (.ref a) (.ref b) H Q :=
  ne_lists ha hb (ok_bools bs) (ok_bools cs) (by rw [eqL_bools]; exact q)
theorem tyx_mono {K : PySem.W.Frag} {H H' : Hp} {x : V} {t : Value} (s : Same H H') (h : TyX K H x t) : TyX K H' x t := by
  cases h with
  | base b =>
    cases b with
    | non => exact .base .non
    | bl y => exact .base (.bl y)
    | int y => exact .base (.int y)
    | str y => exact .base (.str y)
    | flt y => exact .base (.flt y)
    | lst e => exact .base (.lst (s _ _ e))
    | frz e => exact .base (.frz (s _ _ e))
    | tup e => exact .base (.tup (s _ _ e))
    | dK e => exact .base (.dK (s _ _ e))
    | dT e => exact .base (.dT (s _ _ e))
    | ins e cl ha hn htk hm => exact .base (.ins (s _ _ e) cl ha hn htk hm)
  | byt b => exact .byt b
  | set e => exact .set (s _ _ e)
  | kList e c => exact .kList e c
  | kTuple e c => exact .kTuple e c
  | kDict e c => exact .kDict e c
  | fTuple e => exact .fTuple (s _ _ e)
  | fDict e => exact .fDict (s _ _ e)
theorem kd_mono {K : PySem.W.Frag} {H H' : Hp} {x : V} (s : Same H H') (h : Kd K H x) : Kd K H' x := by
  cases h with
  | non => exact .non
  | bl b => exact .bl b
  | int i => exact .int i
  | str z hz => exact .str z hz
  | ref h hn => exact .ref (tyx_mono s h) hn
theorem kd_lst {K : PySem.W.Frag} {H : Hp} {p : Addr} {xs : List V} (h : H p = some (.lst xs)) : Kd K H (.ref p) := .ref (.base (.lst h)) (.inl rfl)
theorem kd_tup {K : PySem.W.Frag} {H : Hp} {p : Addr} {xs : List V} (h : H p = some (.tup xs)) : Kd K H (.ref p) := .ref (.base (.tup h)) (.inr (.inl rfl))
theorem kd_dct {K : PySem.W.Frag} {H : Hp} {p : Addr} {xs : List (Key × V)} (h : H p = some (.dK xs)) : Kd K H (.ref p) := .ref (.base (.dK h)) (.inr (.inr rfl))
/-- for x in a list; what is walked is read first, the loop's rest stands behind R -/
theorem forL {K : PySem.W.Frag} {tl : TE} {g : TG} {tb : TS} {D : Ends} {σ : L2.St} {H : Hp}
    (h : ∀ R : VK, (∀ (a : Addr) (xs : List V) (Pv : Nat → L2.St → Hp → Prop) (H1 : Hp), SqL K H1 a xs → Pv 0 σ H1 → (∀ i σ H, i ≤ xs.length → Pv i σ H → SqL K H a xs) →
      (∀ i x σ H, xs[i]? = some x → Pv i σ H → g x σ H fun σ2 H2 => tb { D with nx := Pv (i + 1), ct := Pv (i + 1), bk := D.nx } σ2 H2) → (∀ σ H, Pv xs.length σ H → D.nx σ H) → R (.ref a) H1) → tl σ H R) : tFor (iList K tl) g tb D σ H :=
  h _ fun a xs Pv H1 hs h0 hl hst hd => ⟨a, rfl, ⟨xs, hs⟩, for_list (K := K) (a := a) (xs := xs) Pv h0 hl hst hd⟩
/-- for i in range(n) -/
theorem forR {ta : TA} {g : TG} {tb : TS} {D : Ends} {σ : L2.St} {H : Hp}
    (h : ∀ R : List V → Hp → Prop, (∀ (j : Int) (Pv : Nat → L2.St → Hp → Prop) (H1 : Hp), -(2 ^ 62) ≤ j → j < 2 ^ 62 → Pv 0 σ H1 →
      (∀ i σ H, i < j.toNat → Pv i σ H → g (.int (0 + (i : Int))) σ H fun σ2 H2 => tb { D with nx := Pv (i + 1), ct := Pv (i + 1), bk := D.nx } σ2 H2) → (∀ σ H, Pv j.toNat σ H → D.nx σ H) → R [.int j] H1) → ta σ H R) : tFor (iRng1 ta) g tb D σ H :=
  h _ fun j Pv H1 h1 h2 h0 hst hd => ⟨j, rfl, h1, h2, for_range (lo := 0) (n := j.toNat) Pv h0 hst hd⟩
/-- [e for i in range(n)] -/
theorem lcR {ta : TA} {g : TG} {tt : TT} {te : TE} {vs : List Nat} {σ : L2.St} {H : Hp} {Q : VK}
    (h : ∀ R : List V → Hp → Prop, (∀ (j : Int) (H1 : Hp), -(2 ^ 62) ≤ j → j < 2 ^ 62 → (∀ D, H1 D = none → ∃ Pv : Nat → Hp → Prop, Pv 0 (upd H1 D (.lst [])) ∧
      (∀ i H, i < j.toNat → Pv i H → g (.int (0 + (i : Int))) (wipe σ vs) H fun σ2 H2 => wipe σ2 vs = wipe σ vs ∧ tt σ2 H2 fun b H3 =>
        if b = true then te σ2 H3 fun y H4 => ∃ acc, H4 D = some (.lst acc) ∧ acc.length < sizeLine ∧ Pv (i + 1) (upd H4 D (.lst (acc ++ [y]))) else Pv (i + 1) H3) ∧ ∀ H, Pv j.toNat H → Q (.ref D) H) → R [.int j] H1) → ta σ H R) : tLc (iRng1 ta) g tt te vs σ H Q :=
  h _ fun j H1 h1 h2 hk => ⟨j, rfl, h1, h2, fun D hD => by
    obtain ⟨Pv, h0, hs, hd⟩ := hk D hD
    exact lc_range (lo := 0) (n := j.toNat) Pv h0 hs hd⟩
/-- [e for x in a list] -/
theorem lcL {K : PySem.W.Frag} {tl : TE} {g : TG} {tt : TT} {te : TE} {vs : List Nat} {σ : L2.St} {H : Hp} {Q : VK}
    (h : ∀ R : VK, (∀ (a : Addr) (xs : List V) (H1 : Hp), SqL K H1 a xs → (∀ D, H1 D = none → ∃ Pv : Nat → Hp → Prop, Pv 0 (upd H1 D (.lst [])) ∧ (∀ i H, i ≤ xs.length → Pv i H → SqL K H a xs) ∧
      (∀ i x H, xs[i]? = some x → Pv i H → g x (wipe σ vs) H fun σ2 H2 => wipe σ2 vs = wipe σ vs ∧ tt σ2 H2 fun b H3 =>
        if b = true then te σ2 H3 fun y H4 => ∃ acc, H4 D = some (.lst acc) ∧ acc.length < sizeLine ∧ Pv (i + 1) (upd H4 D (.lst (acc ++ [y]))) else Pv (i + 1) H3) ∧ ∀ H, Pv xs.length H → Q (.ref D) H) → R (.ref a) H1) → tl σ H R) : tLc (iList K tl) g tt te vs σ H Q :=
  h _ fun a xs H1 hs hk => ⟨a, rfl, ⟨xs, hs⟩, fun D hD => by
    obtain ⟨Pv, h0, hl, hst, hd⟩ := hk D hD
    exact lc_list (K := K) (a := a) (xs := xs) Pv h0 hl hst hd⟩
theorem sz_of {n : Nat} (h : n ≤ 100000) : n ≤ sizeLine := Nat.le_trans h (by decide)
theorem same_mut {H H' : Hp} {p : Addr} {o : HO} (s : Same H H') (h : H p = none) : Same H (upd H' p o) := fun b u q => by rw [upd_ne (ne_of_none q h)]; exact s b u q

theorem same_but {H H0 H1 : Hp} {p : Addr} (s : Same H H0) (hp : H p = none) (k : ∀ q o, q ≠ p → H0 q = some o → H1 q = some o) : Same H H1 := fun b o e => k b o (ne_of_none e hp) (s b o e)
theorem free_but {H0 H1 : Hp} {p q : Addr} {o : HO} (k : ∀ q o, q ≠ p → H0 q = some o → H1 q = some o) (ep : H1 p = some o) (h : H1 q = none) : H0 q = none := by
  cases e : H0 q with
  | none => rfl
  | some u =>
    have hq : q ≠ p := fun z => by rw [z, ep] at h; cases h
    rw [k q u hq e] at h
    cases h
/-! ### texts as lists of signs -/
theorem tl_inj {x y : Str} (h : tl x = tl y) : x = y := str_ext h
theorem tl_len (x : Str) : (tl x).length = x.length := Array.length_toList
theorem tl_app (x y : Str) : tl (x ++ y) = tl x ++ tl y := tl_append x y
theorem joinL_nil : ∀ l : List (List Nat), joinL [] l = l.flatten
  | [] => rfl
  | [p] => by simp [joinL]
  | p :: q :: r => by
    rw [joinL, joinL_nil (q :: r)]
    simp
theorem tl_join0 (ys : List Str) : tl (Txt.join ("" : Str) ys) = (ys.map tl).flatten := by
  rw [join_eq, tl_join, show tl ("" : Str) = [] from by decide +kernel, joinL_nil]
def sg (c : Nat) : Str := ⟨#[c]⟩
theorem tl_sg (c : Nat) : tl (sg c) = [c] := rfl
theorem flat_sg : ∀ cs : List Nat, ((cs.map sg).map tl).flatten = cs
  | [] => rfl
  | c :: cs => by
    rw [List.map_cons, List.map_cons, List.flatten_cons, flat_sg cs]
    rfl
theorem len_sg (cs : List Nat) : ((cs.map sg).map (·.length)).sum = cs.length := by
  induction cs with
  | nil => rfl
  | cons c cs ih =>
    rw [List.map_cons, List.map_cons, List.sum_cons, ih]
    show 1 + _ = _
    rw [List.length_cons]; omega

local macro_rules | `(tactic| walk_at "rd") => `(tactic| try simp only [tDNewK, rU, tYes, tSeq, tNext, tDrop, tRet, tRetN, tIfS, tAsg, tAug, tPar, gName, gSub, gTup, tVar, tC, tOp, tUn, tTest, tB, tAnd, tOr, tNot, tAndV, tOrV, tNotV, tIf, tChain, tCB, tCons, tNil, tCall, tLst, tTup, tSl, tPart, tNoPart, tM0, tM1, tBM, tBM0, rI, rI0, rEq, rNe,
  List.append_nil, List.cons_append, List.nil_append, List.getElem?_cons_zero, List.getElem?_cons_succ, List.set_cons_zero, List.set_cons_succ, Option.some.injEq, V.int.injEq, V.bl.injEq, V.str.injEq, V.ref.injEq, List.cons.injEq, and_true, true_and,
  and_assoc, exists_and_left, exists_and_right, exists_eq_left, exists_eq_left', decide_true, decide_false, reduceCtorEq, nox_K, cx_K, ite_t, ite_f, exists_false, false_and, and_false, false_or, or_false, if_true, if_false, ite_true, ite_false, scal, tyV, Bool.not_true, Bool.not_false, Bool.true_and, Bool.and_true, Bool.false_and, Bool.and_false])
local macro_rules | `(tactic| walk_at "sz") => `(tactic| (first | (show _ ≤ sizeLine) | (show _ < sizeLine)); simp only [List.length_cons, List.length_nil]; decide)
local macro_rules | `(tactic| walk_at "wp") => `(tactic| simp only [wipe, List.map_cons, List.map_nil, List.set_cons_zero, List.set_cons_succ])

abbrev s_is_int : Stmt := top 4
theorem sc_is_int : FnScope ["value"] ["value"] (defScope s_is_int) := ⟨rfl, rfl, rfl, by decide +kernel, rfl, by decide +kernel, by decide +kernel⟩
abbrev s_is_int_between : Stmt := top 5
theorem sc_is_int_between : FnScope ["value", "least", "most"] ["value", "least", "most"] (defScope s_is_int_between) := ⟨rfl, rfl, rfl, by decide +kernel, rfl, by decide +kernel, by decide +kernel⟩
abbrev s_is_letter : Stmt := top 11
theorem sc_is_letter : FnScope ["value"] ["value"] (defScope s_is_letter) := ⟨rfl, rfl, rfl, by decide +kernel, rfl, by decide +kernel, by decide +kernel⟩
abbrev s_is_capacity : Stmt := top 12
theorem sc_is_capacity : FnScope ["value"] ["value"] (defScope s_is_capacity) := ⟨rfl, rfl, rfl, by decide +kernel, rfl, by decide +kernel, by decide +kernel⟩
abbrev s_is_mode : Stmt := top 13
theorem sc_is_mode : FnScope ["value"] ["value"] (defScope s_is_mode) := ⟨rfl, rfl, rfl, by decide +kernel, rfl, by decide +kernel, by decide +kernel⟩
abbrev s_is_user : Stmt := top 14
theorem sc_is_user : FnScope ["value"] ["value"] (defScope s_is_user) := ⟨rfl, rfl, rfl, by decide +kernel, rfl, by decide +kernel, by decide +kernel⟩
abbrev s_is_queue : Stmt := top 15
theorem sc_is_queue : FnScope ["value", "capacity"] ["value", "capacity"] (defScope s_is_queue) := ⟨rfl, rfl, rfl, by decide +kernel, rfl, by decide +kernel, by decide +kernel⟩
abbrev s_has_letters_only : Stmt := top 16
theorem sc_has_letters_only : FnScope ["value"] ["value"] (defScope s_has_letters_only) := ⟨rfl, rfl, rfl, by decide +kernel, rfl, by decide +kernel, by decide +kernel⟩
abbrev s__law_draws : Stmt := top 18
theorem sc__law_draws : FnScope ["_law_script", "_law_k", "_law_cell", "_law_seed"] ["_law_script", "_law_k"] (defScope s__law_draws) := ⟨rfl, rfl, rfl, by decide +kernel, rfl, by decide +kernel, by decide +kernel⟩
abbrev s__law_draw : Stmt := top 19
theorem sc__law_draw : FnScope ["_law_draws_here", "_law_upto", "_law_digit"] ["_law_draws_here", "_law_upto"] (defScope s__law_draw) := ⟨rfl, rfl, rfl, by decide +kernel, rfl, by decide +kernel, by decide +kernel⟩
abbrev s__law_checks : Stmt := top 20
theorem sc__law_checks : FnScope ["_law_value"] ["_law_value"] (defScope s__law_checks) := ⟨rfl, rfl, rfl, by decide +kernel, rfl, by decide +kernel, by decide +kernel⟩
abbrev s__law_rejected : Stmt := top 21
theorem sc__law_rejected : FnScope ["_law_value"] ["_law_value"] (defScope s__law_rejected) := ⟨rfl, rfl, rfl, by decide +kernel, rfl, by decide +kernel, by decide +kernel⟩
abbrev s_law : Stmt := top 22
theorem sc_law : FnScope ["_law_script", "_law_nothing", "_law_value", "_law_mode", "_law_k", "_law_draws_here", "_law_letters", "_law_size", "_law_text", "_law_capacity", "_law_at", "_law_turn"] ["_law_script"] (defScope s_law) := ⟨rfl, rfl, rfl, by decide +kernel, rfl, by decide +kernel, by decide +kernel⟩
structure Top (K : PySem.W.Frag) (mg : Str → Option Value) where
  a_is_int : Addr
  d_is_int : FuncData
  F_is_int : Fun K "is_int" "is_int" s_is_int a_is_int d_is_int
  b_is_int : Binds K d_is_int ["value"] []
  m_is_int : mg "is_int" = some (.ref a_is_int)
  a_is_int_between : Addr
  d_is_int_between : FuncData
  F_is_int_between : Fun K "is_int_between" "is_int_between" s_is_int_between a_is_int_between d_is_int_between
  b_is_int_between : Binds K d_is_int_between ["value", "least", "most"] []
  m_is_int_between : mg "is_int_between" = some (.ref a_is_int_between)
  a_is_letter : Addr
  d_is_letter : FuncData
  F_is_letter : Fun K "is_letter" "is_letter" s_is_letter a_is_letter d_is_letter
  b_is_letter : Binds K d_is_letter ["value"] []
  m_is_letter : mg "is_letter" = some (.ref a_is_letter)
  a_is_capacity : Addr
  d_is_capacity : FuncData
  F_is_capacity : Fun K "is_capacity" "is_capacity" s_is_capacity a_is_capacity d_is_capacity
  b_is_capacity : Binds K d_is_capacity ["value"] []
  m_is_capacity : mg "is_capacity" = some (.ref a_is_capacity)
  a_is_mode : Addr
  d_is_mode : FuncData
  F_is_mode : Fun K "is_mode" "is_mode" s_is_mode a_is_mode d_is_mode
  b_is_mode : Binds K d_is_mode ["value"] []
  m_is_mode : mg "is_mode" = some (.ref a_is_mode)
  a_is_user : Addr
  d_is_user : FuncData
  F_is_user : Fun K "is_user" "is_user" s_is_user a_is_user d_is_user
  b_is_user : Binds K d_is_user ["value"] []
  m_is_user : mg "is_user" = some (.ref a_is_user)
  a_is_queue : Addr
  d_is_queue : FuncData
  F_is_queue : FunD K "is_queue" "is_queue" (defArgs s_is_queue) (defBody s_is_queue) (defScope s_is_queue) [.int 100] [] a_is_queue d_is_queue
  e_is_queue : List Value
  v_is_queue : Vals [.int 100] e_is_queue
  bd_is_queue : Binds K d_is_queue ["value", "capacity"] e_is_queue
  b_is_queue : Binds K d_is_queue ["value", "capacity"] []
  m_is_queue : mg "is_queue" = some (.ref a_is_queue)
  a_has_letters_only : Addr
  d_has_letters_only : FuncData
  F_has_letters_only : Fun K "has_letters_only" "has_letters_only" s_has_letters_only a_has_letters_only d_has_letters_only
  b_has_letters_only : Binds K d_has_letters_only ["value"] []
  m_has_letters_only : mg "has_letters_only" = some (.ref a_has_letters_only)
  a__law_draws : Addr
  d__law_draws : FuncData
  F__law_draws : Fun K "_law_draws" "_law_draws" s__law_draws a__law_draws d__law_draws
  b__law_draws : Binds K d__law_draws ["_law_script", "_law_k"] []
  m__law_draws : mg "_law_draws" = some (.ref a__law_draws)
  a__law_draw : Addr
  d__law_draw : FuncData
  F__law_draw : Fun K "_law_draw" "_law_draw" s__law_draw a__law_draw d__law_draw
  b__law_draw : Binds K d__law_draw ["_law_draws_here", "_law_upto"] []
  m__law_draw : mg "_law_draw" = some (.ref a__law_draw)
  a__law_checks : Addr
  d__law_checks : FuncData
  F__law_checks : Fun K "_law_checks" "_law_checks" s__law_checks a__law_checks d__law_checks
  b__law_checks : Binds K d__law_checks ["_law_value"] []
  m__law_checks : mg "_law_checks" = some (.ref a__law_checks)
  a__law_rejected : Addr
  d__law_rejected : FuncData
  F__law_rejected : Fun K "_law_rejected" "_law_rejected" s__law_rejected a__law_rejected d__law_rejected
  b__law_rejected : Binds K d__law_rejected ["_law_value"] []
  m__law_rejected : mg "_law_rejected" = some (.ref a__law_rejected)
  a_law : Addr
  d_law : FuncData
  F_law : Fun K "law" "law" s_law a_law d_law
  b_law : Binds K d_law ["_law_script"] []
  m_law : mg "law" = some (.ref a_law)
  z_bool : mg "bool" = none
  z_int : mg "int" = none
  z_isinstance : mg "isinstance" = none
  z_len : mg "len" = none
  z_max : mg "max" = none
  z_range : mg "range" = none
  z_str : mg "str" = none
  u_LETTERS : Tok
  c_LETTERS : mg "LETTERS" = some (.str "abcdefghijklmnopqrstuvwxyz" u_LETTERS)
  p_MODES : Addr
  c_MODES : mg "MODES" = some (.ref p_MODES)
  t_MODES : ∀ H, SqT K H p_MODES [.str "oldest", .str "newest", .str "strict"]
  u_MOST_CAPACITY : Tok
  c_MOST_CAPACITY : mg "MOST_CAPACITY" = some (.int 100 u_MOST_CAPACITY)
  u_LONGEST_USER : Tok
  c_LONGEST_USER : mg "LONGEST_USER" = some (.int 8 u_LONGEST_USER)
  x_InvalidCapacity : Addr
  g_InvalidCapacity : mg "InvalidCapacity" = some (.ref x_InvalidCapacity)
  q_InvalidCapacity : PySem.W.excIn K x_InvalidCapacity [.type "ValueError", .type "Exception", .type "BaseException", .type "object"] "ValueError.__new__" = true
  k_InvalidCapacity : PySem.W.keepIn K (.ref x_InvalidCapacity) = true
  b_InvalidCapacity : PySem.W.subIn K (.ref x_InvalidCapacity) (.type "BaseException") = some true
  t_InvalidCapacity : PySem.W.typeIn K (.ref x_InvalidCapacity) = some (.type "type")
  e_InvalidCapacity : PySem.W.exmOne K (.ref x_InvalidCapacity) (.ref x_InvalidCapacity) = some true
/-! ### the mirror -/
def isIntV : V → Bool | .int _ => true | _ => false
def isCapV : V → Bool | .int i => decide (1 ≤ i) && decide (i ≤ 100) | _ => false
def hasLetV : V → Bool | .str s => lettersOnly s | _ => false
def isLetV : V → Bool | .str s => lettersOnly s && decide (s.length = 1) | _ => false
def isModeV : V → Bool | .str s => decide (s = "oldest") || (decide (s = "newest") || decide (s = "strict")) | _ => false
def isUserV : V → Bool | .str s => lettersOnly s && (decide (1 ≤ s.length) && decide (s.length ≤ 8)) | _ => false
def isQueueV : V → Int → Bool | .str s, c => lettersOnly s && decide ((s.length : Int) ≤ c) | _, _ => false
def checksV (x : V) : List Bool := [isLetV x, isCapV x, isModeV x, isUserV x, isQueueV x 100]
/-! ### the promises -/
def sp_is_int (K : PySem.W.Frag) : Sp := fun vs H Q _ => ∃ x, vs = [x] ∧ Kd K H x ∧ Q (.bl (isIntV x)) H
def sp_is_int_between (K : PySem.W.Frag) : Sp := fun vs H Q _ => ∃ (x : V) (lo hi : Int), vs = [x, .int lo, .int hi] ∧ Kd K H x ∧ Q (.bl (match x with | .int i => decide (lo ≤ i) && decide (i ≤ hi) | _ => false)) H
section
variable {P : Program} {w : World} {K : PySem.W.Frag} {mg : Str → Option Value} {base : Heap}
theorem ok_is_int (T : Top K mg) : FnOk P w K mg base CX0 1 T.a_is_int T.d_is_int ["value"] (sp_is_int K) := by
  refine T.F_is_int.ok sc_is_int (fun vs H Q E h => ?_) (fun cdv A outer s H vs Q E hr h => ?_)
  · obtain ⟨x, rfl, _⟩ := h
    rfl
  · obtain ⟨x, rfl, kx, q⟩ := h
    refine ⟨_, (pss_one (ps_ret (pe_and (pe_callB call_isi (by rfl) T.z_isinstance (by decide +kernel) (pa_cons (pv 0) (pa_cons (pe_bltn (v := .ty "int") (by rfl) T.z_int (by decide +kernel) rfl) pa_nil))) (pe_one (pe_not (pe_callB call_isi (by rfl) T.z_isinstance (by decide +kernel) (pa_cons (pv 0) (pa_cons (pe_bltn (v := .ty "bool") (by rfl) T.z_bool (by decide +kernel) rfl) pa_nil)))))))), ?_⟩
    have hst : start ["value"] [x] = [some x] := rfl
    rw [hst]
    walk_at "rd"
    refine isi_int kx ?_
    walk_at "rd"
    cases x <;> simp only [tInt] <;> walk_at "rd" <;> first | exact q | skip
    all_goals refine isi_bool kx ?_
    all_goals (simp only [tBool]; walk_at "rd"; exact q)
theorem ok_is_int_between (T : Top K mg) : FnOk P w K mg base CX0 2 T.a_is_int_between T.d_is_int_between ["value", "least", "most"] (sp_is_int_between K) := by
  have G_is_int := ok_is_int (P := P) (w := w) (base := base) T
  refine T.F_is_int_between.ok sc_is_int_between (fun vs H Q E h => ?_) (fun cdv A outer s H vs Q E hr h => ?_)
  · obtain ⟨x, lo, hi, rfl, _⟩ := h
    rfl
  · obtain ⟨x, lo, hi, rfl, kx, q⟩ := h
    refine ⟨_, (pss_one (ps_ret (pe_and (pe_call G_is_int (hr.mono (by first | decide | omega)) rfl T.m_is_int T.F_is_int.kp T.b_is_int .nil pass0 (pa_cons (pv 0) pa_nil)) (pe_one (pe_chain op_le op_le (pv 1) (pv 0) (pv 2)))))), ?_⟩
    have hst : start ["value", "least", "most"] [x, .int lo, .int hi] = [some x, some (.int lo), some (.int hi)] := rfl
    rw [hst]
    walk_at "rd"
    try simp only [sp_is_int]
    walk_at "rd"
    refine ⟨kx, ?_⟩
    cases x <;> simp only [isIntV] <;> walk_at "rd" <;> first | exact q | skip
    split <;> simp_all
def sp_has (K : PySem.W.Frag) (f : V → Bool) : Sp := fun vs H Q _ => ∃ x, vs = [x] ∧ Kd K H x ∧ Q (.bl (f x)) H
theorem ok_has_letters_only (T : Top K mg) : FnOk P w K mg base CX0 1 T.a_has_letters_only T.d_has_letters_only ["value"] (sp_has K hasLetV) := by

  refine T.F_has_letters_only.ok sc_has_letters_only (fun vs H Q E h => ?_) (fun cdv A outer s H vs Q E hr h => ?_)
  · obtain ⟨x, rfl, _⟩ := h
    rfl
  · obtain ⟨x, rfl, kx, q⟩ := h
    refine ⟨_, (pss_one (ps_ret (pe_and (pe_callB call_isi (by rfl) T.z_isinstance (by decide +kernel) (pa_cons (pv 0) (pa_cons (pe_bltn (v := .ty "str") (by rfl) T.z_str (by decide +kernel) rfl) pa_nil))) (pe_one (pe_cmpR op_eq (pe_bm PySem.F.plainAttrs_str PySem.F.slot_str_strip PySem.F.type_str_strip mt_stripChars (pv 0) (pa_cons (pe_glob (v := .str "abcdefghijklmnopqrstuvwxyz") (by rfl) T.c_LETTERS ⟨_, rfl⟩) pa_nil)) pe_str (nomark _)))))), ?_⟩
    have hst : start ["value"] [x] = [some x] := rfl
    rw [hst]
    walk_at "rd"
    refine isi_str kx ?_
    cases kx with
    | str z hz =>
      simp only [tStr]
      walk_at "rd"
      refine ⟨Nat.le_trans hz (by decide), ?_⟩
      rw [show (Str.ofString "abcdefghijklmnopqrstuvwxyz") = letters from rfl, strip_is]
      exact q
    | _ => simp only [tStr]; walk_at "rd"; exact q
theorem ok_is_letter (T : Top K mg) : FnOk P w K mg base CX0 2 T.a_is_letter T.d_is_letter ["value"] (sp_has K isLetV) := by
  have G_has_letters_only := ok_has_letters_only (P := P) (w := w) (base := base) T
  refine T.F_is_letter.ok sc_is_letter (fun vs H Q E h => ?_) (fun cdv A outer s H vs Q E hr h => ?_)
  · obtain ⟨x, rfl, _⟩ := h
    rfl
  · obtain ⟨x, rfl, kx, q⟩ := h
    refine ⟨_, (pss_one (ps_ret (pe_and (pe_call G_has_letters_only (hr.mono (by first | decide | omega)) rfl T.m_has_letters_only T.F_has_letters_only.kp T.b_has_letters_only .nil pass0 (pa_cons (pv 0) pa_nil)) (pe_one (pe_cmpR op_eq (pe_callB call_len_str (by rfl) T.z_len (by decide +kernel) (pa_cons (pv 0) pa_nil)) pe_int (nomark _)))))), ?_⟩
    have hst : start ["value"] [x] = [some x] := rfl
    rw [hst]
    walk_at "rd"
    try simp only [sp_has]
    walk_at "rd"
    refine ⟨kx, ?_⟩
    cases kx with
    | str z hz =>
      simp only [hasLetV]
      walk_at "rd"
      refine ite2 (fun c => ?_) (fun c => ?_)
      · refine ⟨Nat.le_trans hz (by decide), ?_⟩
        have e : isLetV (.str z) = decide ((z.length : Int) = 1) := by
          simp only [isLetV, c, Bool.true_and, decide_eq_decide]
          omega
        rw [e] at q
        exact q
      · have e : isLetV (.str z) = false := by simp only [isLetV]; simp_all
        rw [e] at q
        exact q
    | _ => simp only [hasLetV]; walk_at "rd"; exact q
theorem ok_is_capacity (T : Top K mg) : FnOk P w K mg base CX0 3 T.a_is_capacity T.d_is_capacity ["value"] (sp_has K isCapV) := by
  have G_is_int_between := ok_is_int_between (P := P) (w := w) (base := base) T
  refine T.F_is_capacity.ok sc_is_capacity (fun vs H Q E h => ?_) (fun cdv A outer s H vs Q E hr h => ?_)
  · obtain ⟨x, rfl, _⟩ := h
    rfl
  · obtain ⟨x, rfl, kx, q⟩ := h
    refine ⟨_, (pss_one (ps_ret (pe_call G_is_int_between (hr.mono (by first | decide | omega)) rfl T.m_is_int_between T.F_is_int_between.kp T.b_is_int_between .nil pass0 (pa_cons (pv 0) (pa_cons pe_int (pa_cons (pe_glob (v := .int 100) (by rfl) T.c_MOST_CAPACITY ⟨_, rfl⟩) pa_nil)))))), ?_⟩
    have hst : start ["value"] [x] = [some x] := rfl
    rw [hst]
    walk_at "rd"
    try simp only [sp_is_int_between]
    walk_at "rd"
    refine ⟨kx, ?_⟩
    cases x <;> exact q
theorem ok_is_mode (T : Top K mg) : FnOk P w K mg base CX0 1 T.a_is_mode T.d_is_mode ["value"] (sp_has K isModeV) := by

  refine T.F_is_mode.ok sc_is_mode (fun vs H Q E h => ?_) (fun cdv A outer s H vs Q E hr h => ?_)
  · obtain ⟨x, rfl, _⟩ := h
    rfl
  · obtain ⟨x, rfl, kx, q⟩ := h
    refine ⟨_, (pss_one (ps_ret (pe_and (pe_callB call_isi (by rfl) T.z_isinstance (by decide +kernel) (pa_cons (pv 0) (pa_cons (pe_bltn (v := .ty "str") (by rfl) T.z_str (by decide +kernel) rfl) pa_nil))) (pe_one (pe_cmpR op_in_seq (pv 0) (pe_glob (v := .ref T.p_MODES) (by rfl) T.c_MODES rfl) (by rfl)))))), ?_⟩
    have hst : start ["value"] [x] = [some x] := rfl
    rw [hst]
    walk_at "rd"
    refine isi_str kx ?_
    cases kx with
    | str z hz =>
      simp only [tStr]
      walk_at "rd"
      refine ⟨_, _, rfl, .inr (T.t_MODES H), rfl, rfl, ?_⟩
      have e : isModeV (.str z) = inV (.str z) [.str "oldest", .str "newest", .str "strict"] := by
        simp only [isModeV, inV, List.any_cons, List.any_nil, eqV, Bool.or_false]
        simp only [eq_comm (a := z)]
        rfl
      rw [e] at q
      exact q
    | _ => simp only [tStr]; walk_at "rd"; exact q
theorem ok_is_user (T : Top K mg) : FnOk P w K mg base CX0 2 T.a_is_user T.d_is_user ["value"] (sp_has K isUserV) := by
  have G_has_letters_only := ok_has_letters_only (P := P) (w := w) (base := base) T
  refine T.F_is_user.ok sc_is_user (fun vs H Q E h => ?_) (fun cdv A outer s H vs Q E hr h => ?_)
  · obtain ⟨x, rfl, _⟩ := h
    rfl
  · obtain ⟨x, rfl, kx, q⟩ := h
    refine ⟨_, (pss_one (ps_ret (pe_and (pe_call G_has_letters_only (hr.mono (by first | decide | omega)) rfl T.m_has_letters_only T.F_has_letters_only.kp T.b_has_letters_only .nil pass0 (pa_cons (pv 0) pa_nil)) (pe_one (pe_chain op_le op_le pe_int (pe_callB call_len_str (by rfl) T.z_len (by decide +kernel) (pa_cons (pv 0) pa_nil)) (pe_glob (v := .int 8) (by rfl) T.c_LONGEST_USER ⟨_, rfl⟩)))))), ?_⟩
    have hst : start ["value"] [x] = [some x] := rfl
    rw [hst]
    walk_at "rd"
    try simp only [sp_has]
    walk_at "rd"
    refine ⟨kx, ?_⟩
    cases kx with
    | str z hz =>
      simp only [hasLetV]
      walk_at "rd"
      refine ite2 (fun c => ?_) (fun c => ?_)
      · refine ⟨Nat.le_trans hz (by decide), ?_⟩
        refine ite2 (fun c2 => ?_) (fun c2 => ?_)
        · have e : isUserV (.str z) = decide ((z.length : Int) ≤ 8) := by
            rw [decide_eq_true_eq] at c2
            simp only [isUserV, c, Bool.true_and]
            rw [show decide (1 ≤ z.length) = true from decide_eq_true (by omega), Bool.true_and, decide_eq_decide]
            omega
          rw [e] at q
          exact q
        · have e : isUserV (.str z) = false := by
            rw [decide_eq_true_eq] at c2
            simp only [isUserV, c, Bool.true_and]
            rw [show decide (1 ≤ z.length) = false from decide_eq_false (by omega), Bool.false_and]
          rw [e] at q
          exact q
      · have e : isUserV (.str z) = false := by simp only [isUserV]; simp_all
        rw [e] at q
        exact q
    | _ => simp only [hasLetV]; walk_at "rd"; exact q

def sp_is_queue (K : PySem.W.Frag) (C : Addr) : Sp := fun vs H Q E => ∃ x c, vs = [x, c] ∧ Kd K H x ∧ Kd K H c ∧ (isCapV c = false → E (.ref C) none H) ∧ (∀ n, c = .int n → isCapV c = true → Q (.bl (isQueueV x n)) H)
theorem ok_is_queue (T : Top K mg) : FnOk P w K mg base (L2.CX P w) 4 T.a_is_queue T.d_is_queue ["value", "capacity"] (sp_is_queue K T.x_InvalidCapacity) := by
  have G_is_capacity := ok_is_capacity (P := P) (w := w) (base := base) T
  have G_has_letters_only := ok_has_letters_only (P := P) (w := w) (base := base) T
  refine T.F_is_queue.ok sc_is_queue (fun vs H Q E h => ?_) (fun cdv A outer s H vs Q E hr h => ?_)
  · obtain ⟨x, c, rfl, _⟩ := h
    rfl
  · obtain ⟨x, c, rfl, kx, kc, hE, q⟩ := h
    refine ⟨_, (pss_cons (ps_if (pt_not (pt_val (pe_call G_is_capacity (hr.mono (by first | decide | omega)) rfl T.m_is_capacity T.F_is_capacity.kp T.b_is_capacity .nil pass0 (pa_cons (pv 1) pa_nil)))) (pss_one (ps_raise rfl (takes_of rfl rfl rfl rfl) (pmk_own PySem.F.excBase_ValueError T.q_InvalidCapacity T.g_InvalidCapacity T.k_InvalidCapacity (raises_own T.b_InvalidCapacity T.t_InvalidCapacity) rfl))) pss_nil)
      (pss_one (ps_ret (pe_and (pe_call G_has_letters_only (hr.mono (by first | decide | omega)) rfl T.m_has_letters_only T.F_has_letters_only.kp T.b_has_letters_only .nil pass0 (pa_cons (pv 0) pa_nil)) (pe_one (pe_cmpR op_le (pe_callB call_len_str (by rfl) T.z_len (by decide +kernel) (pa_cons (pv 0) pa_nil)) (pv 1) (nomark _))))))), ?_⟩
    have hst : start ["value", "capacity"] [x, c] = [some x, some c] := rfl
    rw [hst]
    walk_at "rd"
    try simp only [sp_has]
    walk_at "rd"
    refine ⟨kc, ?_⟩
    cases hc : isCapV c with
    | false => walk_at "rd"; exact hE hc
    | true =>
      walk_at "rd"
      refine ⟨kx, ?_⟩
      cases c with
      | int n =>
        have q1 := q n rfl hc
        cases kx with
        | str z hz =>
          simp only [hasLetV]
          walk_at "rd"
          refine ite2 (fun c => ⟨Nat.le_trans hz (by decide), ?_⟩) (fun c => ?_)
          · have e : isQueueV (.str z) n = decide ((z.length : Int) ≤ n) := by simp only [isQueueV, c, Bool.true_and]
            rw [e] at q1
            exact q1
          · have e : isQueueV (.str z) n = false := by simp only [isQueueV]; simp_all
            rw [e] at q1
            exact q1
        | _ => simp only [hasLetV]; walk_at "rd"; exact q1
      | _ => cases hc
/-! ### the law's own defs -/
theorem emod_lt {a b : Int} (h : 0 < b) : 0 ≤ a % b ∧ a % b < b := ⟨Int.emod_nonneg _ (by omega), Int.emod_lt_of_pos _ h⟩
theorem ok__law_draw (T : Top K mg) : FnOk P w K mg base CX0 1 T.a__law_draw T.d__law_draw ["_law_draws_here", "_law_upto"] sp_draw := by

  refine T.F__law_draw.ok sc__law_draw (fun vs H Q E h => ?_) (fun cdv A outer s H vs Q E hr h => ?_)
  · obtain ⟨p, d, u, rfl, _⟩ := h
    rfl
  · obtain ⟨p, ⟨a, b⟩, u, rfl, hp, ⟨ha, hb, hb2⟩, hu0, hu1, q⟩ := h
    refine ⟨_, (pss_cons (ps_if (pt_cmpR op_gt (pe_ix ix_list (pv 0) pe_int (fun _ _ => rfl)) pe_int (nomark _)) (pss_cons (ps_set (i := 2) sc__law_draw.nd rfl (Or.inl rfl) (pe_op op_mod (pe_ix ix_list (pv 0) pe_int (fun _ _ => rfl)) (pv 1)))
      (pss_cons (ps_asg (pe_op op_fdiv (pe_ix ix_list (pv 0) pe_int (fun _ _ => rfl)) (pv 1)) (pg_sub (pv 0) pe_int set_list))
      (pss_one (ps_ret (pv 2))))) pss_nil)
      (pss_cons (ps_asg (pe_op op_mod (pe_op op_add (pe_op op_mul (pe_ix ix_list (pv 0) pe_int (fun _ _ => rfl)) pe_int) pe_int) pe_int) (pg_sub (pv 0) pe_int set_list))
      (pss_one (ps_ret (pe_op op_mod (pe_op op_fdiv (pe_op op_mod (pe_op op_mul (pe_ix ix_list (pv 0) pe_int (fun _ _ => rfl)) (pe_ix ix_list (pv 0) pe_int (fun _ _ => rfl))) pe_int) pe_int) (pv 1)))))), ?_⟩
    have hst : start ["_law_draws_here", "_law_upto", "_law_digit"] [.ref p, .int u] = [some (.ref p), some (.int u), none] := rfl
    rw [hst]
    walk_at "rd"
    simp only at ha hb hb2
    have h0 : SqL K H p [.int a, .int b] := SqL.of hp
    refine ix_at h0 (by decide) rfl ?_
    walk_at "rd"
    refine ite2 (fun c => ?_) (fun c => ?_)
    · have c' : 0 < a := of_decide_eq_true c
      refine ix_at h0 (by decide) rfl ?_
      walk_at "rd"
      refine ⟨hu0, ix_at h0 (by decide) rfl ?_⟩
      walk_at "rd"
      refine ⟨⟨hu0, by omega⟩, set_at (xs := [.int a, .int b]) hp (by decide) (by simp) ?_⟩
      walk_at "rd"
      have e1 := emod_lt (a := a) hu0
      exact q (a % u) (a / u, b) _ e1.1 e1.2 ⟨Int.ediv_nonneg ha (by omega), hb, hb2⟩ upd_same (fun q o hq e => by rw [upd_ne hq]; exact e)
    · refine ix_at h0 (by decide) rfl ?_
      walk_at "rd"
      have e1 := emod_lt (a := b * 48271 + 11) (b := 2147483647) (by decide)
      generalize hy : (b * 48271 + 11) % 2147483647 = y at e1 ⊢
      have h2 : SqL K (upd H p (.lst [.int a, .int y])) p [.int a, .int y] := SqL.of upd_same
      refine ⟨.inr (by decide), by decide, set_at (xs := [.int a, .int b]) hp (by decide) (by simp) ?_⟩
      walk_at "rd"
      refine ix_at h2 (by decide) rfl (ix_at h2 (by decide) rfl ?_)
      walk_at "rd"
      refine ⟨.inl (by omega), by decide, ⟨by decide, by decide⟩, hu0, ?_⟩
      have e2 := emod_lt (a := y * y % 2147483629 / 64) hu0
      exact q _ (a, y) _ e2.1 e2.2 ⟨ha, e1.1, e1.2⟩ upd_same (fun q o hq e => by rw [upd_ne hq]; exact e)
theorem mem_map_int {ns : List Int} {i : Nat} (h : i < ns.length) : (ns.map V.int)[i]? = some (.int ns[i]) := by
  rw [List.getElem?_map, List.getElem?_eq_getElem h] <;> rfl
theorem ok__law_draws (T : Top K mg) : FnOk P w K mg base CX0 1 T.a__law_draws T.d__law_draws ["_law_script", "_law_k"] (sp_draws K) := by

  refine T.F__law_draws.ok sc__law_draws (fun vs H Q E h => ?_) (fun cdv A outer s H vs Q E hr h => ?_)
  · obtain ⟨a, ns, k, rfl, _⟩ := h
    rfl
  · obtain ⟨a, ns, k, rfl, hS, hl, hk0, hk1, q⟩ := h
    refine ⟨_, (pss_cons (ps_set (i := 2) sc__law_draws.nd rfl (Or.inl rfl) pe_int)
      (pss_cons (ps_if (pt_cmpR (op_neD hr.units) (pv 0) (pe_lst pa_nil) (nomark _)) (pss_one (ps_set (i := 2) sc__law_draws.nd rfl (Or.inl rfl) (pe_ix ix_list (pv 0) (pe_op op_mod (pv 1) (pe_callB call_len_seq (by rfl) T.z_len (by decide +kernel) (pa_cons (pv 0) pa_nil))) (fun _ _ => rfl)))) pss_nil)
      (pss_cons (ps_if (pt_cmpR op_ge (pv 1) (pe_callB call_len_seq (by rfl) T.z_len (by decide +kernel) (pa_cons (pv 0) pa_nil)) (nomark _)) (pss_one (ps_set (i := 2) sc__law_draws.nd rfl (Or.inl rfl) (pe_op op_mod (pv 2) pe_int))) pss_nil)
      (pss_cons (ps_set (i := 3) sc__law_draws.nd rfl (Or.inl rfl) (pe_op op_mod (pe_op op_mul (pe_op op_add (pe_op op_add (pe_op op_mod (pv 2) pe_int) (pe_op op_mul pe_int (pv 1))) pe_int) pe_int) pe_int))
      (pss_one (ps_ret (pe_lst (pa_cons (pe_op op_mul (pv 2) (pe_callTy call_int1 (by rfl) T.z_int (by decide +kernel) (pa_cons (pe_cmpR op_ge (pv 2) (pe_op op_pow pe_int pe_int) (nomark _)) pa_nil))) (pa_cons (pv 3) pa_nil))))))))), ?_⟩
    have hst : start ["_law_script", "_law_k", "_law_cell", "_law_seed"] [.ref a, .int k] = [some (.ref a), some (.int k), none, none] := rfl
    rw [hst]
    walk_at "rd"
    refine ⟨by show 0 ≤ sizeLine; decide, fun p0 hp0 => ?_⟩
    have s0 : Same H (upd H p0 (.lst [])) := same_new hp0 _
    have hn : SqL K (upd H p0 (.lst [])) p0 [] := SqL.of upd_same
    refine ne_lists (s0.seq hS) hn (ok_ints ns) rfl ?_
    rw [eqL_nil]
    -- the end, from any cell
    have fin : ∀ c : Int, CMul 104729 k ∧ CMul (c % 2147483629 + 104729 * k + 11) 48271 ∧ (0 : Int) < 2147483647 ∧ CPow 10 18 ∧ CMul c (if decide (10 ^ Int.toNat 18 ≤ c) = true then 1 else 0) ∧
        [V.int (c * if decide (10 ^ Int.toNat 18 ≤ c) = true then 1 else 0), V.int ((c % 2147483629 + 104729 * k + 11) * 48271 % 2147483647)].length ≤ sizeLine ∧
        ∀ p, upd H p0 (.lst []) p = none → Q (.ref p) (upd (upd H p0 (.lst [])) p (.lst [V.int (c * if decide (10 ^ Int.toNat 18 ≤ c) = true then 1 else 0), V.int ((c % 2147483629 + 104729 * k + 11) * 48271 % 2147483647)])) := fun c => by
      have e1 := emod_lt (a := c) (b := 2147483629) (by decide)
      have e2 := emod_lt (a := (c % 2147483629 + 104729 * k + 11) * 48271) (b := 2147483647) (by decide)
      refine ⟨.inl (by decide), .inr (by decide), by decide, ⟨by decide, by decide, by decide⟩, .inr (by split <;> decide), by show 2 ≤ sizeLine; decide, fun p hp => ?_⟩
      refine q p (c * if decide (10 ^ Int.toNat 18 ≤ c) = true then 1 else 0, (c % 2147483629 + 104729 * k + 11) * 48271 % 2147483647) _ (s0.trans (same_new hp _)) (s0.free hp) ⟨?_, e2.1, e2.2⟩ upd_same
      show 0 ≤ c * if decide (10 ^ Int.toNat 18 ≤ c) = true then 1 else 0
      split
      · rename_i h
        have h' := of_decide_eq_true h
        have : (0 : Int) ≤ 10 ^ Int.toNat 18 := by decide
        omega
      · omega
    cases hns : ns with
    | nil =>
      simp only [List.map_nil, List.isEmpty_nil]
      walk_at "rd"
      refine ⟨_, .inl (s0.seq hS), ?_⟩
      refine ite2 (fun c => ⟨by decide, by decide, ?_⟩) (fun c => ⟨by decide, ?_⟩)
      · exact fin _
      · exact fin _
    | cons n ms =>
      simp only [List.map_cons, List.isEmpty_cons]
      walk_at "rd"
      have hlen : 0 < ns.length := by rw [hns]; exact Nat.succ_pos _
      have e1 := emod_lt (a := k) (b := ns.length) (by omega)
      have hi : (k % (ns.length : Int)).toNat < ns.length := by omega
      refine ⟨_, .inl (s0.seq hS), ?_⟩
      rw [List.length_map]
      refine ⟨by omega, ix_at (s0.seq hS) e1.1 (mem_map_int hi) ?_⟩
      walk_at "rd"
      refine ⟨_, .inl (s0.seq hS), ?_⟩
      refine ite2 (fun c => ⟨by decide, by decide, ?_⟩) (fun c => ⟨by decide, ?_⟩)
      · exact fin _
      · exact fin _
def sp_checks (K : PySem.W.Frag) : Sp := fun vs H Q _ => ∃ x, vs = [x] ∧ Kd K H x ∧ ∀ p H', Same H H' → H p = none → H' p = some (.lst ((checksV x).map V.bl)) → Q (.ref p) H'
theorem ok__law_checks (T : Top K mg) : FnOk P w K mg base CX0 5 T.a__law_checks T.d__law_checks ["_law_value"] (sp_checks K) := by
  have G_is_letter := ok_is_letter (P := P) (w := w) (base := base) T
  have G_is_capacity := ok_is_capacity (P := P) (w := w) (base := base) T
  have G_is_mode := ok_is_mode (P := P) (w := w) (base := base) T
  have G_is_user := ok_is_user (P := P) (w := w) (base := base) T
  have G_is_queue := ok_is_queue (P := P) (w := w) (base := base) T
  refine T.F__law_checks.ok sc__law_checks (fun vs H Q E h => ?_) (fun cdv A outer s H vs Q E hr h => ?_)
  · obtain ⟨x, rfl, _⟩ := h
    rfl
  · obtain ⟨x, rfl, kx, q⟩ := h
    refine ⟨_, (pss_one (ps_ret (pe_lst (pa_cons (pe_call G_is_letter (hr.mono (by first | decide | omega)) rfl T.m_is_letter T.F_is_letter.kp T.b_is_letter .nil pass0 (pa_cons (pv 0) pa_nil)) (pa_cons (pe_call G_is_capacity (hr.mono (by first | decide | omega)) rfl T.m_is_capacity T.F_is_capacity.kp T.b_is_capacity .nil pass0 (pa_cons (pv 0) pa_nil)) (pa_cons (pe_call G_is_mode (hr.mono (by first | decide | omega)) rfl T.m_is_mode T.F_is_mode.kp T.b_is_mode .nil pass0 (pa_cons (pv 0) pa_nil)) (pa_cons (pe_call G_is_user (hr.mono (by first | decide | omega)) rfl T.m_is_user T.F_is_user.kp T.b_is_user .nil pass0 (pa_cons (pv 0) pa_nil)) (pa_cons (pe_call G_is_queue (hr.mono (by first | decide | omega)) rfl T.m_is_queue T.F_is_queue.kp T.bd_is_queue T.v_is_queue passN (pa_cons (pv 0) pa_nil)) pa_nil)))))))), ?_⟩
    have hst : start ["_law_value"] [x] = [some x] := rfl
    rw [hst]
    walk_at "rd"
    simp only [sp_has, sp_is_queue]
    walk_at "rd"
    refine ⟨kx, kx, kx, kx, kx, .int 100, fun e => ?_, fun n e _ => ?_⟩
    · cases e
    · cases e
      refine ⟨by show 5 ≤ sizeLine; decide, fun p hp => ?_⟩
      exact q p _ (same_new hp _) hp upd_same
def sp_rejected (K : PySem.W.Frag) : Sp := fun vs H Q _ => ∃ c, vs = [c] ∧ Kd K H c ∧ isCapV c = false ∧ Q (.bl true) H
theorem ok__law_rejected (T : Top K mg) : FnOk P w K mg base CX0 5 T.a__law_rejected T.d__law_rejected ["_law_value"] (sp_rejected K) := by
  have G_is_queue := ok_is_queue (P := P) (w := w) (base := base) T
  refine T.F__law_rejected.ok sc__law_rejected (fun vs H Q E h => ?_) (fun cdv A outer s H vs Q E hr h => ?_)
  · obtain ⟨x, rfl, _⟩ := h
    rfl
  · obtain ⟨c, rfl, kc, hc, q⟩ := h
    refine ⟨_, (pss_cons (ps_try_only (tb := fun W => tDrop (tCallS (sp_is_queue K T.x_InvalidCapacity) (WE W) (tCons (tC (.str "a")) (tCons (tVar 0) tNil)))) (ts := fun _ _ _ => tRet (tC (.bl true))) (Wout := fun _ _ _ _ => False) rfl rfl ⟨rfl, by decide, .inl T.g_InvalidCapacity⟩ takes0 (fun W pn xe tk _ => pss_one (ps_expr (by exact (pe_callS G_is_queue (hr.mono (by decide)) rfl T.m_is_queue T.F_is_queue.kp T.b_is_queue (fun σ => passAt tk σ) (by exact (pa_cons pe_str (pa_cons (pv 0) pa_nil))))))) (fun a oe cls d pn _ _ => pss_one (ps_ret pe_bl)))
      (pss_one (ps_ret pe_bl))), ?_⟩
    have hst : start ["_law_value"] [c] = [some c] := rfl
    rw [hst]
    walk_at "rd"
    simp only [tCallS, sp_is_queue]
    walk_at "rd"
    exact ⟨.str _ (by decide), kc, fun _ => ⟨true, T.e_InvalidCapacity, fun _ a _ => q, fun h => by cases h⟩, fun n e h => by rw [hc] at h; cases h⟩
/-- law's: a list of at most 63 ints is handed in, True comes out -/
def spLaw (K : PySem.W.Frag) : Sp := fun vs H Q _ => ∃ (a : Addr) (ns : List Int), vs = [.ref a] ∧ SqL K H a (ns.map V.int) ∧ ns.length ≤ 63 ∧ ∀ H', Q (.bl true) H'
theorem ok_law (T : Top K mg) : FnOk P w K mg base CX0 6 T.a_law T.d_law ["_law_script"] (spLaw K) := by
  have G__law_draws := ok__law_draws (P := P) (w := w) (base := base) T
  have G__law_draw := ok__law_draw (P := P) (w := w) (base := base) T
  have G__law_checks := ok__law_checks (P := P) (w := w) (base := base) T
  have G__law_rejected := ok__law_rejected (P := P) (w := w) (base := base) T
  have G_is_mode := ok_is_mode (P := P) (w := w) (base := base) T
  have G_is_capacity := ok_is_capacity (P := P) (w := w) (base := base) T
  have G_is_queue := ok_is_queue (P := P) (w := w) (base := base) T
  refine T.F_law.ok sc_law (fun vs H Q E h => ?_) (fun cdv A outer s H vs Q E hr h => ?_)
  · obtain ⟨a, ns, rfl, _⟩ := h
    rfl
  · obtain ⟨a, ns, rfl, hS, hl, q⟩ := h
    refine ⟨_, (pss_cons (ps_set (i := 1) sc_law.nd rfl (Or.inl rfl) (pe_op op_rep (pe_lst (pa_cons pe_bl pa_nil)) pe_int))
      (pss_cons (ps_for PassesOwn.never rfl (pi_list (pe_lst (pa_cons pe_non (pa_cons pe_bl (pa_cons pe_bl (pa_cons (pe_tup pa_nil) (pa_cons (pe_lst (pa_cons pe_str pa_nil)) (pa_cons pe_dnewK (pa_cons (pe_tup (pa_cons pe_str (pa_cons pe_str pa_nil))) (pa_cons pe_str (pa_cons pe_str (pa_cons pe_str (pa_cons pe_str (pa_cons pe_str (pa_cons pe_str (pa_cons (pe_un un_neg pe_int) (pa_cons pe_int (pa_cons pe_int (pa_cons (pe_op op_pow pe_int pe_int) pa_nil))))))))))))))))))) (pg_name (i := 2) sc_law.nd rfl (Or.inl rfl)) (pss_one (ps_if (pt_cmpR (op_neD hr.units) (pe_call G__law_checks (hr.mono (by first | decide | omega)) rfl T.m__law_checks T.F__law_checks.kp T.b__law_checks .nil pass0 (pa_cons (pv 2) pa_nil)) (pv 1) (nomark _)) (pss_one (ps_ret pe_bl)) pss_nil)))
      (pss_cons (ps_for PassesOwn.never rfl (pi_list (pe_lst (pa_cons pe_non (pa_cons pe_bl (pa_cons pe_str (pa_cons pe_int (pa_cons (pe_un un_neg pe_int) (pa_cons pe_int (pa_cons (pe_tup (pa_cons pe_int pa_nil)) pa_nil))))))))) (pg_name (i := 2) sc_law.nd rfl (Or.inl rfl)) (pss_one (ps_if (pt_not (pt_val (pe_call G__law_rejected (hr.mono (by first | decide | omega)) rfl T.m__law_rejected T.F__law_rejected.kp T.b__law_rejected .nil pass0 (pa_cons (pv 2) pa_nil)))) (pss_one (ps_ret pe_bl)) pss_nil)))
      (pss_cons (ps_if (PW.pt (pw_or (pt_cmpR (op_neD hr.units) (pe_call G__law_checks (hr.mono (by first | decide | omega)) rfl T.m__law_checks T.F__law_checks.kp T.b__law_checks .nil pass0 (pa_cons pe_str pa_nil)) (pe_lst (pa_cons pe_bl (pa_cons pe_bl (pa_cons pe_bl (pa_cons pe_bl (pa_cons pe_bl pa_nil)))))) (nomark _)) (pw_or1 (pt_cmpR (op_neD hr.units) (pe_call G__law_checks (hr.mono (by first | decide | omega)) rfl T.m__law_checks T.F__law_checks.kp T.b__law_checks .nil pass0 (pa_cons pe_str pa_nil)) (pe_lst (pa_cons pe_bl (pa_cons pe_bl (pa_cons pe_bl (pa_cons pe_bl (pa_cons pe_bl pa_nil)))))) (nomark _))))) (pss_one (ps_ret pe_bl)) pss_nil)
      (pss_cons (ps_for PassesOwn.never rfl (pi_list (pe_lst (pa_cons pe_str (pa_cons pe_str (pa_cons pe_str pa_nil))))) (pg_name (i := 3) sc_law.nd rfl (Or.inl rfl)) (pss_one (ps_if (PW.pt (pw_or (pt_cmpR (op_neD hr.units) (pe_call G__law_checks (hr.mono (by first | decide | omega)) rfl T.m__law_checks T.F__law_checks.kp T.b__law_checks .nil pass0 (pa_cons (pv 3) pa_nil)) (pe_lst (pa_cons pe_bl (pa_cons pe_bl (pa_cons pe_bl (pa_cons pe_bl (pa_cons pe_bl pa_nil)))))) (nomark _)) (pw_or (pt_val (pe_call G_is_mode (hr.mono (by first | decide | omega)) rfl T.m_is_mode T.F_is_mode.kp T.b_is_mode .nil pass0 (pa_cons (pe_op op_add_str (pv 3) pe_str) pa_nil))) (pw_or1 (pt_val (pe_call G_is_mode (hr.mono (by first | decide | omega)) rfl T.m_is_mode T.F_is_mode.kp T.b_is_mode .nil pass0 (pa_cons (pe_slice sl_str (pv 3) (po_some pe_int) po_none) pa_nil))))))) (pss_one (ps_ret pe_bl)) pss_nil)))
      (pss_cons (ps_for PassesOwn.never rfl (pi_range1 (by rfl) T.z_range (pa_cons (pe_callB (call_max2 rfl) (by rfl) T.z_max (by decide +kernel) (pa_cons pe_int (pa_cons (pe_callB call_len_seq (by rfl) T.z_len (by decide +kernel) (pa_cons (pv 0) pa_nil)) pa_nil))) pa_nil)) (pg_name (i := 4) sc_law.nd rfl (Or.inl rfl)) (pss_cons (ps_set (i := 5) sc_law.nd rfl (Or.inr rfl) (pe_call G__law_draws (hr.mono (by first | decide | omega)) rfl T.m__law_draws T.F__law_draws.kp T.b__law_draws .nil pass0 (pa_cons (pv 0) (pa_cons (pv 4) pa_nil))))
      (pss_cons (ps_set (i := 6) sc_law.nd rfl (Or.inr rfl) pe_str)
      (pss_cons (ps_set (i := 7) sc_law.nd rfl (Or.inl rfl) (pe_ix ix_list (pe_lst (pa_cons (pe_op op_add pe_int (pe_call G__law_draw (hr.mono (by first | decide | omega)) rfl T.m__law_draw T.F__law_draw.kp T.b__law_draw .nil pass0 (pa_cons (pv 5) (pa_cons pe_int pa_nil)))) (pa_cons (pe_op op_add pe_int (pe_call G__law_draw (hr.mono (by first | decide | omega)) rfl T.m__law_draw T.F__law_draw.kp T.b__law_draw .nil pass0 (pa_cons (pv 5) (pa_cons pe_int pa_nil)))) (pa_cons pe_int (pa_cons pe_int pa_nil))))) (pe_call G__law_draw (hr.mono (by first | decide | omega)) rfl T.m__law_draw T.F__law_draw.kp T.b__law_draw .nil pass0 (pa_cons (pv 5) (pa_cons pe_int pa_nil))) (fun _ _ => rfl)))
      (pss_cons (ps_set (i := 8) sc_law.nd rfl (Or.inl rfl) (pe_join pe_str (pe_lc (own := [("_law_turn", 11)]) (g := gName 11) (tt := tYes) (by rfl) sc_law.nd (pi_range1 (by rfl) T.z_range (pa_cons (pv 7) pa_nil)) (blkOk_by (own := [("_law_turn", 11)]) (N := ["_law_script", "_law_nothing", "_law_value", "_law_mode", "_law_k", "_law_draws_here", "_law_letters", "_law_size", "_law_text", "_law_capacity", "_law_at", "_law_turn"]) (sc := defScope s_law) (by decide +kernel)) (fun _ _ _ _ _ => pg_name (i := 11) sc_law.nd rfl (Or.inl rfl)) (fun _ _ _ _ _ => pts_nil) (fun _ _ _ _ _ => (pe_ix ix_str (pv 6) (pe_call G__law_draw (hr.mono (by first | decide | omega)) rfl T.m__law_draw T.F__law_draw.kp T.b__law_draw .nil pass0 (pa_cons (pv 5) (pa_cons pe_int pa_nil))) (fun _ _ => rfl))))))
      (pss_cons (ps_if (pt_cmpR (op_neD hr.units) (pe_call G__law_checks (hr.mono (by first | decide | omega)) rfl T.m__law_checks T.F__law_checks.kp T.b__law_checks .nil pass0 (pa_cons (pv 8) pa_nil)) (pe_lst (pa_cons (pe_cmpR op_eq (pv 7) pe_int (nomark _)) (pa_cons pe_bl (pa_cons (pe_cmpR op_in_seq (pv 8) (pe_tup (pa_cons pe_str (pa_cons pe_str (pa_cons pe_str pa_nil)))) (by rfl)) (pa_cons (pe_cmpR op_le (pv 7) pe_int (nomark _)) (pa_cons (pe_cmpR op_le (pv 7) pe_int (nomark _)) pa_nil)))))) (nomark _)) (pss_one (ps_ret pe_bl)) pss_nil)
      (pss_cons (ps_set (i := 9) sc_law.nd rfl (Or.inl rfl) (pe_op op_add pe_int (pe_call G__law_draw (hr.mono (by first | decide | omega)) rfl T.m__law_draw T.F__law_draw.kp T.b__law_draw .nil pass0 (pa_cons (pv 5) (pa_cons pe_int pa_nil)))))
      (pss_cons (ps_if (PW.pt (pw_or (pt_not (pt_val (pe_call G_is_capacity (hr.mono (by first | decide | omega)) rfl T.m_is_capacity T.F_is_capacity.kp T.b_is_capacity .nil pass0 (pa_cons (pv 9) pa_nil)))) (pw_or1 (pt_cmpR op_ne (pe_call G_is_queue (hr.mono (by first | decide | omega)) rfl T.m_is_queue T.F_is_queue.kp T.b_is_queue .nil passN (pa_cons (pv 8) (pa_cons (pv 9) pa_nil))) (pe_cmpR op_le (pv 7) (pv 9) (nomark _)) (nomark _))))) (pss_one (ps_ret pe_bl)) pss_nil)
      (pss_cons (ps_set (i := 10) sc_law.nd rfl (Or.inl rfl) (pe_call G__law_draw (hr.mono (by first | decide | omega)) rfl T.m__law_draw T.F__law_draw.kp T.b__law_draw .nil pass0 (pa_cons (pv 5) (pa_cons (pv 7) pa_nil))))
      (pss_one (ps_if (pt_cmpR (op_neD hr.units) (pe_call G__law_checks (hr.mono (by first | decide | omega)) rfl T.m__law_checks T.F__law_checks.kp T.b__law_checks .nil pass0 (pa_cons (pe_op op_add_str (pe_op op_add_str (pe_slice sl_str (pv 8) po_none (po_some (pv 10))) (pe_ix ix_str pe_str (pe_call G__law_draw (hr.mono (by first | decide | omega)) rfl T.m__law_draw T.F__law_draw.kp T.b__law_draw .nil pass0 (pa_cons (pv 5) (pa_cons pe_int pa_nil))) (fun _ _ => rfl))) (pe_slice sl_str (pv 8) (po_some (pe_op op_add (pv 10) pe_int)) po_none)) pa_nil)) (pv 1) (nomark _)) (pss_one (ps_ret pe_bl)) pss_nil)))))))))))
      (pss_one (ps_ret pe_bl)))))))), ?_⟩
    have hst : start ["_law_script", "_law_nothing", "_law_value", "_law_mode", "_law_k", "_law_draws_here", "_law_letters", "_law_size", "_law_text", "_law_capacity", "_law_at", "_law_turn"] [.ref a] = [some (.ref a), none, none, none, none, none, none, none, none, none, none, none] := rfl
    rw [hst]
    walk_at "rd"
    refine ⟨by walk_at "sz", fun p hp => ⟨_, _, _, rfl, rfl, upd_same, by decide, by decide, by walk_at "sz", fun p1 hp1 => ?_⟩⟩
    have s1 : Same H (upd (upd H p (.lst [.bl false])) p1 (.lst ([false, false, false, false, false].map V.bl))) := (same_new hp _).trans (same_new hp1 _)
    have hN : (upd (upd H p (.lst [.bl false])) p1 (.lst ([false, false, false, false, false].map V.bl))) p1 = some (.lst ([false, false, false, false, false].map V.bl)) := upd_same
    show tFor _ _ _ _ _ (upd (upd H p (.lst [.bl false])) p1 (.lst ([false, false, false, false, false].map V.bl)))
    generalize upd (upd H p (.lst [.bl false])) p1 (.lst ([false, false, false, false, false].map V.bl)) = H1 at s1 hN ⊢
    refine forL fun R kR => ?_
    walk_at "rd"
    refine ⟨by walk_at "sz", fun p2 h2 => ⟨by walk_at "sz", fun p3 h3 => fun p4 h4 => ⟨by walk_at "sz", fun p5 h5 => ?_⟩⟩⟩
    refine ⟨⟨by decide, by decide, by decide⟩, by walk_at "sz", fun p6 h6 => ?_⟩
    suffices hh : ∀ HF, Same H1 HF → Kd K HF (.ref p2) → Kd K HF (.ref p3) → Kd K HF (.ref p4) → Kd K HF (.ref p5) → HF p6 = some (.lst [.non, .bl true, .bl false, .ref p2, .ref p3, .ref p4, .ref p5, .str "A", .str "Z", .str "a b", .str "-", .str "1", .str "ab-", .int (-1), .int 0, .int 101, .int (10 ^ Int.toNat 30)]) → R (.ref p6) HF by
      exact hh _ ((((same_new h2 _).trans (same_new h3 _)).trans ((same_new h4 _).trans (same_new h5 _))).trans (same_new h6 _))
        (kd_mono (((same_new h3 _).trans (same_new h4 _)).trans ((same_new h5 _).trans (same_new h6 _))) (kd_tup upd_same))
        (kd_mono ((same_new h4 _).trans ((same_new h5 _).trans (same_new h6 _))) (kd_lst upd_same))
        (kd_mono ((same_new h5 _).trans (same_new h6 _)) (kd_dct upd_same))
        (kd_mono (same_new h6 _) (kd_tup upd_same)) upd_same
    intro HF sF k2 k3 k4 k5 e6
    have good : ∀ x ∈ ([.non, .bl true, .bl false, .ref p2, .ref p3, .ref p4, .ref p5, .str "A", .str "Z", .str "a b", .str "-", .str "1", .str "ab-", .int (-1), .int 0, .int 101, .int (10 ^ Int.toNat 30)] : List V), Kd K HF x ∧ checksV x = [false, false, false, false, false] := by
      simp only [List.forall_mem_cons, List.not_mem_nil, false_imp_iff, implies_true, and_true]
      refine ⟨⟨.non, rfl⟩, ⟨.bl _, rfl⟩, ⟨.bl _, rfl⟩, ⟨k2, rfl⟩, ⟨k3, rfl⟩, ⟨k4, rfl⟩, ⟨k5, rfl⟩, ?_⟩
      refine ⟨⟨.str _ (by decide), by decide +kernel⟩, ⟨.str _ (by decide), by decide +kernel⟩, ⟨.str _ (by decide), by decide +kernel⟩, ⟨.str _ (by decide), by decide +kernel⟩, ⟨.str _ (by decide), by decide +kernel⟩, ⟨.str _ (by decide), by decide +kernel⟩, ?_⟩
      exact ⟨⟨.int _, by decide⟩, ⟨.int _, by decide⟩, ⟨.int _, by decide⟩, .int _, by decide +kernel⟩
    refine kR p6 _ (fun _ σ H' => Same HF H' ∧ ∃ v, σ = [some (.ref a), some (.ref p1), v, none, none, none, none, none, none, none, none, none]) HF (SqL.of e6) ⟨fun _ _ h => h, none, rfl⟩ (fun i σ H' _ ⟨s, _⟩ => s.seq (SqL.of e6)) ?_ ?_
    · rintro i x σ H' hx ⟨s, v, rfl⟩
      obtain ⟨kx, cx⟩ := good x (List.mem_of_getElem? hx)
      walk_at "rd"
      try simp only [sp_checks]
      walk_at "rd"
      refine ⟨kd_mono s kx, fun p7 H7 s7 _ e7 => ?_⟩
      refine ne_bools (SqL.of e7) (SqL.of (s7 _ _ (s _ _ (sF _ _ hN)))) ?_
      rw [cx]
      walk_at "rd"
      exact ⟨s.trans s7, _, rfl⟩
    clear kR R
    rintro σ H' ⟨s, v, rfl⟩
    have sX : Same H H' := s1.trans (sF.trans s)
    have eN := s _ _ (sF _ _ hN)
    clear good k2 k3 k4 k5 e6 s sF hN s1 h2 h3 h4 h5 h6
    walk_at "rd"
    refine forL fun R kR => ?_
    walk_at "rd"
    refine ⟨by walk_at "sz", fun p2 h2 => ⟨by walk_at "sz", fun p3 h3 => ?_⟩⟩
    suffices hh : ∀ HF, Same H' HF → Kd K HF (.ref p2) → HF p3 = some (.lst [.non, .bl true, .str "5", .int 0, .int (-3), .int 101, .ref p2]) → R (.ref p3) HF by
      exact hh _ ((same_new h2 _).trans (same_new h3 _)) (kd_mono (same_new h3 _) (kd_tup upd_same)) upd_same
    intro HF sF k2 e3
    have good : ∀ x ∈ ([.non, .bl true, .str "5", .int 0, .int (-3), .int 101, .ref p2] : List V), Kd K HF x ∧ isCapV x = false := by
      simp only [List.forall_mem_cons, List.not_mem_nil, false_imp_iff, implies_true, and_true]
      exact ⟨⟨.non, rfl⟩, ⟨.bl _, rfl⟩, ⟨.str _ (by decide), rfl⟩, ⟨.int _, by decide⟩, ⟨.int _, by decide⟩, ⟨.int _, by decide⟩, k2, rfl⟩
    refine kR p3 _ (fun _ σ H2 => Same HF H2 ∧ ∃ v, σ = [some (.ref a), some (.ref p1), v, none, none, none, none, none, none, none, none, none]) HF (SqL.of e3) ⟨fun _ _ h => h, v, rfl⟩ (fun i σ H' _ ⟨s, _⟩ => s.seq (SqL.of e3)) ?_ ?_
    · rintro i x σ H2 hx ⟨s, v, rfl⟩
      obtain ⟨kx, cx⟩ := good x (List.mem_of_getElem? hx)
      walk_at "rd"
      try simp only [sp_rejected]
      walk_at "rd"
      exact ⟨kd_mono s kx, cx, s, _, rfl⟩
    clear kR R
    rintro σ H2 ⟨s, v2, rfl⟩
    have sY : Same H H2 := sX.trans (sF.trans s)
    have eN2 := s _ _ (sF _ _ eN)
    clear good k2 e3 s sF eN sX h2 h3
    walk_at "rd"
    -- checks of '' and of 'q'
    try simp only [sp_checks]
    walk_at "rd"
    refine ⟨.str _ (by decide), fun p4 H4 s4 _ e4 => ⟨by walk_at "sz", fun p5 h5 => ?_⟩⟩
    refine ne_bools (cs := [false, false, false, false, true]) (SqL.of (same_new h5 _ _ _ e4)) (SqL.of upd_same) ?_
    rw [show checksV (.str "") = [false, false, false, false, true] from by decide +kernel]
    walk_at "rd"
    refine ⟨.str _ (by decide), fun p6 H6 s6 _ e6 => ⟨by walk_at "sz", fun p7 h7 => ?_⟩⟩
    refine ne_bools (cs := [true, false, false, true, true]) (SqL.of (same_new h7 _ _ _ e6)) (SqL.of upd_same) ?_
    rw [show checksV (.str "q") = [true, false, false, true, true] from by decide +kernel]
    walk_at "rd"
    refine forL fun R kR => ?_
    walk_at "rd"
    refine ⟨by walk_at "sz", fun p8 h8 => ?_⟩
    suffices hh : ∀ HF, Same H2 HF → HF p8 = some (.lst [.str "oldest", .str "newest", .str "strict"]) → R (.ref p8) HF by
      exact hh _ (((s4.trans (same_new h5 _)).trans (s6.trans (same_new h7 _))).trans (same_new h8 _)) upd_same
    intro HF sF e8
    have good : ∀ x ∈ ([.str "oldest", .str "newest", .str "strict"] : List V), ∃ m : Str, x = .str m ∧ m.length ≤ 100 ∧ checksV (.str m) = [false, false, true, true, true] ∧ isModeV (.str (m ++ "s")) = false ∧ isModeV (.str (cutS m (some 1) none)) = false ∧ (m ++ "s").length ≤ 100 ∧ (cutS m (some 1) none).length ≤ 100 := by
      simp only [List.forall_mem_cons, List.not_mem_nil, false_imp_iff, implies_true, and_true]
      exact ⟨⟨_, rfl, by decide, by decide +kernel, by decide +kernel, by decide +kernel, by decide +kernel, by decide +kernel⟩, ⟨_, rfl, by decide, by decide +kernel, by decide +kernel, by decide +kernel, by decide +kernel, by decide +kernel⟩, _, rfl, by decide, by decide +kernel, by decide +kernel, by decide +kernel, by decide +kernel, by decide +kernel⟩
    refine kR p8 _ (fun _ σ H3 => Same HF H3 ∧ ∃ v, σ = [some (.ref a), some (.ref p1), v2, v, none, none, none, none, none, none, none, none]) HF (SqL.of e8) ⟨fun _ _ h => h, none, rfl⟩ (fun i σ H' _ ⟨s, _⟩ => s.seq (SqL.of e8)) ?_ ?_
    · rintro i x σ H3 hx ⟨s, v, rfl⟩
      obtain ⟨m, rfl, lm, c1, c2, c3, l2, l3⟩ := good x (List.mem_of_getElem? hx)
      walk_at "rd"
      try simp only [sp_checks]
      walk_at "rd"
      refine ⟨.str _ (by omega), fun p9 H9 s9 _ e9 => ⟨by walk_at "sz", fun p10 h10 => ?_⟩⟩
      refine ne_bools (cs := [false, false, true, true, true]) (SqL.of (same_new h10 _ _ _ e9)) (SqL.of upd_same) ?_
      rw [c1]
      walk_at "rd"
      try simp only [sp_has]
      walk_at "rd"
      have eF : (if true = false then True else False) = False := by simp
      refine ⟨by show _ ≤ sizeLine; exact sz_of (by rw [show (Str.ofString "s").length = 1 from by decide +kernel]; omega), .str _ (by omega), ?_⟩
      rw [c2]
      walk_at "rd"
      refine ⟨m, rfl, sz_of (by omega), .str _ (by omega), ?_⟩
      rw [c3]
      walk_at "rd"
      exact ⟨s.trans (s9.trans (same_new h10 _)), _, rfl⟩
    clear kR R
    rintro σ H3 ⟨s, v3, rfl⟩
    have sZ : Same H H3 := sY.trans (sF.trans s)
    have eN3 := s _ _ (sF _ _ eN2)
    clear good e8 s sF eN2 sY h5 h7 h8 e4 e6 s4 s6
    walk_at "rd"
    refine forR fun R kR => ?_
    walk_at "rd"
    refine ⟨_, .inl (sZ.seq hS), ?_⟩
    rw [List.length_map]
    generalize hj : (if (ns.length : Int) > 1 then (ns.length : Int) else 1) = j
    have hj63 : 1 ≤ j ∧ j ≤ 63 := by
      rw [← hj]
      split <;> omega
    refine kR j (fun _ σ H4 => Same H3 H4 ∧ ∃ v4 v5 v6 v7 v8 v9 v10, σ = [some (.ref a), some (.ref p1), v2, v3, v4, v5, v6, v7, v8, v9, v10, none]) H3 (by omega) (by omega) ⟨fun _ _ h => h, none, none, none, none, none, none, none, rfl⟩ ?_ ?_
    · rintro i σ H4 hi ⟨s, v4, v5, v6, v7, v8, v9, v10, rfl⟩
      walk_at "rd"
      try simp only [sp_draws]
      walk_at "rd"
      refine ⟨ns, (sZ.trans s).seq hS, hl, by omega, by omega, fun p d H5 s5 hp5 hd5 e5 => ?_⟩
      try simp only [sp_draw]
      walk_at "rd"
      refine ⟨d, e5, hd5, by decide, by decide, fun w1 d1 H6 a1 b1 c1 e6 k6 => ?_⟩
      have s6 : Same H4 H6 := same_but s5 hp5 k6
      refine ⟨d1, e6, c1, by decide, by decide, fun w2 d2 H7 a2 b2 c2 e7 k7 => ⟨by walk_at "sz", fun p11 h11 => ?_⟩⟩
      have s7 : Same H4 H7 := same_but s6 hp5 k7
      refine ⟨d2, same_new h11 _ _ _ e7, c2, by decide, by decide, fun w3 d3 H8 a3 b3 c3 e8 k8 => ?_⟩
      have s8 : Same H4 H8 := same_but (s7.trans (same_new h11 _)) hp5 k8
      have e11 := k8 p11 _ (ne_of_none e7 h11).symm upd_same
      obtain ⟨z, hz, z1, z2⟩ : ∃ z : Int, ([V.int (1 + w1), V.int (1 + w2), V.int 100, V.int 101] : List V)[w3.toNat]? = some (.int z) ∧ 1 ≤ z ∧ z ≤ 101 := by
        have : w3 = 0 ∨ w3 = 1 ∨ w3 = 2 ∨ w3 = 3 := by omega
        rcases this with rfl | rfl | rfl | rfl <;> exact ⟨_, rfl, by omega, by omega⟩
      refine ix_at (SqL.of e11) a3 hz ⟨⟨_, rfl⟩, ?_⟩
      clear s6 s7 k6 k7 k8 e6 e7 h11 e11 a1 a2 a3 b1 b2 b3 c1 c2 hz hd5 e5 s5
      refine lcR fun R kR => ?_
      walk_at "rd"
      refine kR z H8 (by omega) (by omega) fun D hD => ⟨fun i' H9 => ∃ cs : List Nat, cs.length = i' ∧ cs.all isLet = true ∧ H9 D = some (.lst ((cs.map sg).map V.str)) ∧ Same H4 H9 ∧ ∃ d, okD d ∧ H9 p = some (dw d), ?_, ?_, ?_⟩
      · exact ⟨[], rfl, rfl, upd_same, s8.trans (same_new hD _), d3, c3, same_new hD _ _ _ e8⟩
      · rintro i' H9 hi' ⟨cs, hc1, hc2, hc3, s9, d9, o9, e9⟩
        walk_at "wp"
        walk_at "rd"
        try simp only [sp_draw]
        walk_at "rd"
        refine ⟨d9, e9, o9, by decide, by decide, fun w4 d4 H10 a4 b4 c4 e10 k10 => ?_⟩
        have hDp : D ≠ p := (ne_of_none e8 hD).symm
        have e11 := k10 D _ hDp hc3
        have hc : letters.cps.toList[w4.toNat]? = some (97 + w4.toNat) := by
          rw [show letters.cps.toList = List.range' 97 26 from by decide +kernel, List.getElem?_range' (by omega)]
          simp
        refine ix_str_at (by decide +kernel) a4 hc ⟨_, e11, ?_, cs ++ [97 + w4.toNat], ?_, ?_, ?_, ?_, d4, c4, ?_⟩
        · rw [List.length_map, List.length_map, hc1]
          exact Nat.lt_of_lt_of_le (show i' < 1000 by omega) (by decide)
        · rw [List.length_append, hc1]; rfl
        · rw [List.all_append, hc2]
          simp [isLet]
          omega
        · rw [upd_same, List.map_append, List.map_append]
          rfl
        · exact same_mut (same_but s9 hp5 k10) (s8.free hD)
        · rw [upd_ne hDp.symm]
          exact e10
      clear kR R
      rintro H9 ⟨cs, hc1, hc2, hc3, s9, d9, o9, e9⟩
      have hDp : p ≠ D := ne_of_none e8 hD
      clear hD e8 c3 s8
      walk_at "rd"
      refine ⟨cs.map sg, .inl (SqL.of hc3), by rw [len_sg, show (Str.ofString "").length = 0 from by decide +kernel]; omega, ?_⟩
      have ht : tl (Txt.join (Str.ofString "") (cs.map sg)) = cs := by rw [tl_join0, flat_sg]
      generalize Txt.join (Str.ofString "") (cs.map sg) = t at ht ⊢
      have hlen : (t.length : Int) = z := by rw [len_tl, ht]; omega
      walk_at "rd"
      have hL : lettersOnly t = true := by
        show (tl t).all isLet = true
        rw [ht]; exact hc2
      have hck : checksV (.str t) = [decide (z = 1), false, inV (.str t) [.str "oldest", .str "newest", .str "strict"], decide (z ≤ 8), decide (z ≤ 100)] := by
        have e1 : isModeV (.str t) = inV (.str t) [.str "oldest", .str "newest", .str "strict"] := by
          simp only [isModeV, inV, List.any_cons, List.any_nil, eqV, Bool.or_false]
          simp only [eq_comm (a := t)]
          rfl
        unfold checksV
        rw [e1]
        simp only [isLetV, isCapV, isUserV, isQueueV, hL, Bool.true_and, List.cons.injEq, decide_eq_decide, true_and, and_true]
        refine ⟨by omega, ?_, by omega⟩
        rw [Bool.eq_iff_iff, Bool.and_eq_true]
        simp only [decide_eq_true_eq]
        omega
      try simp only [sp_checks]
      walk_at "rd"
      refine ⟨.str _ (by omega), fun p12 H12 s12 _ e12 => ⟨by walk_at "sz", fun p13 h13 => ?_⟩⟩
      refine ⟨p13, _, rfl, .inr (SqT.of upd_same), rfl, rfl, ?_⟩
      walk_at "rd"
      refine ⟨by walk_at "sz", fun p14 h14 => ?_⟩
      refine ne_bools (cs := [decide (z = 1), false, inV (.str t) [.str "oldest", .str "newest", .str "strict"], decide (z ≤ 8), decide (z ≤ 100)]) (SqL.of ((same_new h14 _) _ _ (same_new h13 _ _ _ e12))) (SqL.of upd_same) ?_
      rw [hck]
      walk_at "rd"
      have S13 := s12.trans ((same_new h13 (.tup [V.str "oldest", V.str "newest", V.str "strict"])).trans (same_new h14 (.lst (List.map V.bl [decide (z = 1), false, inV (.str t) [.str "oldest", .str "newest", .str "strict"], decide (z ≤ 8), decide (z ≤ 100)]))))
      try simp only [sp_draw]
      walk_at "rd"
      refine ⟨d9, S13 _ _ e9, o9, by decide, by decide, fun w4 d4 H15 a4 b4 c4 e15 k15 => ?_⟩
      have s15 : Same H4 H15 := same_but (s9.trans S13) hp5 k15
      clear k15 S13 h13 h14 s12 e12 e9 s9
      try simp only [sp_has]
      walk_at "rd"
      refine ⟨.int _, ?_⟩
      have hcap : isCapV (.int (1 + w4)) = true := by
        simp only [isCapV, Bool.and_eq_true, decide_eq_true_eq]
        omega
      rw [hcap]
      walk_at "rd"
      try simp only [sp_is_queue]
      walk_at "rd"
      refine ⟨.str _ (by omega), .int _, fun e => (by rw [hcap] at e; cases e), fun n en _ => ?_⟩
      subst en
      have hqu : isQueueV (.str t) (1 + w4) = decide (z ≤ 1 + w4) := by
        simp only [isQueueV, hL, Bool.true_and, hlen]
      rw [hqu]
      walk_at "rd"
      refine ⟨d4, e15, c4, by omega, by omega, fun w5 d5 H16 a5 b5 c5 e16 k16 => ?_⟩
      have s16 : Same H4 H16 := same_but s15 hp5 k16
      clear k16 s15 e15 c4
      have cutLen : ∀ lo hi, (cutS t lo hi).length ≤ 101 := fun lo hi => by
        rw [len_tl]
        show ((t.cps.toList.drop _).take _).length ≤ 101
        rw [List.length_take, List.length_drop]
        have := len_tl t
        have e : t.cps.toList.length = t.length := this.symm
        omega
      refine ⟨t, rfl, sz_of (by omega), d5, e16, c5, by decide, by decide, fun w6 d6 H17 a6 b6 c6 e17 k17 => ?_⟩
      have s17 : Same H4 H17 := same_but s16 hp5 k17
      obtain ⟨c, hc, hcl⟩ : ∃ c : Nat, (Str.ofString "A- 0~").cps.toList[w6.toNat]? = some c ∧ isLet c = false := by
        rw [show (Str.ofString "A- 0~").cps.toList = [65, 45, 32, 48, 126] from by decide +kernel]
        have : w6 = 0 ∨ w6 = 1 ∨ w6 = 2 ∨ w6 = 3 ∨ w6 = 4 := by omega
        rcases this with rfl | rfl | rfl | rfl | rfl <;> exact ⟨_, rfl, by decide⟩
      refine ix_str_at (by decide +kernel) a6 hc ?_
      have h1 := cutLen none (some w5)
      have h2 := cutLen (some (w5 + 1)) none
      have l1 : ∀ x y : Str, (x ++ y).length = x.length + y.length := fun x y => by rw [len_tl, tl_append, List.length_append, ← len_tl, ← len_tl]
      have lc : ({ cps := #[c] } : Str).length = 1 := rfl
      refine ⟨_, rfl, _, rfl, sz_of (by rw [lc]; omega), t, rfl, sz_of (by omega), _, rfl, sz_of (by rw [l1, lc]; omega), .str _ (by rw [l1, l1, lc]; omega), fun p18 H18 s18 _ e18 => ?_⟩
      have hno : lettersOnly (cutS t none (some w5) ++ { cps := #[c] } ++ cutS t (some (w5 + 1)) none) = false := by
        show (tl (cutS t none (some w5) ++ { cps := #[c] } ++ cutS t (some (w5 + 1)) none)).all isLet = false
        rw [tl_append, tl_append, List.all_append, List.all_append]
        show (_ && (isLet c && true) && _) = false
        rw [hcl]
        simp
      generalize cutS t none (some w5) ++ { cps := #[c] } ++ cutS t (some (w5 + 1)) none = t2 at hno e18 ⊢
      have hm : isModeV (.str t2) = false := by
        simp only [isModeV, Bool.or_eq_false_iff, decide_eq_false_iff_not]
        refine ⟨fun e => ?_, fun e => ?_, fun e => ?_⟩ <;> subst e <;> revert hno <;> decide +kernel
      have hck2 : checksV (.str t2) = [false, false, false, false, false] := by
        unfold checksV
        rw [hm]
        simp only [isLetV, isCapV, isUserV, isQueueV, hno, Bool.false_and]
      rw [hck2] at e18
      refine ne_bools (SqL.of e18) (SqL.of (s18 _ _ (s17 _ _ (s _ _ eN3)))) ?_
      walk_at "rd"
      exact ⟨s.trans (s17.trans s18), ⟨_, rfl⟩, ⟨_, rfl⟩, ⟨_, rfl⟩, ⟨_, rfl⟩, ⟨_, rfl⟩, ⟨_, rfl⟩, _, rfl⟩
    · rintro σ H4 _
      walk_at "rd"
      exact q _
end
theorem all_mk {l : PySem.W.OpenLaw} {w : World} {K : PySem.W.Frag} {h : Heap} {mg : Str → Option Value} {fa : Addr} (X : K.In h) (G : h.Ns mainGlobals mg) (hfa : mg "law" = some (.ref fa))
    {f_is_int : Addr} {oc_is_int kV_is_int dc_is_int pm_is_int cd_is_int ct_is_int : Value} {od_is_int an_is_int : Option Addr} {sl_is_int : Array (Option Value)}
    {f_is_int_between : Addr} {oc_is_int_between kV_is_int_between dc_is_int_between pm_is_int_between cd_is_int_between ct_is_int_between : Value} {od_is_int_between an_is_int_between : Option Addr} {sl_is_int_between : Array (Option Value)}
    {f_is_letter : Addr} {oc_is_letter kV_is_letter dc_is_letter pm_is_letter cd_is_letter ct_is_letter : Value} {od_is_letter an_is_letter : Option Addr} {sl_is_letter : Array (Option Value)}
    {f_is_capacity : Addr} {oc_is_capacity kV_is_capacity dc_is_capacity pm_is_capacity cd_is_capacity ct_is_capacity : Value} {od_is_capacity an_is_capacity : Option Addr} {sl_is_capacity : Array (Option Value)}
    {f_is_mode : Addr} {oc_is_mode kV_is_mode dc_is_mode pm_is_mode cd_is_mode ct_is_mode : Value} {od_is_mode an_is_mode : Option Addr} {sl_is_mode : Array (Option Value)}
    {f_is_user : Addr} {oc_is_user kV_is_user dc_is_user pm_is_user cd_is_user ct_is_user : Value} {od_is_user an_is_user : Option Addr} {sl_is_user : Array (Option Value)}
    {f_is_queue : Addr} {oc_is_queue kV_is_queue dc_is_queue pm_is_queue cd_is_queue ct_is_queue : Value} {od_is_queue an_is_queue : Option Addr} {sl_is_queue : Array (Option Value)}
    {t_is_queue : Addr} {tc_is_queue : Value} {td_is_queue : Option Addr} {tn_is_queue : Nat} {ts_is_queue : Array (Option Value)} {tu_is_queue : Tok}
    {f_has_letters_only : Addr} {oc_has_letters_only kV_has_letters_only dc_has_letters_only pm_has_letters_only cd_has_letters_only ct_has_letters_only : Value} {od_has_letters_only an_has_letters_only : Option Addr} {sl_has_letters_only : Array (Option Value)}
    {f__law_draws : Addr} {oc__law_draws kV__law_draws dc__law_draws pm__law_draws cd__law_draws ct__law_draws : Value} {od__law_draws an__law_draws : Option Addr} {sl__law_draws : Array (Option Value)}
    {f__law_draw : Addr} {oc__law_draw kV__law_draw dc__law_draw pm__law_draw cd__law_draw ct__law_draw : Value} {od__law_draw an__law_draw : Option Addr} {sl__law_draw : Array (Option Value)}
    {f__law_checks : Addr} {oc__law_checks kV__law_checks dc__law_checks pm__law_checks cd__law_checks ct__law_checks : Value} {od__law_checks an__law_checks : Option Addr} {sl__law_checks : Array (Option Value)}
    {f__law_rejected : Addr} {oc__law_rejected kV__law_rejected dc__law_rejected pm__law_rejected cd__law_rejected ct__law_rejected : Value} {od__law_rejected an__law_rejected : Option Addr} {sl__law_rejected : Array (Option Value)}
    {f_law : Addr} {oc_law kV_law dc_law pm_law cd_law ct_law : Value} {od_law an_law : Option Addr} {sl_law : Array (Option Value)}
    {u_LETTERS : Tok}
    {p_MODES : Addr} {md_MODES : Option Addr} {mn_MODES : Nat} {ms_MODES : Array (Option Value)} {u1_MODES u2_MODES u3_MODES : Tok}
    {u_MOST_CAPACITY : Tok}
    {u_LONGEST_USER : Tok}
    {x_InvalidCapacity : Addr}
    (a_is_int : PySem.W.nsIn K mainGlobals "is_int" = some (some (.ref f_is_int)))
    (l_is_int : K.lookup f_is_int = some ⟨oc_is_int, od_is_int, .func (PySem.W.fnOf "is_int" "is_int" (defArgs s_is_int) (defBody s_is_int) (defScope s_is_int) .none kV_is_int dc_is_int pm_is_int an_is_int cd_is_int ct_is_int), sl_is_int⟩)
    (c_is_int : PySem.W.codeIn K cd_is_int "is_int" = true)
    (k_is_int : PySem.W.keepIn K (.ref f_is_int) = true)
    (a_is_int_between : PySem.W.nsIn K mainGlobals "is_int_between" = some (some (.ref f_is_int_between)))
    (l_is_int_between : K.lookup f_is_int_between = some ⟨oc_is_int_between, od_is_int_between, .func (PySem.W.fnOf "is_int_between" "is_int_between" (defArgs s_is_int_between) (defBody s_is_int_between) (defScope s_is_int_between) .none kV_is_int_between dc_is_int_between pm_is_int_between an_is_int_between cd_is_int_between ct_is_int_between), sl_is_int_between⟩)
    (c_is_int_between : PySem.W.codeIn K cd_is_int_between "is_int_between" = true)
    (k_is_int_between : PySem.W.keepIn K (.ref f_is_int_between) = true)
    (a_is_letter : PySem.W.nsIn K mainGlobals "is_letter" = some (some (.ref f_is_letter)))
    (l_is_letter : K.lookup f_is_letter = some ⟨oc_is_letter, od_is_letter, .func (PySem.W.fnOf "is_letter" "is_letter" (defArgs s_is_letter) (defBody s_is_letter) (defScope s_is_letter) .none kV_is_letter dc_is_letter pm_is_letter an_is_letter cd_is_letter ct_is_letter), sl_is_letter⟩)
    (c_is_letter : PySem.W.codeIn K cd_is_letter "is_letter" = true)
    (k_is_letter : PySem.W.keepIn K (.ref f_is_letter) = true)
    (a_is_capacity : PySem.W.nsIn K mainGlobals "is_capacity" = some (some (.ref f_is_capacity)))
    (l_is_capacity : K.lookup f_is_capacity = some ⟨oc_is_capacity, od_is_capacity, .func (PySem.W.fnOf "is_capacity" "is_capacity" (defArgs s_is_capacity) (defBody s_is_capacity) (defScope s_is_capacity) .none kV_is_capacity dc_is_capacity pm_is_capacity an_is_capacity cd_is_capacity ct_is_capacity), sl_is_capacity⟩)
    (c_is_capacity : PySem.W.codeIn K cd_is_capacity "is_capacity" = true)
    (k_is_capacity : PySem.W.keepIn K (.ref f_is_capacity) = true)
    (a_is_mode : PySem.W.nsIn K mainGlobals "is_mode" = some (some (.ref f_is_mode)))
    (l_is_mode : K.lookup f_is_mode = some ⟨oc_is_mode, od_is_mode, .func (PySem.W.fnOf "is_mode" "is_mode" (defArgs s_is_mode) (defBody s_is_mode) (defScope s_is_mode) .none kV_is_mode dc_is_mode pm_is_mode an_is_mode cd_is_mode ct_is_mode), sl_is_mode⟩)
    (c_is_mode : PySem.W.codeIn K cd_is_mode "is_mode" = true)
    (k_is_mode : PySem.W.keepIn K (.ref f_is_mode) = true)
    (a_is_user : PySem.W.nsIn K mainGlobals "is_user" = some (some (.ref f_is_user)))
    (l_is_user : K.lookup f_is_user = some ⟨oc_is_user, od_is_user, .func (PySem.W.fnOf "is_user" "is_user" (defArgs s_is_user) (defBody s_is_user) (defScope s_is_user) .none kV_is_user dc_is_user pm_is_user an_is_user cd_is_user ct_is_user), sl_is_user⟩)
    (c_is_user : PySem.W.codeIn K cd_is_user "is_user" = true)
    (k_is_user : PySem.W.keepIn K (.ref f_is_user) = true)
    (a_is_queue : PySem.W.nsIn K mainGlobals "is_queue" = some (some (.ref f_is_queue)))
    (l_is_queue : K.lookup f_is_queue = some ⟨oc_is_queue, od_is_queue, .func (PySem.W.fnOf "is_queue" "is_queue" (defArgs s_is_queue) (defBody s_is_queue) (defScope s_is_queue) (.ref t_is_queue) kV_is_queue dc_is_queue pm_is_queue an_is_queue cd_is_queue ct_is_queue), sl_is_queue⟩)
    (c_is_queue : PySem.W.codeIn K cd_is_queue "is_queue" = true)
    (k_is_queue : PySem.W.keepIn K (.ref f_is_queue) = true)
    (lt_is_queue : K.lookup t_is_queue = some ⟨tc_is_queue, td_is_queue, .seq #[.int 100 tu_is_queue] tn_is_queue, ts_is_queue⟩)
    (a_has_letters_only : PySem.W.nsIn K mainGlobals "has_letters_only" = some (some (.ref f_has_letters_only)))
    (l_has_letters_only : K.lookup f_has_letters_only = some ⟨oc_has_letters_only, od_has_letters_only, .func (PySem.W.fnOf "has_letters_only" "has_letters_only" (defArgs s_has_letters_only) (defBody s_has_letters_only) (defScope s_has_letters_only) .none kV_has_letters_only dc_has_letters_only pm_has_letters_only an_has_letters_only cd_has_letters_only ct_has_letters_only), sl_has_letters_only⟩)
    (c_has_letters_only : PySem.W.codeIn K cd_has_letters_only "has_letters_only" = true)
    (k_has_letters_only : PySem.W.keepIn K (.ref f_has_letters_only) = true)
    (a__law_draws : PySem.W.nsIn K mainGlobals "_law_draws" = some (some (.ref f__law_draws)))
    (l__law_draws : K.lookup f__law_draws = some ⟨oc__law_draws, od__law_draws, .func (PySem.W.fnOf "_law_draws" "_law_draws" (defArgs s__law_draws) (defBody s__law_draws) (defScope s__law_draws) .none kV__law_draws dc__law_draws pm__law_draws an__law_draws cd__law_draws ct__law_draws), sl__law_draws⟩)
    (c__law_draws : PySem.W.codeIn K cd__law_draws "_law_draws" = true)
    (k__law_draws : PySem.W.keepIn K (.ref f__law_draws) = true)
    (a__law_draw : PySem.W.nsIn K mainGlobals "_law_draw" = some (some (.ref f__law_draw)))
    (l__law_draw : K.lookup f__law_draw = some ⟨oc__law_draw, od__law_draw, .func (PySem.W.fnOf "_law_draw" "_law_draw" (defArgs s__law_draw) (defBody s__law_draw) (defScope s__law_draw) .none kV__law_draw dc__law_draw pm__law_draw an__law_draw cd__law_draw ct__law_draw), sl__law_draw⟩)
    (c__law_draw : PySem.W.codeIn K cd__law_draw "_law_draw" = true)
    (k__law_draw : PySem.W.keepIn K (.ref f__law_draw) = true)
    (a__law_checks : PySem.W.nsIn K mainGlobals "_law_checks" = some (some (.ref f__law_checks)))
    (l__law_checks : K.lookup f__law_checks = some ⟨oc__law_checks, od__law_checks, .func (PySem.W.fnOf "_law_checks" "_law_checks" (defArgs s__law_checks) (defBody s__law_checks) (defScope s__law_checks) .none kV__law_checks dc__law_checks pm__law_checks an__law_checks cd__law_checks ct__law_checks), sl__law_checks⟩)
    (c__law_checks : PySem.W.codeIn K cd__law_checks "_law_checks" = true)
    (k__law_checks : PySem.W.keepIn K (.ref f__law_checks) = true)
    (a__law_rejected : PySem.W.nsIn K mainGlobals "_law_rejected" = some (some (.ref f__law_rejected)))
    (l__law_rejected : K.lookup f__law_rejected = some ⟨oc__law_rejected, od__law_rejected, .func (PySem.W.fnOf "_law_rejected" "_law_rejected" (defArgs s__law_rejected) (defBody s__law_rejected) (defScope s__law_rejected) .none kV__law_rejected dc__law_rejected pm__law_rejected an__law_rejected cd__law_rejected ct__law_rejected), sl__law_rejected⟩)
    (c__law_rejected : PySem.W.codeIn K cd__law_rejected "_law_rejected" = true)
    (k__law_rejected : PySem.W.keepIn K (.ref f__law_rejected) = true)
    (a_law : PySem.W.nsIn K mainGlobals "law" = some (some (.ref f_law)))
    (l_law : K.lookup f_law = some ⟨oc_law, od_law, .func (PySem.W.fnOf "law" "law" (defArgs s_law) (defBody s_law) (defScope s_law) .none kV_law dc_law pm_law an_law cd_law ct_law), sl_law⟩)
    (c_law : PySem.W.codeIn K cd_law "law" = true)
    (k_law : PySem.W.keepIn K (.ref f_law) = true)
    (z_bool : PySem.W.nsIn K mainGlobals "bool" = some none)
    (z_int : PySem.W.nsIn K mainGlobals "int" = some none)
    (z_isinstance : PySem.W.nsIn K mainGlobals "isinstance" = some none)
    (z_len : PySem.W.nsIn K mainGlobals "len" = some none)
    (z_max : PySem.W.nsIn K mainGlobals "max" = some none)
    (z_range : PySem.W.nsIn K mainGlobals "range" = some none)
    (z_str : PySem.W.nsIn K mainGlobals "str" = some none)
    (n_LETTERS : PySem.W.nsIn K mainGlobals "LETTERS" = some (some (.str "abcdefghijklmnopqrstuvwxyz" u_LETTERS)))
    (n_MODES : PySem.W.nsIn K mainGlobals "MODES" = some (some (.ref p_MODES)))
    (l_MODES : K.lookup p_MODES = some ⟨.type "tuple", md_MODES, .seq #[.str "oldest" u1_MODES, .str "newest" u2_MODES, .str "strict" u3_MODES] mn_MODES, ms_MODES⟩)
    (n_MOST_CAPACITY : PySem.W.nsIn K mainGlobals "MOST_CAPACITY" = some (some (.int 100 u_MOST_CAPACITY)))
    (n_LONGEST_USER : PySem.W.nsIn K mainGlobals "LONGEST_USER" = some (some (.int 8 u_LONGEST_USER)))
    (gx_InvalidCapacity : PySem.W.nsIn K mainGlobals "InvalidCapacity" = some (some (.ref x_InvalidCapacity)))
    (q_InvalidCapacity : PySem.W.excIn K x_InvalidCapacity [.type "ValueError", .type "Exception", .type "BaseException", .type "object"] "ValueError.__new__" = true)
    (k_InvalidCapacity : PySem.W.keepIn K (.ref x_InvalidCapacity) = true)
    (b_InvalidCapacity : PySem.W.subIn K (.ref x_InvalidCapacity) (.type "BaseException") = some true)
    (t_InvalidCapacity : PySem.W.typeIn K (.ref x_InvalidCapacity) = some (.type "type"))
    (i_InvalidCapacity : PySem.W.isClsIn K x_InvalidCapacity = true)
    (s_InvalidCapacity : PySem.W.subIn K (.ref x_InvalidCapacity) (.ref x_InvalidCapacity) = some true)
    : ∃ fd : FuncData, (∀ (s : Shared) (v : Value), BindsTo s fd ⟨[v], []⟩ [("_law_script", v)]) ∧ ∀ base : Heap, K.In base → base.Ns mainGlobals mg → FnOk l.prog w K mg base CX0 6 fa fd ["_law_script"] (spLaw K) := by
  have e := hfa.symm.trans (PySem.W.mg_of X G a_law)
  cases e
  have F_is_int := fun_mk (st := s_is_int) l_is_int c_is_int k_is_int
  have b_is_int := F_is_int.binds (ps := ["value"]) fun _ _ _ _ _ _ us hl => match us, hl with | [_], _ => rfl
  have F_is_int_between := fun_mk (st := s_is_int_between) l_is_int_between c_is_int_between k_is_int_between
  have b_is_int_between := F_is_int_between.binds (ps := ["value", "least", "most"]) fun _ _ _ _ _ _ us hl => match us, hl with | [_, _, _], _ => rfl
  have F_is_letter := fun_mk (st := s_is_letter) l_is_letter c_is_letter k_is_letter
  have b_is_letter := F_is_letter.binds (ps := ["value"]) fun _ _ _ _ _ _ us hl => match us, hl with | [_], _ => rfl
  have F_is_capacity := fun_mk (st := s_is_capacity) l_is_capacity c_is_capacity k_is_capacity
  have b_is_capacity := F_is_capacity.binds (ps := ["value"]) fun _ _ _ _ _ _ us hl => match us, hl with | [_], _ => rfl
  have F_is_mode := fun_mk (st := s_is_mode) l_is_mode c_is_mode k_is_mode
  have b_is_mode := F_is_mode.binds (ps := ["value"]) fun _ _ _ _ _ _ us hl => match us, hl with | [_], _ => rfl
  have F_is_user := fun_mk (st := s_is_user) l_is_user c_is_user k_is_user
  have b_is_user := F_is_user.binds (ps := ["value"]) fun _ _ _ _ _ _ us hl => match us, hl with | [_], _ => rfl
  have F_is_queue : FunD K "is_queue" "is_queue" (defArgs s_is_queue) (defBody s_is_queue) (defScope s_is_queue) [.int 100] [] f_is_queue _ := ⟨⟨oc_is_queue, od_is_queue, _, kV_is_queue, dc_is_queue, pm_is_queue, an_is_queue, cd_is_queue, ct_is_queue, sl_is_queue, rfl, l_is_queue, c_is_queue, .inr ⟨by simp, t_is_queue, _, _, tn_is_queue, rfl, lt_is_queue, rfl, .cons ⟨_, rfl⟩ .nil⟩, .inl rfl⟩, k_is_queue⟩
  obtain ⟨e_is_queue, v_is_queue, bd_is_queue⟩ := F_is_queue.binds1 (ps := ["value", "capacity"]) 1 0 (by simp) (by rfl) fun _ _ _ _ _ _ _ us its hl hl2 => match us, hl, its, hl2 with | [_], _, [_], _ => ⟨_, rfl, rfl⟩
  obtain ⟨ez_is_queue, vz_is_queue, b_is_queue⟩ := F_is_queue.binds1 (ps := ["value", "capacity"]) 2 1 (by simp) (by rfl) fun _ _ _ _ _ _ _ us its hl hl2 => match us, hl, its, hl2 with | [_, _], _, [_], _ => ⟨_, rfl, rfl⟩
  cases vz_is_queue
  have F_has_letters_only := fun_mk (st := s_has_letters_only) l_has_letters_only c_has_letters_only k_has_letters_only
  have b_has_letters_only := F_has_letters_only.binds (ps := ["value"]) fun _ _ _ _ _ _ us hl => match us, hl with | [_], _ => rfl
  have F__law_draws := fun_mk (st := s__law_draws) l__law_draws c__law_draws k__law_draws
  have b__law_draws := F__law_draws.binds (ps := ["_law_script", "_law_k"]) fun _ _ _ _ _ _ us hl => match us, hl with | [_, _], _ => rfl
  have F__law_draw := fun_mk (st := s__law_draw) l__law_draw c__law_draw k__law_draw
  have b__law_draw := F__law_draw.binds (ps := ["_law_draws_here", "_law_upto"]) fun _ _ _ _ _ _ us hl => match us, hl with | [_, _], _ => rfl
  have F__law_checks := fun_mk (st := s__law_checks) l__law_checks c__law_checks k__law_checks
  have b__law_checks := F__law_checks.binds (ps := ["_law_value"]) fun _ _ _ _ _ _ us hl => match us, hl with | [_], _ => rfl
  have F__law_rejected := fun_mk (st := s__law_rejected) l__law_rejected c__law_rejected k__law_rejected
  have b__law_rejected := F__law_rejected.binds (ps := ["_law_value"]) fun _ _ _ _ _ _ us hl => match us, hl with | [_], _ => rfl
  have F_law := fun_mk (st := s_law) l_law c_law k_law
  have b_law := F_law.binds (ps := ["_law_script"]) fun _ _ _ _ _ _ us hl => match us, hl with | [_], _ => rfl
  let T : Top K mg := { a_is_int := f_is_int, d_is_int := _, F_is_int := F_is_int, b_is_int := b_is_int, m_is_int := PySem.W.mg_of X G a_is_int, a_is_int_between := f_is_int_between, d_is_int_between := _, F_is_int_between := F_is_int_between, b_is_int_between := b_is_int_between, m_is_int_between := PySem.W.mg_of X G a_is_int_between, a_is_letter := f_is_letter, d_is_letter := _, F_is_letter := F_is_letter, b_is_letter := b_is_letter, m_is_letter := PySem.W.mg_of X G a_is_letter, a_is_capacity := f_is_capacity, d_is_capacity := _, F_is_capacity := F_is_capacity, b_is_capacity := b_is_capacity, m_is_capacity := PySem.W.mg_of X G a_is_capacity, a_is_mode := f_is_mode, d_is_mode := _, F_is_mode := F_is_mode, b_is_mode := b_is_mode, m_is_mode := PySem.W.mg_of X G a_is_mode, a_is_user := f_is_user, d_is_user := _, F_is_user := F_is_user, b_is_user := b_is_user, m_is_user := PySem.W.mg_of X G a_is_user, a_is_queue := f_is_queue, d_is_queue := _, F_is_queue := F_is_queue, b_is_queue := b_is_queue, e_is_queue := e_is_queue, v_is_queue := v_is_queue, bd_is_queue := bd_is_queue, m_is_queue := PySem.W.mg_of X G a_is_queue, a_has_letters_only := f_has_letters_only, d_has_letters_only := _, F_has_letters_only := F_has_letters_only, b_has_letters_only := b_has_letters_only, m_has_letters_only := PySem.W.mg_of X G a_has_letters_only, a__law_draws := f__law_draws, d__law_draws := _, F__law_draws := F__law_draws, b__law_draws := b__law_draws, m__law_draws := PySem.W.mg_of X G a__law_draws, a__law_draw := f__law_draw, d__law_draw := _, F__law_draw := F__law_draw, b__law_draw := b__law_draw, m__law_draw := PySem.W.mg_of X G a__law_draw, a__law_checks := f__law_checks, d__law_checks := _, F__law_checks := F__law_checks, b__law_checks := b__law_checks, m__law_checks := PySem.W.mg_of X G a__law_checks, a__law_rejected := f__law_rejected, d__law_rejected := _, F__law_rejected := F__law_rejected, b__law_rejected := b__law_rejected, m__law_rejected := PySem.W.mg_of X G a__law_rejected, a_law := fa, d_law := _, F_law := F_law, b_law := b_law, m_law := PySem.W.mg_of X G a_law, z_bool := PySem.W.mg_none_of X G z_bool, z_int := PySem.W.mg_none_of X G z_int, z_isinstance := PySem.W.mg_none_of X G z_isinstance, z_len := PySem.W.mg_none_of X G z_len, z_max := PySem.W.mg_none_of X G z_max, z_range := PySem.W.mg_none_of X G z_range, z_str := PySem.W.mg_none_of X G z_str, u_LETTERS := u_LETTERS, c_LETTERS := PySem.W.mg_of X G n_LETTERS, p_MODES := p_MODES, c_MODES := PySem.W.mg_of X G n_MODES, t_MODES := fun H => Or.inr ⟨_, _, _, l_MODES, rfl, rfl, (show 3 ≤ sizeLine by decide), .cons ⟨_, rfl⟩ (.cons ⟨_, rfl⟩ (.cons ⟨_, rfl⟩ .nil))⟩, u_MOST_CAPACITY := u_MOST_CAPACITY, c_MOST_CAPACITY := PySem.W.mg_of X G n_MOST_CAPACITY, u_LONGEST_USER := u_LONGEST_USER, c_LONGEST_USER := PySem.W.mg_of X G n_LONGEST_USER, x_InvalidCapacity := x_InvalidCapacity, g_InvalidCapacity := PySem.W.mg_of X G gx_InvalidCapacity, q_InvalidCapacity := q_InvalidCapacity, k_InvalidCapacity := k_InvalidCapacity, b_InvalidCapacity := b_InvalidCapacity, t_InvalidCapacity := t_InvalidCapacity, e_InvalidCapacity := exm_self b_InvalidCapacity i_InvalidCapacity t_InvalidCapacity s_InvalidCapacity }
  exact ⟨T.d_law, fun s v => .of_eq rfl, fun base _ _ => ok_law (P := l.prog) (w := w) (base := base) T⟩
theorem walk {l : PySem.W.OpenLaw} {q : Program} {loose : List Str} {XP : (Str → Option Value) → Heap → Prop} {YP : World → Heap → Prop} {d : DefRec} {K : Params → PySem.W.Frag} (hn : l.most = some 63) (hdf : d.params.defaults = [])
    (hY : ∀ (w : World) (h : Heap), YP w h → (K w.params).In h)
    (F : ∀ (w : World) (mg : Str → Option Value) (fa : Addr) (h : Heap), (K w.params).In h → h.Ns mainGlobals mg → mg d.name = some (.ref fa) →
      ∃ fd : FuncData, (∀ (s : Shared) (u : Value), BindsTo s fd ⟨[u], []⟩ [("_law_script", u)]) ∧ ∀ base : Heap, (K w.params).In base → base.Ns mainGlobals mg → FnOk l.prog w (K w.params) mg base CX0 6 fa fd ["_law_script"] (spLaw (K w.params))) :
    PySem.W.WalkO q loose XP YP l.row.toRowW d [] (fun f vs => PySem.call f vs) :=
  L2.walk_of (n := 63) (k := 6) (x := "_law_script") (CX := fun _ => CX0) (sp := fun w => spLaw (K w.params)) hn (by decide) hdf ⟨rfl, by decide, by decide⟩ hY F (fun _ _ a ns hl _ hS => ⟨a, ns, rfl, hS, hl, fun _ => rfl⟩) fun _ _ _ _ _ z => z
end My
open PySem PySem.W PyProof.Rows
set_option maxRecDepth 100000 in
set_option maxHeartbeats 0 in
theorem PySem.Challenge.cw_fullqueue_k01_letters_and_queues_holds : PySem.Challenge.rw_fullqueue_k01_letters_and_queues.Holds := by
  w_on; o_law; k_head; (case hw => w_witness2)
  k_fill
  refine My.walk (l := PySem.Challenge.rw_fullqueue_k01_letters_and_queues) rfl rfl (fun w h Y => PySem.W.kIn_of Y) ?F
  case F =>
    intro w mg fa h KX G hmg
    refine' My.all_mk KX G hmg ?a_is_int ?l_is_int ?c_is_int ?k_is_int ?a_is_int_between ?l_is_int_between ?c_is_int_between ?k_is_int_between ?a_is_letter ?l_is_letter ?c_is_letter ?k_is_letter ?a_is_capacity ?l_is_capacity ?c_is_capacity ?k_is_capacity ?a_is_mode ?l_is_mode ?c_is_mode ?k_is_mode ?a_is_user ?l_is_user ?c_is_user ?k_is_user ?a_is_queue ?l_is_queue ?c_is_queue ?k_is_queue ?lt_is_queue ?a_has_letters_only ?l_has_letters_only ?c_has_letters_only ?k_has_letters_only ?a__law_draws ?l__law_draws ?c__law_draws ?k__law_draws ?a__law_draw ?l__law_draw ?c__law_draw ?k__law_draw ?a__law_checks ?l__law_checks ?c__law_checks ?k__law_checks ?a__law_rejected ?l__law_rejected ?c__law_rejected ?k__law_rejected ?a_law ?l_law ?c_law ?k_law ?z_bool ?z_int ?z_isinstance ?z_len ?z_max ?z_range ?z_str ?n_LETTERS ?n_MODES ?l_MODES ?n_MOST_CAPACITY ?n_LONGEST_USER ?gx_InvalidCapacity ?q_InvalidCapacity ?k_InvalidCapacity ?b_InvalidCapacity ?t_InvalidCapacity ?i_InvalidCapacity ?s_InvalidCapacity
    (case a_is_int => k_is)
    (case l_is_int => k_is)
    (case c_is_int => k_is)
    (case k_is_int => k_is)
    (case a_is_int_between => k_is)
    (case l_is_int_between => k_is)
    (case c_is_int_between => k_is)
    (case k_is_int_between => k_is)
    (case a_is_letter => k_is)
    (case l_is_letter => k_is)
    (case c_is_letter => k_is)
    (case k_is_letter => k_is)
    (case a_is_capacity => k_is)
    (case l_is_capacity => k_is)
    (case c_is_capacity => k_is)
    (case k_is_capacity => k_is)
    (case a_is_mode => k_is)
    (case l_is_mode => k_is)
    (case c_is_mode => k_is)
    (case k_is_mode => k_is)
    (case a_is_user => k_is)
    (case l_is_user => k_is)
    (case c_is_user => k_is)
    (case k_is_user => k_is)
    (case a_is_queue => k_is)
    (case l_is_queue => k_is)
    (case c_is_queue => k_is)
    (case k_is_queue => k_is)
    (case lt_is_queue => k_is)
    (case a_has_letters_only => k_is)
    (case l_has_letters_only => k_is)
    (case c_has_letters_only => k_is)
    (case k_has_letters_only => k_is)
    (case a__law_draws => k_is)
    (case l__law_draws => k_is)
    (case c__law_draws => k_is)
    (case k__law_draws => k_is)
    (case a__law_draw => k_is)
    (case l__law_draw => k_is)
    (case c__law_draw => k_is)
    (case k__law_draw => k_is)
    (case a__law_checks => k_is)
    (case l__law_checks => k_is)
    (case c__law_checks => k_is)
    (case k__law_checks => k_is)
    (case a__law_rejected => k_is)
    (case l__law_rejected => k_is)
    (case c__law_rejected => k_is)
    (case k__law_rejected => k_is)
    (case a_law => k_is)
    (case l_law => k_is)
    (case c_law => k_is)
    (case k_law => k_is)
    (case z_bool => k_is)
    (case z_int => k_is)
    (case z_isinstance => k_is)
    (case z_len => k_is)
    (case z_max => k_is)
    (case z_range => k_is)
    (case z_str => k_is)
    (case n_LETTERS => k_is)
    (case n_MODES => k_is)
    (case l_MODES => k_is)
    (case n_MOST_CAPACITY => k_is)
    (case n_LONGEST_USER => k_is)
    (case gx_InvalidCapacity => k_is)
    (case q_InvalidCapacity => k_exc)
    (case k_InvalidCapacity => k_is)
    (case b_InvalidCapacity => k_is)
    (case t_InvalidCapacity => k_is)
    (case i_InvalidCapacity => k_is)
    (case s_InvalidCapacity => k_is)
#print axioms PySem.Challenge.cw_fullqueue_k01_letters_and_queues_holds


