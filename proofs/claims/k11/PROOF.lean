import PyProof.Rows.All
import Wide.All
import OpenK.AllK
import Wide.FinOn
import KE.KExcLine
import KE.KExcSuper
import KE.KIntText
import KE.KOpsOwn
import PyProof.InstNe
import HandS.ForMost
import HandS.ForExc
import HandS.ExcInit
import HandS.IsInst
import HandS.StrMore
import HandS.Defaults
import HandS.Wide
import HandS.WordsExc
import HandS.FStr
import HandS.Style
import HandS.Flow
import HandS.Flt
import HandS.Conv
import HandS.Property
import PyProof.Draws
import PyProof.EnumMake
import KE.GoesMore
import HandS.ClsMeth
import HandS.MakeKwOnly
import HandS.ReplaceList
import PySem.Challenge.RW_fullqueue_k11_capacities_of_programs
set_option Elab.async false
set_option linter.all false
set_option maxRecDepth 100000
set_option maxHeartbeats 4000000
namespace My
open PySem
/-! ### strip of all letters leaves nothing exactly where all signs are letters -/
theorem takeWhile_all {α : Type} {p : α → Bool} : ∀ {l : List α}, l.all p = true → l.takeWhile p = l
  | [], _ => rfl
  | a :: l, h => by
    rw [List.all_cons, Bool.and_eq_true] at h
    rw [List.takeWhile_cons, h.1]
    exact congrArg (a :: ·) (takeWhile_all h.2)
theorem takeWhile_len {α : Type} {p : α → Bool} {l : List α} (h : l.length ≤ (l.takeWhile p).length) : l.all p = true := by
  have e := List.takeWhile_append_dropWhile (p := p) (l := l)
  have hd : (l.dropWhile p).length = 0 := by
    have := congrArg List.length e
    rw [List.length_append] at this
    omega
  have hd' := List.eq_nil_of_length_eq_zero hd
  rw [List.all_eq_true]
  intro x hx
  rw [← e, hd', List.append_nil] at hx
  exact List.all_eq_true.mp List.all_takeWhile x hx
theorem str_ext {x y : Str} (h : x.cps.toList = y.cps.toList) : x = y := by
  obtain ⟨⟨a⟩⟩ := x
  obtain ⟨⟨b⟩⟩ := y
  cases (show a = b from h)
  rfl
theorem strip_none {x : Str} {g : Nat → Bool} (h : x.cps.toList.all g = true) : (Txt.stripBy g true true x).cps.toList = [] := by
  have e := takeWhile_all h
  have lo : stripLo g true x = x.length := by
    show (x.cps.toList.takeWhile g).length = x.cps.size
    rw [e]; simp
  have hi : stripHi g true x x.length = x.length := by
    show x.length - ((x.cps.toList.drop x.cps.size).reverse.takeWhile g).length = x.length
    have : x.cps.toList.drop x.cps.size = [] := by
      rw [List.drop_eq_nil_iff]; simp
    rw [this]; simp
  unfold Txt.stripBy
  split
  · rename_i hs
    unfold stripSame at hs
    rw [lo] at hs
    simp only [Bool.and_eq_true, beq_iff_eq] at hs
    have h0 : x.cps.size = 0 := hs.1
    have : x.cps.toList.length = 0 := by simpa using h0
    exact List.eq_nil_of_length_eq_zero this
  · unfold stripped
    rw [lo, hi]
    show (x.cps.extract x.cps.size x.cps.size).toList = []
    simp
theorem strip_some {x : Str} {g : Nat → Bool} (h : (Txt.stripBy g true true x).cps.toList = []) : x.cps.toList.all g = true := by
  unfold Txt.stripBy at h
  split at h
  · rw [h]; rfl
  · unfold stripped at h
    have h1 : (x.cps.extract (stripLo g true x) (stripHi g true x (stripLo g true x))).toList = [] := h
    have hle : stripHi g true x (stripLo g true x) ≤ stripLo g true x := by
      have h2 : (x.cps.extract (stripLo g true x) (stripHi g true x (stripLo g true x))).size = 0 := by
        rw [← Array.length_toList, h1]; rfl
      rw [Array.size_extract] at h2
      have h3 : stripHi g true x (stripLo g true x) ≤ x.cps.size := Nat.sub_le _ _
      omega
    -- what is left at the end is no more than what stands behind lo
    have hlo : stripLo g true x = (x.cps.toList.takeWhile g).length := rfl
    have hhi : stripHi g true x (stripLo g true x) = x.cps.size - ((x.cps.toList.drop (stripLo g true x)).reverse.takeWhile g).length := rfl
    have hsz : x.cps.toList.length = x.cps.size := Array.length_toList
    have hdl : (x.cps.toList.drop (stripLo g true x)).length = x.cps.size - stripLo g true x := by rw [List.length_drop, hsz]
    have hlo2 : stripLo g true x ≤ x.cps.size := by
      rw [hlo, ← hsz]
      exact (List.takeWhile_sublist _).length_le
    have hle2 : (x.cps.toList.drop (stripLo g true x)).reverse.length ≤ ((x.cps.toList.drop (stripLo g true x)).reverse.takeWhile g).length := by
      rw [List.length_reverse, hdl]
      omega
    have h4 := takeWhile_len hle2
    rw [List.all_reverse] at h4
    -- the rest behind the first stretch holds g everywhere, so the stretch is the whole
    have e := List.takeWhile_append_dropWhile (p := g) (l := x.cps.toList)
    have h5 : x.cps.toList.drop (stripLo g true x) = x.cps.toList.dropWhile g := by
      have : x.cps.toList.drop (x.cps.toList.takeWhile g).length = x.cps.toList.dropWhile g := by
        conv => lhs; rw [← e]
        rw [e]
        have := List.drop_left (l₁ := x.cps.toList.takeWhile g) (l₂ := x.cps.toList.dropWhile g)
        rw [e] at this
        exact this
      exact this
    rw [h5] at h4
    rw [← e, List.all_append, h4]
    have : (x.cps.toList.takeWhile g).all g = true := List.all_takeWhile
    rw [this]; rfl
def letters : Str := "abcdefghijklmnopqrstuvwxyz"
def isLet (c : Nat) : Bool := decide (97 ≤ c) && decide (c ≤ 122)
def lettersOnly (s : Str) : Bool := s.cps.toList.all isLet
theorem letters_has (c : Nat) : letters.cps.contains c = isLet c := by
  have e : letters.cps = #[97,98,99,100,101,102,103,104,105,106,107,108,109,110,111,112,113,114,115,116,117,118,119,120,121,122] := by decide +kernel
  rw [e, Bool.eq_iff_iff, Array.contains_iff_mem]
  unfold isLet
  simp only [List.mem_toArray, List.mem_cons, List.not_mem_nil, or_false, Bool.and_eq_true, decide_eq_true_eq]
  omega
theorem goes_is : letters.cps.contains = isLet := funext letters_has
theorem strip_is (s : Str) : decide (Txt.stripChars s letters = ("" : Str)) = lettersOnly s := by
  unfold Txt.stripChars lettersOnly
  rw [goes_is]
  by_cases h : s.cps.toList.all isLet = true
  · rw [h, decide_eq_true_eq]
    exact str_ext (by rw [strip_none h]; decide +kernel)
  · have h' : s.cps.toList.all isLet = false := by simpa using h
    rw [h', decide_eq_false_iff_not]
    intro e
    apply h
    apply strip_some
    rw [e]
    decide +kernel
end My

/-! ### programs: trees, what they stand for, how their texts are read -/
namespace My
open PySem PySem.NumText
def isStep (c : Nat) : Bool := isLet c || decide (c = 45)
def isDig (c : Nat) : Bool := decide (48 ≤ c) && decide (c ≤ 57)
def digs (n : Nat) : List Nat := (Nat.toDigits 10 n).map Char.toNat
def rcount (ds : List Nat) : Option Nat :=
  if ds.length = 0 ∨ 31 < ds.length then none else if digitsVal ds ≤ 10 ^ 30 ∧ digs (digitsVal ds) = ds then some (digitsVal ds) else none
inductive Parts where
  | nil
  | seq (s : List Nat) (r : Parts)
  | rep (b : Parts) (n : Nat) (r : Parts)
namespace Parts
def den : Parts → List Nat
  | nil => []
  | seq s r => s ++ den r
  | rep b n r => (List.replicate n (den b)).flatten ++ den r
def dep : Parts → Nat
  | nil => 0
  | seq _ r => dep r
  | rep b _ r => max (dep b + 1) (dep r)
def app : Parts → Parts → Parts
  | nil, q => q
  | seq s r, q => seq s (app r q)
  | rep b n r, q => rep b n (app r q)
/-- every sequence holds at least one step, steps alone; every count is at most 10 ** 30 -/
def ok : Parts → Prop
  | nil => True
  | seq s r => s ≠ [] ∧ s.all isStep = true ∧ ok r
  | rep b n r => ok b ∧ n ≤ 10 ^ 30 ∧ ok r
/-- the signs of all sequences together -/
def vol : Parts → Nat
  | nil => 0
  | seq s r => s.length + vol r
  | rep b _ r => vol b + vol r
theorem den_app : ∀ p q : Parts, (app p q).den = p.den ++ q.den
  | nil, q => rfl
  | seq s r, q => by rw [app, den, den, den_app r q, List.append_assoc]
  | rep b n r, q => by rw [app, den, den, den_app r q, List.append_assoc]
theorem dep_app : ∀ p q : Parts, (app p q).dep = max p.dep q.dep
  | nil, q => by rw [app, dep]; omega
  | seq s r, q => by rw [app, dep, dep, dep_app r q]
  | rep b n r, q => by rw [app, dep, dep, dep_app r q]; omega
theorem ok_app : ∀ {p q : Parts}, p.ok → q.ok → (app p q).ok
  | nil, _, _, h => h
  | seq _ _, _, ⟨h1, h2, h3⟩, h => ⟨h1, h2, ok_app h3 h⟩
  | rep _ _ _, _, ⟨h1, h2, h3⟩, h => ⟨h1, h2, ok_app h3 h⟩
theorem vol_app : ∀ p q : Parts, (app p q).vol = p.vol + q.vol
  | nil, q => by rw [app, vol]; omega
  | seq s r, q => by rw [app, vol, vol, vol_app r q]; omega
  | rep b n r, q => by rw [app, vol, vol, vol_app r q]; omega
theorem app_nil : ∀ p : Parts, app p nil = p
  | nil => rfl
  | seq s r => by rw [app, app_nil r]
  | rep b n r => by rw [app, app_nil r]
end Parts
open Parts
theorem len_frep (l : List Nat) (k : Nat) : (List.replicate k l).flatten.length = k * l.length := by
  induction k with
  | zero => simp
  | succ k ih => rw [List.replicate_succ, List.flatten_cons, List.length_append, ih, Nat.succ_mul]; omega
theorem den_le : ∀ {p : Parts}, p.ok → p.den.length ≤ p.vol * 2 ^ (100 * p.dep)
  | .nil, _ => Nat.zero_le _
  | .seq s r, h => by
    have h1 := den_le h.2.2
    rw [den, List.length_append, vol, dep, Nat.add_mul]
    have h2 : s.length * 1 ≤ s.length * 2 ^ (100 * r.dep) := Nat.mul_le_mul_left _ (Nat.one_le_two_pow)
    omega
  | .rep b n r, h => by
    have h1 := den_le h.1
    have h2 := den_le h.2.2
    rw [den, List.length_append, vol, dep, Nat.add_mul, len_frep]
    have e : n ≤ 2 ^ 100 := Nat.le_trans h.2.1 (by decide)
    have g1 : n * b.den.length ≤ b.vol * 2 ^ (100 * max (b.dep + 1) r.dep) := by
      calc n * b.den.length ≤ 2 ^ 100 * (b.vol * 2 ^ (100 * b.dep)) := Nat.mul_le_mul e h1
        _ = b.vol * 2 ^ (100 * (b.dep + 1)) := by rw [Nat.mul_left_comm, ← Nat.pow_add, Nat.mul_add, Nat.mul_one, Nat.add_comm 100]
        _ ≤ _ := Nat.mul_le_mul_left _ (Nat.pow_le_pow_right (by decide) (by omega))
    have g2 : r.vol * 2 ^ (100 * r.dep) ≤ r.vol * 2 ^ (100 * max (b.dep + 1) r.dep) := Nat.mul_le_mul_left _ (Nat.pow_le_pow_right (by decide) (by omega))
    omega
theorem den_lt {p : Parts} (h : p.ok) (hv : p.vol ≤ 100000) {d : Nat} (hd : p.dep ≤ d) : p.den.length < 2 ^ (17 + 100 * d) := by
  refine Nat.lt_of_le_of_lt (den_le h) ?_
  rw [Nat.pow_add]
  exact Nat.mul_lt_mul_of_lt_of_le (Nat.lt_of_le_of_lt hv (by decide)) (Nat.pow_le_pow_right (by decide) (by omega)) (Nat.two_pow_pos _)
/-- one turn of the reader: the open lists (the innermost first), the list at hand, what is left -/
def stp (os : List Parts) (ps : Parts) (c : Nat) (r : List Nat) : Option (List Parts × Parts × List Nat) :=
  if c = 40 then (if os.length + 1 ≤ 20 then some (ps :: os, nil, r) else none)
  else if c = 41 then
    match rcount (r.takeWhile isDig), os with
    | some n, o :: os' => if os'.length ≤ 20 then some (os', app o (rep ps n nil), r.dropWhile isDig) else none
    | _, _ => none
  else if isStep c then (if os.length ≤ 20 then some (os, app ps (seq ((c :: r).takeWhile isStep) nil), (c :: r).dropWhile isStep) else none) else none
def rpF : Nat → List Parts → Parts → List Nat → Option Parts
  | 0, _, _, _ => none
  | _ + 1, os, ps, [] => if os.length = 0 then some ps else none
  | k + 1, os, ps, c :: r => match stp os ps c r with
    | none => none
    | some (os', ps', r') => rpF k os' ps' r'
def rpt (t : List Nat) : Option Parts := rpF (t.length + 1) [] nil t
theorem len_dropWhile (p : Nat → Bool) : ∀ l : List Nat, (l.dropWhile p).length ≤ l.length
  | [] => Nat.le_refl _
  | a :: l => by
    rw [List.dropWhile_cons]
    have := len_dropWhile p l
    split
    · rw [List.length_cons]; omega
    · exact Nat.le_refl _
theorem stp_less {os ps c r os' ps' r'} (h : stp os ps c r = some (os', ps', r')) : r'.length ≤ r.length := by
  unfold stp at h
  have d1 := len_dropWhile isDig r
  have d2 := len_dropWhile isStep r
  split at h
  · split at h
    · simp only [Option.some.injEq, Prod.mk.injEq] at h; rw [← h.2.2]; exact Nat.le_refl _
    · cases h
  · split at h
    · split at h
      · split at h
        · simp only [Option.some.injEq, Prod.mk.injEq] at h; rw [← h.2.2]; exact d1
        · cases h
      · cases h
    · split at h
      · rename_i hc
        split at h
        · simp only [Option.some.injEq, Prod.mk.injEq] at h; rw [← h.2.2, List.dropWhile_cons, if_pos hc]; exact d2
        · cases h
      · cases h
/-- how deep what is read may be -/
def deeps : List Parts → Prop
  | [] => True
  | o :: os => o.dep + os.length ≤ 20 ∧ o.ok ∧ deeps os
theorem all_takeWhile' (p : Nat → Bool) (l : List Nat) : (l.takeWhile p).all p = true := List.all_takeWhile
theorem rcount_le {ds : List Nat} {n : Nat} (h : rcount ds = some n) : n ≤ 10 ^ 30 := by
  unfold rcount at h
  split at h
  · cases h
  · split at h
    · rename_i h2
      simp only [Option.some.injEq] at h
      omega
    · cases h
theorem stp_deep {os ps c r os' ps' r'} (h : stp os ps c r = some (os', ps', r')) (h1 : deeps os) (h2 : ps.dep + os.length ≤ 20) (h3 : ps.ok) : deeps os' ∧ ps'.dep + os'.length ≤ 20 ∧ ps'.ok := by
  unfold stp at h
  split at h
  · split at h
    · rename_i h20
      simp only [Option.some.injEq, Prod.mk.injEq] at h
      obtain ⟨rfl, rfl, _⟩ := h
      refine ⟨⟨h2, h3, h1⟩, ?_, trivial⟩
      rw [dep, List.length_cons]; omega
    · cases h
  · split at h
    · split at h
      · rename_i n o os2 hn
        split at h
        · simp only [Option.some.injEq, Prod.mk.injEq] at h
          obtain ⟨rfl, rfl, _⟩ := h
          obtain ⟨g1, g2, g3⟩ := h1
          rw [List.length_cons] at h2
          refine ⟨g3, ?_, ok_app g2 ⟨h3, rcount_le hn, trivial⟩⟩
          rw [dep_app, dep, dep]; omega
        · cases h
      · cases h
    · split at h
      · rename_i hc
        split at h
        · simp only [Option.some.injEq, Prod.mk.injEq] at h
          obtain ⟨rfl, rfl, _⟩ := h
          refine ⟨h1, ?_, ok_app h3 ⟨?_, all_takeWhile' _ _, trivial⟩⟩
          · rw [dep_app, dep, dep]; omega
          · rw [List.takeWhile_cons, if_pos hc]; simp
        · cases h
      · cases h
theorem rpF_deep : ∀ {k os ps r q}, rpF k os ps r = some q → deeps os → ps.dep + os.length ≤ 20 → ps.ok → q.dep ≤ 20 ∧ q.ok
  | 0, _, _, _, _, h, _, _, _ => by cases h
  | _ + 1, os, ps, [], q, h, _, h2, h3 => by
    rw [rpF] at h
    split at h
    · cases h; exact ⟨by omega, h3⟩
    · cases h
  | k + 1, os, ps, c :: r, q, h, h1, h2, h3 => by
    rw [rpF] at h
    split at h
    · cases h
    · rename_i os' ps' r' e
      obtain ⟨g1, g2, g3⟩ := stp_deep e h1 h2 h3
      exact rpF_deep h g1 g2 g3
theorem rpt_deep {t : List Nat} {q : Parts} (h : rpt t = some q) : q.dep ≤ 20 ∧ q.ok := rpF_deep h trivial (by simp [dep]) trivial
/-! ### numbers in digits -/
theorem digs_dig (n : Nat) : (digs n).all isDig = true := by
  rw [List.all_eq_true]
  intro c hc
  obtain ⟨ch, hch, e⟩ := List.mem_map.mp hc
  have r := PyProof.Rows.digit_range (Nat.isDigit_of_mem_toDigits (by decide) (by decide) hch)
  rw [← e]
  simp only [isDig, Bool.and_eq_true, decide_eq_true_eq]
  exact r
theorem digs_ne (n : Nat) : digs n ≠ [] := by
  intro e
  have h := toDigits_len_ge 10 n
  rw [List.map_eq_nil_iff.mp e] at h
  exact absurd h (by decide)
theorem digs_val (n : Nat) : digitsVal (digs n) = n := PySem.W.KIN.val_back n
theorem digs_lt {n k : Nat} (hk : 0 < k) (h : n < 10 ^ k) : (digs n).length ≤ k := by
  unfold digs
  rw [List.length_map]
  exact (Nat.length_toDigits_le_iff (by decide) hk).mpr h
theorem rcount_digs {n : Nat} (h : n ≤ 10 ^ 30) : rcount (digs n) = some n := by
  unfold rcount
  have h1 : (digs n).length ≤ 31 := digs_lt (by decide) (Nat.lt_of_le_of_lt h (by decide))
  have h0 : (digs n).length ≠ 0 := fun e => digs_ne n (List.eq_nil_of_length_eq_zero e)
  rw [if_neg (by omega), digs_val, if_pos ⟨h, rfl⟩]
/-! ### texts by their grammar -/
inductive Pr : Nat → List Nat → List Nat → Prop where
  | nil (d : Nat) : Pr d [] []
  | step {d c t f} : isStep c = true → Pr d t f → Pr d (c :: t) (c :: f)
  | rep {d n ti fi t f} : Pr d ti fi → n ≤ 10 ^ 30 → Pr (d + 1) t f → Pr (d + 1) (40 :: (ti ++ 41 :: (digs n ++ t))) ((List.replicate n fi).flatten ++ f)
theorem Pr.mono {d t f} (h : Pr d t f) : ∀ {e}, d ≤ e → Pr e t f := by
  induction h with
  | nil d => exact fun _ => .nil _
  | step hc _ ih => exact fun he => .step hc (ih he)
  | rep h1 hn h2 ih1 ih2 =>
    intro e he
    cases e with
    | zero => omega
    | succ e => exact .rep (ih1 (by omega)) hn (ih2 (by omega))
theorem Pr.app {d t f} (h : Pr d t f) {t' f'} (h' : Pr d t' f') : Pr d (t ++ t') (f ++ f') := by
  induction h with
  | nil d => exact h'
  | step hc _ ih => exact .step hc (ih h')
  | rep h1 hn h2 ih1 ih2 =>
    have := Pr.rep h1 hn (ih2 h')
    rw [← List.append_assoc] at this
    simpa [List.append_assoc] using this
theorem Pr.one {d n ti fi} (h : Pr d ti fi) (hn : n ≤ 10 ^ 30) : Pr (d + 1) (40 :: (ti ++ 41 :: digs n)) (List.replicate n fi).flatten := by
  have := Pr.rep h hn (.nil (d + 1))
  simpa using this
theorem Pr.steps {d : Nat} : ∀ {s : List Nat}, s.all isStep = true → Pr d s s
  | [], _ => .nil d
  | c :: s, h => by
    rw [List.all_cons, Bool.and_eq_true] at h
    exact .step h.1 (Pr.steps h.2)
theorem Pr.fsteps {d t f} (h : Pr d t f) : f.all isStep = true := by
  induction h with
  | nil d => rfl
  | step hc _ ih => rw [List.all_cons, hc, ih]; rfl
  | rep h1 hn h2 ih1 ih2 =>
    rw [List.all_append, ih2, Bool.and_true, List.all_eq_true]
    intro c hc
    obtain ⟨l, hl, hcl⟩ := List.mem_flatten.mp hc
    rw [(List.mem_replicate.mp hl).2] at hcl
    exact List.all_eq_true.mp ih1 c hcl
theorem Pr.run {d t f} (h : Pr d t f) : ∃ g, f = t.takeWhile isStep ++ g ∧ Pr d (t.dropWhile isStep) g := by
  induction h with
  | nil d => exact ⟨[], rfl, .nil d⟩
  | step hc _ ih =>
    obtain ⟨g, e, h⟩ := ih
    rw [List.takeWhile_cons, if_pos hc, List.dropWhile_cons, if_pos hc]
    exact ⟨g, by rw [List.cons_append, ← e], h⟩
  | @rep d n ti fi t f h1 hn h2 ih1 ih2 =>
    have e : isStep 40 = false := by decide
    rw [List.takeWhile_cons, if_neg (by rw [e]; decide), List.dropWhile_cons, if_neg (by rw [e]; decide)]
    exact ⟨_, rfl, .rep h1 hn h2⟩
theorem Pr.head {d t f} (h : Pr d t f) : t = [] ∨ (∃ c r, t = c :: r ∧ isStep c = true) ∨ ∃ r, t = 40 :: r := by
  cases h with
  | nil d => exact .inl rfl
  | step hc _ => exact .inr (.inl ⟨_, _, rfl, hc⟩)
  | rep _ _ _ => exact .inr (.inr ⟨_, rfl⟩)
theorem takeWhile_stop {p : Nat → Bool} {l r : List Nat} (hl : l.all p = true) (hr : r = [] ∨ ∃ c r', r = c :: r' ∧ p c = false) : (l ++ r).takeWhile p = l ∧ (l ++ r).dropWhile p = r := by
  induction l with
  | nil =>
    rcases hr with rfl | ⟨c, r', rfl, hc⟩
    · exact ⟨rfl, rfl⟩
    · rw [List.nil_append, List.takeWhile_cons, if_neg (by rw [hc]; decide), List.dropWhile_cons, if_neg (by rw [hc]; decide)]
      exact ⟨rfl, rfl⟩
  | cons a l ih =>
    rw [List.all_cons, Bool.and_eq_true] at hl
    obtain ⟨h1, h2⟩ := ih hl.2
    rw [List.cons_append, List.takeWhile_cons, if_pos hl.1, List.dropWhile_cons, if_pos hl.1, h1, h2]
    exact ⟨rfl, rfl⟩
theorem takeWhile_app {p : Nat → Bool} {r : List Nat} (hr : r = [] ∨ ∃ c r', r = c :: r' ∧ p c = false) : ∀ l : List Nat, (l ++ r).takeWhile p = l.takeWhile p ∧ (l ++ r).dropWhile p = l.dropWhile p ++ r
  | [] => by
    rcases hr with rfl | ⟨c, r', rfl, hc⟩
    · exact ⟨rfl, rfl⟩
    · rw [List.nil_append, List.takeWhile_cons, if_neg (by rw [hc]; decide), List.dropWhile_cons, if_neg (by rw [hc]; decide)]
      exact ⟨rfl, rfl⟩
  | a :: l => by
    obtain ⟨h1, h2⟩ := takeWhile_app hr l
    rw [List.cons_append, List.takeWhile_cons, List.dropWhile_cons, List.takeWhile_cons, List.dropWhile_cons]
    split
    · rw [h1, h2]; exact ⟨rfl, rfl⟩
    · exact ⟨rfl, rfl⟩
theorem dropWhile_len {p : Nat → Bool} {c : Nat} {l : List Nat} (h : p c = true) : ((c :: l).dropWhile p).length < (c :: l).length := by
  rw [List.dropWhile_cons, if_pos h, List.length_cons]
  have := len_dropWhile p l
  omega
theorem rp_of : ∀ (m : Nat) {d t f}, t.length ≤ m → Pr d t f → ∀ (os : List Parts) (ps : Parts) (rest : List Nat) (k : Nat), os.length + d ≤ 20 → (rest = [] ∨ ∃ r, rest = 41 :: r) → (t ++ rest).length < k →
    ∃ ps' k', rest.length < k' ∧ rpF k os ps (t ++ rest) = rpF k' os ps' rest ∧ ps'.den = ps.den ++ f ∧ ps'.dep ≤ max ps.dep d ∧ ps'.vol ≤ ps.vol + t.length
  | m, d, t, f, hm, h, os, ps, rest, k, hd, hr, hk => by
    rcases h.head with e | ⟨c, r, e, hc⟩ | ⟨r, e⟩
    · subst e
      cases h
      exact ⟨ps, k, hk, rfl, by rw [List.append_nil], by omega, by omega⟩
    · cases m with
      | zero => rw [e, List.length_cons] at hm; omega
      | succ m =>
        obtain ⟨g, ef, h'⟩ := h.run
        have hrs : rest = [] ∨ ∃ c r', rest = c :: r' ∧ isStep c = false := by
          rcases hr with hr | ⟨r', hr⟩
          · exact .inl hr
          · exact .inr ⟨41, r', hr, by decide⟩
        obtain ⟨e1, e2⟩ := takeWhile_app hrs t
        have hlt := dropWhile_len (p := isStep) (c := c) (l := r) hc
        rw [← e] at hlt
        have hsum : (t.takeWhile isStep).length + (t.dropWhile isStep).length = t.length := by
          rw [← List.length_append, List.takeWhile_append_dropWhile]
        cases k with
        | zero => omega
        | succ k =>
          have e40 : c ≠ 40 := fun z => by rw [z] at hc; revert hc; decide
          have e41 : c ≠ 41 := fun z => by rw [z] at hc; revert hc; decide
          have es : rpF (k + 1) os ps (t ++ rest) = rpF k os (app ps (seq (t.takeWhile isStep) nil)) (t.dropWhile isStep ++ rest) := by
            rw [← e1, ← e2]
            conv => lhs; rw [e, List.cons_append, rpF]
            unfold stp
            rw [if_neg e40, if_neg e41, if_pos hc, if_pos (by omega)]
            rw [e, List.cons_append]
          rw [List.length_append] at hk
          obtain ⟨ps', k', g1, g2, g3, g4, g5⟩ := rp_of m (by omega) h' os (app ps (seq (t.takeWhile isStep) nil)) rest k hd hr (by rw [List.length_append]; omega)
          refine ⟨ps', k', g1, es.trans g2, ?_, ?_, ?_⟩
          · rw [g3, den_app, den, den, ef, List.append_nil, List.append_assoc]
          · rw [dep_app, dep, dep] at g4; omega
          · rw [vol_app, vol, vol] at g5; omega
    · cases m with
      | zero => rw [e, List.length_cons] at hm; omega
      | succ m =>
        generalize ht : t = t0 at h
        cases h with
        | nil => subst ht; cases e
        | @step d c t1 f1 hc h1 =>
          rw [ht] at e
          injection e with e1 e2
          rw [e1] at hc
          exact absurd hc (by decide)
        | @rep d n ti fi t2 f2 h1 hn h2 =>
          subst ht
          clear e r
          rw [List.length_cons, List.length_append, List.length_cons, List.length_append] at hm
          have hk2 : (40 :: (ti ++ 41 :: (digs n ++ (t2 ++ rest)))).length < k := by
            have : 40 :: (ti ++ 41 :: (digs n ++ t2)) ++ rest = 40 :: (ti ++ 41 :: (digs n ++ (t2 ++ rest))) := by simp [List.append_assoc]
            rw [← this]; exact hk
          have eq0 : 40 :: (ti ++ 41 :: (digs n ++ t2)) ++ rest = 40 :: (ti ++ 41 :: (digs n ++ (t2 ++ rest))) := by simp [List.append_assoc]
          rw [eq0]
          cases k with
          | zero => omega
          | succ k =>
            rw [List.length_cons] at hk2
            have es1 : rpF (k + 1) os ps (40 :: (ti ++ 41 :: (digs n ++ (t2 ++ rest)))) = rpF k (ps :: os) nil (ti ++ 41 :: (digs n ++ (t2 ++ rest))) := by
              rw [rpF]
              unfold stp
              rw [if_pos rfl, if_pos (by omega)]
            obtain ⟨pi, k1, g1, g2, g3, g4, g5⟩ := rp_of m (by omega) h1 (ps :: os) nil (41 :: (digs n ++ (t2 ++ rest))) k (by rw [List.length_cons]; omega) (.inr ⟨_, rfl⟩) (by omega)
            cases k1 with
            | zero => omega
            | succ k1 =>
              have hnd : t2 ++ rest = [] ∨ ∃ c r', t2 ++ rest = c :: r' ∧ isDig c = false := by
                rcases h2.head with e | ⟨c, r, e, hc⟩ | ⟨r, e⟩
                · subst e
                  rcases hr with hr | ⟨r', hr⟩
                  · exact .inl (by rw [hr]; rfl)
                  · exact .inr ⟨41, r', by rw [hr]; rfl, by decide⟩
                · refine .inr ⟨c, r ++ rest, by rw [e]; rfl, ?_⟩
                  simp only [isStep, isLet, Bool.or_eq_true, Bool.and_eq_true, decide_eq_true_eq] at hc
                  simp only [isDig, Bool.and_eq_false_iff, decide_eq_false_iff_not]
                  omega
                · exact .inr ⟨40, r ++ rest, by rw [e]; rfl, by decide⟩
              obtain ⟨e1, e2⟩ := takeWhile_stop (digs_dig n) hnd
              have es2 : rpF (k1 + 1) (ps :: os) pi (41 :: (digs n ++ (t2 ++ rest))) = rpF k1 os (app ps (Parts.rep pi n nil)) (t2 ++ rest) := by
                rw [rpF]
                unfold stp
                rw [if_neg (by decide), if_pos rfl, e1, e2, rcount_digs hn]
                simp only
                rw [if_pos (by omega)]
              rw [List.length_cons, List.length_append] at g1
              obtain ⟨ps', k', f1, f2, f3, f4, f5⟩ := rp_of m (by omega) h2 os (app ps (Parts.rep pi n nil)) rest k1 hd hr (by omega)
              refine ⟨ps', k', f1, es1.trans (g2.trans (es2.trans f2)), ?_, ?_, ?_⟩
              · rw [f3, den_app, den, den, g3, den, List.nil_append, List.append_nil, List.append_assoc]
              · rw [dep_app, dep, dep] at f4; rw [dep] at g4; omega
              · rw [vol_app, vol, vol] at f5; rw [vol] at g5
                rw [List.length_cons, List.length_append, List.length_cons, List.length_append]
                omega
theorem rpt_of {d t f} (h : Pr d t f) (hd : d ≤ 20) : ∃ ps, rpt t = some ps ∧ ps.den = f ∧ ps.dep ≤ d ∧ ps.vol ≤ t.length ∧ ps.ok := by
  obtain ⟨ps, k, h1, h2, h3, h4, h5⟩ := rp_of t.length (Nat.le_refl _) h [] nil [] (t.length + 1) (by simpa using hd) (.inl rfl) (by simp)
  rw [List.append_nil] at h2
  cases k with
  | zero => cases h1
  | succ k =>
    have e : rpt t = some ps := by
      unfold rpt
      rw [h2, rpF]
      rfl
    refine ⟨ps, e, h3, by rw [dep] at h4; omega, by rw [vol] at h5; omega, (rpt_deep e).2⟩
end My

namespace My
open PySem L2 TL
/-! ### words -/
theorem exm_self {K : PySem.W.Frag} {S : Addr} (h1 : PySem.W.subIn K (.ref S) (.type "BaseException") = some true) (h2 : PySem.W.isClsIn K S = true) (h3 : PySem.W.typeIn K (.ref S) = some (.type "type")) (h4 : PySem.W.subIn K (.ref S) (.ref S) = some true) :
    PySem.W.exmOne K (.ref S) (.ref S) = some true := by
  have e1 : (PySem.W.subIn K (.ref S) (.type "BaseException") == some true) = true := by rw [h1] <;> rfl
  have e2 : ((PySem.W.clsIn K S).isSome && PySem.W.typeIn K (.ref S) == some (.type "type")) = true := by
    have h2' : (PySem.W.clsIn K S).isSome = true := h2
    rw [h2', h3] <;> rfl
  show (if (PySem.W.subIn K (.ref S) (.type "BaseException") == some true) = true then (if ((PySem.W.clsIn K S).isSome && PySem.W.typeIn K (.ref S) == some (.type "type")) = true then PySem.W.subIn K (.ref S) (.ref S) else none) else none) = some true
  rw [if_pos e1, if_pos e2]
  exact h4
/-- no exception is wished: none comes -/
theorem passN {X : Cx} : Passes (L2.CX X.prog X.w) X E0 := fun _ _ _ _ _ _ _ h => by
  obtain ⟨_, _, _, _, _, _, _, _, _, _, _, _, _, z⟩ := h
theorem cx_K {CX : CXT} {P : Program} {w : World} {K : PySem.W.Frag} {mg : Str → Option Value} {base : Heap} {N : List Str} {qual : Str} {scope : Scope} {f : Addr} {cd : Value} {A : Around} {outer : List Env} {s : Shared} {H : Hp} {E : XK} : (cxOf CX P w K mg base N qual scope f cd A outer s H E).K = K := rfl
theorem nox_K {X : Cx} : X.nox.K = X.K := rfl
theorem ite_t {α : Sort _} {a b : α} : (if true = true then a else b) = a := if_pos rfl
theorem ite_f {α : Sort _} {a b : α} : (if false = true then a else b) = b := if_neg Bool.false_ne_true
/-- a value of a known kind -/
inductive Kd (K : PySem.W.Frag) (H : Hp) : V → Prop where
  | non : Kd K H .non
  | bl (b : Bool) : Kd K H (.bl b)
  | int (i : Int) : Kd K H (.int i)
  | str (s : Str) (h : s.length ≤ 100000) : Kd K H (.str s)
  | ref {a : Addr} {n : String} (h : TyX K H (.ref a) (.type n)) (hn : n = "list" ∨ n = "tuple" ∨ n = "dict") : Kd K H (.ref a)
def tInt : V → Bool | .int _ => true | .bl _ => true | _ => false
def tBool : V → Bool | .bl _ => true | _ => false
def tStr : V → Bool | .str _ => true | _ => false
theorem isi_of {K : PySem.W.Frag} {H : Hp} {x : V} {T : String} {b : Bool} {Q : VK} (z : ∃ t, TyX K H x t ∧ PySem.W.kitOne K t (.type T) = some b) (q : Q (.bl b) H) : rIsi K [x, .ty T] H Q := by
  obtain ⟨t, h1, h2⟩ := z
  exact ⟨x, .ty T, t, _, _, rfl, .ty T, h1, h2, q⟩
theorem isi_int {K : PySem.W.Frag} {H : Hp} {x : V} {Q : VK} (k : Kd K H x) (q : Q (.bl (tInt x)) H) : rIsi K [x, .ty "int"] H Q := by
  refine isi_of ?_ q
  cases k with
  | non => exact ⟨_, .base .non, show _ = some false from kit_ty (by decide +kernel)⟩
  | bl b => exact ⟨_, .base (.bl b), show _ = some true from kit_ty (by decide +kernel)⟩
  | int b => exact ⟨_, .base (.int b), show _ = some true from kit_ty (by decide +kernel)⟩
  | str b => exact ⟨_, .base (.str b), show _ = some false from kit_ty (by decide +kernel)⟩
  | ref h hn => rcases hn with rfl | rfl | rfl <;> exact ⟨_, h, show _ = some false from kit_ty (by decide +kernel)⟩
theorem isi_bool {K : PySem.W.Frag} {H : Hp} {x : V} {Q : VK} (k : Kd K H x) (q : Q (.bl (tBool x)) H) : rIsi K [x, .ty "bool"] H Q := by
  refine isi_of ?_ q
  cases k with
  | non => exact ⟨_, .base .non, show _ = some false from kit_ty (by decide +kernel)⟩
  | bl b => exact ⟨_, .base (.bl b), show _ = some true from kit_ty (by decide +kernel)⟩
  | int b => exact ⟨_, .base (.int b), show _ = some false from kit_ty (by decide +kernel)⟩
  | str b => exact ⟨_, .base (.str b), show _ = some false from kit_ty (by decide +kernel)⟩
  | ref h hn => rcases hn with rfl | rfl | rfl <;> exact ⟨_, h, show _ = some false from kit_ty (by decide +kernel)⟩
theorem isi_str {K : PySem.W.Frag} {H : Hp} {x : V} {Q : VK} (k : Kd K H x) (q : Q (.bl (tStr x)) H) : rIsi K [x, .ty "str"] H Q := by
  refine isi_of ?_ q
  cases k with
  | non => exact ⟨_, .base .non, show _ = some false from kit_ty (by decide +kernel)⟩
  | bl b => exact ⟨_, .base (.bl b), show _ = some false from kit_ty (by decide +kernel)⟩
  | int b => exact ⟨_, .base (.int b), show _ = some false from kit_ty (by decide +kernel)⟩
  | str b => exact ⟨_, .base (.str b), show _ = some true from kit_ty (by decide +kernel)⟩
  | ref h hn => rcases hn with rfl | rfl | rfl <;> exact ⟨_, h, show _ = some false from kit_ty (by decide +kernel)⟩

/-! ### flat lists compared -/
def flatD : V → PyData
  | .bl b => .bool b
  | .int i => .int i
  | .str s => .str s
  | _ => .none
def okF : V → Bool
  | .str s => PyData.strOk s
  | .non => true
  | .bl _ => true
  | .int _ => true
  | _ => false
theorem dp_flat {K : PySem.W.Frag} {H : Hp} {v : V} (h : okF v = true) : Dp K H v (flatD v) := by
  cases v with
  | non => exact .non
  | bl b => exact .bl b
  | int i => exact .int i
  | str s => exact .str s
  | _ => cases h
theorem dp_all {K : PySem.W.Frag} {H : Hp} : ∀ {xs : List V}, xs.all okF = true → DpAll K H xs (xs.map flatD)
  | [], _ => .nil
  | x :: xs, h => by
    rw [List.all_cons, Bool.and_eq_true] at h
    exact .cons (dp_flat h.1) (dp_all h.2)
theorem dp_list {K : PySem.W.Frag} {H : Hp} {a : Addr} {xs : List V} (h : SqL K H a xs) (hx : xs.all okF = true) : Dp K H (.ref a) (.list (xs.map flatD)) := .lst h (dp_all hx)
theorem lay_flat : ∀ {xs : List V}, xs.all okF = true → PyData.canLayAll0 (xs.map flatD) = true ∧ PyData.depthAll (xs.map flatD) = 0
  | [], _ => ⟨by simp [PyData.canLayAll0], by simp [PyData.depthAll]⟩
  | x :: xs, h => by
    rw [List.all_cons, Bool.and_eq_true] at h
    obtain ⟨h1, h2⟩ := lay_flat h.2
    rw [List.map_cons]
    have e1 : PyData.canLay0 (flatD x) = true ∧ PyData.depth (flatD x) = 0 := by
      cases x with
      | str s => exact ⟨by rw [flatD, PyData.canLay0]; exact h.1, by simp [flatD, PyData.depth]⟩
      | _ => first | exact ⟨by simp [flatD, PyData.canLay0], by simp [flatD, PyData.depth]⟩ | cases h.1
    exact ⟨by rw [PyData.canLayAll0, e1.1, h1]; rfl, by rw [PyData.depthAll, e1.2, h2]; rfl⟩
theorem shaped_flat {xs : List V} (h : xs.all okF = true) : SeqAt.shaped (.list (xs.map flatD)) = true := by
  obtain ⟨h1, h2⟩ := lay_flat h
  unfold SeqAt.shaped
  rw [PyData.canLay0, h1, PyData.depth, h2]
  rfl
def eqL (xs ys : List V) : Bool := PyData.eqvAll (xs.map flatD) (ys.map flatD)
theorem ne_lists {K : PySem.W.Frag} {H : Hp} {a b : Addr} {xs ys : List V} {Q : VK} (ha : SqL K H a xs) (hb : SqL K H b ys) (hx : xs.all okF = true) (hy : ys.all okF = true) (q : Q (.bl (!eqL xs ys)) H) : rNeD K (.ref a) (.ref b) H Q :=
  ⟨_, _, dp_list ha hx, dp_list hb hy, shaped_flat hx, shaped_flat hy, by
    show Q (.bl (!PyData.eqv (.list (xs.map flatD)) (.list (ys.map flatD)))) H
    rw [PyData.eqv]
    exact q⟩
theorem eq_lists {K : PySem.W.Frag} {H : Hp} {a b : Addr} {xs ys : List V} {Q : VK} (ha : SqL K H a xs) (hb : SqL K H b ys) (hx : xs.all okF = true) (hy : ys.all okF = true) (q : Q (.bl (eqL xs ys)) H) : rEqD K (.ref a) (.ref b) H Q :=
  ⟨_, _, dp_list ha hx, dp_list hb hy, shaped_flat hx, shaped_flat hy, by
    show Q (.bl (PyData.eqv (.list (xs.map flatD)) (.list (ys.map flatD)))) H
    rw [PyData.eqv]
    exact q⟩
theorem eqL_bools : ∀ (bs cs : List Bool), eqL (bs.map V.bl) (cs.map V.bl) = decide (bs = cs)
  | [], [] => by simp [eqL, PyData.eqvAll]
  | [], c :: cs => by simp [eqL, PyData.eqvAll]
  | b :: bs, [] => by simp [eqL, PyData.eqvAll]
  | b :: bs, c :: cs => by
    have ih := eqL_bools bs cs
    unfold eqL at ih ⊢
    rw [List.map_cons, List.map_cons, List.map_cons, List.map_cons, PyData.eqvAll, ih]
    show ((PyData.eqv (.bool b) (.bool c)) && _) = _
    rw [PyData.eqv]
    by_cases h : b = c
    · subst h; simp
    · simp [h]
theorem ok_bools (bs : List Bool) : (bs.map V.bl).all okF = true := by
  rw [List.all_map, List.all_eq_true]
  intro x _
  rfl
theorem ok_ints (bs : List Int) : (bs.map V.int).all okF = true := by
  rw [List.all_map, List.all_eq_true]
  intro x _
  rfl
theorem eqL_nil (xs : List V) : eqL xs [] = xs.isEmpty := by
  cases xs with
  | nil => simp [eqL, PyData.eqvAll]
  | cons x xs => simp [eqL, PyData.eqvAll]
/-! ### the law's draws: two ints in a list -/
def okD (s : Int × Int) : Prop := 0 ≤ s.1 ∧ 0 ≤ s.2 ∧ s.2 < 2147483647
def dw (s : Int × Int) : HO := .lst [.int s.1, .int s.2]
def sp_draws (K : PySem.W.Frag) : Sp := fun vs H Q _ => ∃ (a : Addr) (ns : List Int) (k : Int), vs = [.ref a, .int k] ∧ SqL K H a (ns.map V.int) ∧ ns.length ≤ 63 ∧ 0 ≤ k ∧ k ≤ 1000000 ∧
  ∀ (p : Addr) (d : Int × Int) (H' : Hp), Same H H' → H p = none → okD d → H' p = some (dw d) → Q (.ref p) H'
def sp_draw : Sp := fun vs H Q _ => ∃ (p : Addr) (d : Int × Int) (u : Int), vs = [.ref p, .int u] ∧ H p = some (dw d) ∧ okD d ∧ 0 < u ∧ u ≤ 1000000000 ∧
  ∀ (v : Int) (d' : Int × Int) (H' : Hp), 0 ≤ v → v < u → okD d' → H' p = some (dw d') → (∀ q o, q ≠ p → H q = some o → H' q = some o) → Q (.int v) H'
theorem ix_at {K : PySem.W.Frag} {H : Hp} {p : Addr} {xs : List V} {i : Int} {v : V} {Q : VK} (h : SqL K H p xs) (h0 : 0 ≤ i) (hv : xs[i.toNat]? = some v) (q : Q v H) : rIxL K (.ref p) (.int i) H Q := by
  refine ⟨p, xs, i, v, rfl, rfl, h, ?_, q⟩
  have e : i = ((i.toNat : Nat) : Int) := by omega
  rw [e]
  exact atI_nat hv
theorem ix_str_at {z : Str} {i : Int} {c : Nat} {H : Hp} {Q : VK} (hz : z.length ≤ 100000) (h0 : 0 ≤ i) (hc : z.cps.toList[i.toNat]? = some c) (q : Q (.str ⟨#[c]⟩) H) : rIxS (.str z) (.int i) H Q := by
  refine ⟨z, i, c, rfl, rfl, Nat.le_trans hz (by decide), ?_, q⟩
  have e : i = ((i.toNat : Nat) : Int) := by omega
  rw [e]
  exact atI_nat hc
theorem set_at {H : Hp} {p : Addr} {xs : List V} {i : Int} {v : V} {Q : Hp → Prop} (h : H p = some (.lst xs)) (h0 : 0 ≤ i) (hi : i < xs.length) (q : Q (upd H p (.lst (xs.set i.toNat v)))) : rSetL (.ref p) (.int i) v H Q := by
  refine ⟨p, xs, i, i.toNat, rfl, rfl, h, ?_, q⟩
  unfold ixN
  rw [if_pos h0, if_pos hi]
theorem same_new {H : Hp} {p : Addr} (h : H p = none) (o : HO) : Same H (upd H p o) := fun b u q => by rw [upd_ne (ne_of_none q h)]; exact q

theorem ne_bools {K : PySem.W.Frag} {H : Hp} {a b : Addr} {bs cs : List Bool} {Q : VK} (ha : SqL K H a (bs.map V.bl)) (hb : SqL K H b (cs.map V.bl)) (q : Q (.bl (!decide (bs = cs))) H) : rNeD K (.ref a) (.ref b) H Q :=
  ne_lists ha hb (ok_bools bs) (ok_bools cs) (by rw [eqL_bools]; exact q)
theorem tyx_mono {K : PySem.W.Frag} {H H' : Hp} {x : V} {t : Value} (s : Same H H') (h : TyX K H x t) : TyX K H' x t := by
  cases h with
  | base b =>
    cases b with
    | non => exact .base .non
    | bl y => exact .base (.bl y)
    | int y => exact .base (.int y)
    | str y => exact .base (.str y)
    | flt y => exact .base (.flt y)
    | lst e => exact .base (.lst (s _ _ e))
    | frz e => exact .base (.frz (s _ _ e))
    | tup e => exact .base (.tup (s _ _ e))
    | dK e => exact .base (.dK (s _ _ e))
    | dT e => exact .base (.dT (s _ _ e))
    | ins e cl ha hn htk hm => exact .base (.ins (s _ _ e) cl ha hn htk hm)
  | byt b => exact .byt b
  | set e => exact .set (s _ _ e)
  | kList e c => exact .kList e c
  | kTuple e c => exact .kTuple e c
  | kDict e c => exact .kDict e c
  | fTuple e => exact .fTuple (s _ _ e)
  | fDict e => exact .fDict (s _ _ e)
theorem kd_mono {K : PySem.W.Frag} {H H' : Hp} {x : V} (s : Same H H') (h : Kd K H x) : Kd K H' x := by
  cases h with
  | non => exact .non
  | bl b => exact .bl b
  | int i => exact .int i
  | str z hz => exact .str z hz
  | ref h hn => exact .ref (tyx_mono s h) hn
theorem kd_lst {K : PySem.W.Frag} {H : Hp} {p : Addr} {xs : List V} (h : H p = some (.lst xs)) : Kd K H (.ref p) := .ref (.base (.lst h)) (.inl rfl)
theorem kd_tup {K : PySem.W.Frag} {H : Hp} {p : Addr} {xs : List V} (h : H p = some (.tup xs)) : Kd K H (.ref p) := .ref (.base (.tup h)) (.inr (.inl rfl))
theorem kd_dct {K : PySem.W.Frag} {H : Hp} {p : Addr} {xs : List (Key × V)} (h : H p = some (.dK xs)) : Kd K H (.ref p) := .ref (.base (.dK h)) (.inr (.inr rfl))
/-- for x in a list; what is walked is read first, the loop's rest stands behind R -/
theorem forL {K : PySem.W.Frag} {tl : TE} {g : TG} {tb : TS} {D : Ends} {σ : L2.St} {H : Hp}
    (h : ∀ R : VK, (∀ (a : Addr) (xs : List V) (Pv : Nat → L2.St → Hp → Prop) (H1 : Hp), SqL K H1 a xs → Pv 0 σ H1 → (∀ i σ H, i ≤ xs.length → Pv i σ H → SqL K H a xs) →
      (∀ i x σ H, xs[i]? = some x → Pv i σ H → g x σ H fun σ2 H2 => tb { D with nx := Pv (i + 1), ct := Pv (i + 1), bk := D.nx } σ2 H2) → (∀ σ H, Pv xs.length σ H → D.nx σ H) → R (.ref a) H1) → tl σ H R) : tFor (iList K tl) g tb D σ H :=
  h _ fun a xs Pv H1 hs h0 hl hst hd => ⟨a, rfl, ⟨xs, hs⟩, for_list (K := K) (a := a) (xs := xs) Pv h0 hl hst hd⟩
/-- for i in range(n) -/
theorem forR {ta : TA} {g : TG} {tb : TS} {D : Ends} {σ : L2.St} {H : Hp}
    (h : ∀ R : List V → Hp → Prop, (∀ (j : Int) (Pv : Nat → L2.St → Hp → Prop) (H1 : Hp), -(2 ^ 62) ≤ j → j < 2 ^ 62 → Pv 0 σ H1 →
      (∀ i σ H, i < j.toNat → Pv i σ H → g (.int (0 + (i : Int))) σ H fun σ2 H2 => tb { D with nx := Pv (i + 1), ct := Pv (i + 1), bk := D.nx } σ2 H2) → (∀ σ H, Pv j.toNat σ H → D.nx σ H) → R [.int j] H1) → ta σ H R) : tFor (iRng1 ta) g tb D σ H :=
  h _ fun j Pv H1 h1 h2 h0 hst hd => ⟨j, rfl, h1, h2, for_range (lo := 0) (n := j.toNat) Pv h0 hst hd⟩
/-- [e for i in range(n)] -/
theorem lcR {ta : TA} {g : TG} {tt : TT} {te : TE} {vs : List Nat} {σ : L2.St} {H : Hp} {Q : VK}
    (h : ∀ R : List V → Hp → Prop, (∀ (j : Int) (H1 : Hp), -(2 ^ 62) ≤ j → j < 2 ^ 62 → (∀ D, H1 D = none → ∃ Pv : Nat → Hp → Prop, Pv 0 (upd H1 D (.lst [])) ∧
      (∀ i H, i < j.toNat → Pv i H → g (.int (0 + (i : Int))) (wipe σ vs) H fun σ2 H2 => wipe σ2 vs = wipe σ vs ∧ tt σ2 H2 fun b H3 =>
        if b = true then te σ2 H3 fun y H4 => ∃ acc, H4 D = some (.lst acc) ∧ acc.length < sizeLine ∧ Pv (i + 1) (upd H4 D (.lst (acc ++ [y]))) else Pv (i + 1) H3) ∧ ∀ H, Pv j.toNat H → Q (.ref D) H) → R [.int j] H1) → ta σ H R) : tLc (iRng1 ta) g tt te vs σ H Q :=
  h _ fun j H1 h1 h2 hk => ⟨j, rfl, h1, h2, fun D hD => by
    obtain ⟨Pv, h0, hs, hd⟩ := hk D hD
    exact lc_range (lo := 0) (n := j.toNat) Pv h0 hs hd⟩
/-- [e for x in a list] -/
theorem lcL {K : PySem.W.Frag} {tl : TE} {g : TG} {tt : TT} {te : TE} {vs : List Nat} {σ : L2.St} {H : Hp} {Q : VK}
    (h : ∀ R : VK, (∀ (a : Addr) (xs : List V) (H1 : Hp), SqL K H1 a xs → (∀ D, H1 D = none → ∃ Pv : Nat → Hp → Prop, Pv 0 (upd H1 D (.lst [])) ∧ (∀ i H, i ≤ xs.length → Pv i H → SqL K H a xs) ∧
      (∀ i x H, xs[i]? = some x → Pv i H → g x (wipe σ vs) H fun σ2 H2 => wipe σ2 vs = wipe σ vs ∧ tt σ2 H2 fun b H3 =>
        if b = true then te σ2 H3 fun y H4 => ∃ acc, H4 D = some (.lst acc) ∧ acc.length < sizeLine ∧ Pv (i + 1) (upd H4 D (.lst (acc ++ [y]))) else Pv (i + 1) H3) ∧ ∀ H, Pv xs.length H → Q (.ref D) H) → R (.ref a) H1) → tl σ H R) : tLc (iList K tl) g tt te vs σ H Q :=
  h _ fun a xs H1 hs hk => ⟨a, rfl, ⟨xs, hs⟩, fun D hD => by
    obtain ⟨Pv, h0, hl, hst, hd⟩ := hk D hD
    exact lc_list (K := K) (a := a) (xs := xs) Pv h0 hl hst hd⟩
theorem sz_of {n : Nat} (h : n ≤ 100000) : n ≤ sizeLine := Nat.le_trans h (by decide)
theorem same_mut {H H' : Hp} {p : Addr} {o : HO} (s : Same H H') (h : H p = none) : Same H (upd H' p o) := fun b u q => by rw [upd_ne (ne_of_none q h)]; exact s b u q

theorem same_but {H H0 H1 : Hp} {p : Addr} (s : Same H H0) (hp : H p = none) (k : ∀ q o, q ≠ p → H0 q = some o → H1 q = some o) : Same H H1 := fun b o e => k b o (ne_of_none e hp) (s b o e)
theorem free_but {H0 H1 : Hp} {p q : Addr} {o : HO} (k : ∀ q o, q ≠ p → H0 q = some o → H1 q = some o) (ep : H1 p = some o) (h : H1 q = none) : H0 q = none := by
  cases e : H0 q with
  | none => rfl
  | some u =>
    have hq : q ≠ p := fun z => by rw [z, ep] at h; cases h
    rw [k q u hq e] at h
    cases h
/-! ### texts as lists of signs -/
theorem tl_inj {x y : Str} (h : tl x = tl y) : x = y := str_ext h
theorem tl_len (x : Str) : (tl x).length = x.length := Array.length_toList
theorem tl_app (x y : Str) : tl (x ++ y) = tl x ++ tl y := tl_append x y
theorem joinL_nil : ∀ l : List (List Nat), joinL [] l = l.flatten
  | [] => rfl
  | [p] => by simp [joinL]
  | p :: q :: r => by
    rw [joinL, joinL_nil (q :: r)]
    simp
theorem tl_join0 (ys : List Str) : tl (Txt.join ("" : Str) ys) = (ys.map tl).flatten := by
  rw [join_eq, tl_join, show tl ("" : Str) = [] from by decide +kernel, joinL_nil]
def sg (c : Nat) : Str := ⟨#[c]⟩
theorem tl_sg (c : Nat) : tl (sg c) = [c] := rfl
theorem flat_sg : ∀ cs : List Nat, ((cs.map sg).map tl).flatten = cs
  | [] => rfl
  | c :: cs => by
    rw [List.map_cons, List.map_cons, List.flatten_cons, flat_sg cs]
    rfl
theorem len_sg (cs : List Nat) : ((cs.map sg).map (·.length)).sum = cs.length := by
  induction cs with
  | nil => rfl
  | cons c cs ih =>
    rw [List.map_cons, List.map_cons, List.sum_cons, ih]
    show 1 + _ = _
    rw [List.length_cons]; omega

/-! ### texts repeated -/
def srep (z : Str) (k : Nat) : Str := ⟨(List.replicate k (tl z)).flatten.toArray⟩
theorem tl_srep (z : Str) (k : Nat) : tl (srep z k) = (List.replicate k (tl z)).flatten := rfl
theorem len_flat_rep (l : List Nat) (k : Nat) : (List.replicate k l).flatten.length = k * l.length := by
  induction k with
  | zero => simp
  | succ k ih => rw [List.replicate_succ, List.flatten_cons, List.length_append, ih, Nat.succ_mul]; omega
theorem foldl_arr (a : Array Nat) : ∀ (k : Nat) (b : Array Nat), ((List.replicate k a).foldl (· ++ ·) b).toList = b.toList ++ (List.replicate k a.toList).flatten
  | 0, b => by simp
  | k + 1, b => by rw [List.replicate_succ, List.foldl_cons, foldl_arr a k]; simp [List.replicate_succ]
def rRepS : R2 := fun x y H Q => ∃ z n, x = .str z ∧ y = .int n ∧ 0 ≤ n ∧ n < 2 ^ 62 ∧ z.length * n.toNat ≤ 1000000 ∧ Q (.str (srep z n.toNat)) H
theorem op_rep_str {X : Cx} : OpR X (binaryOp .Mult) rRepS := by
  intro pins s σ H x y v u Q I rx ry h
  obtain ⟨z, n, rfl, rfl, h1, h2, hz, q⟩ := h
  obtain ⟨t, rfl⟩ := rx
  obtain ⟨t', rfl⟩ := ry
  have e24 : (2 : Nat) ^ 24 = 16777216 := by decide
  have hl : (z.length : Int) * n ≤ 1000000 := by
    have : ((z.length * n.toNat : Nat) : Int) ≤ 1000000 := by omega
    rw [Int.natCast_mul, Int.toNat_of_nonneg h1] at this
    exact this
  refine PySem.P.mul_str ?_ ?_ ?_ ?_
  · rw [decide_eq_false (by omega), decide_eq_false (by omega)]; rfl
  · intro hn _ hgt
    have hd : (2 ^ 63 - 1) / n ≥ z.length := by
      refine (Int.le_ediv_iff_mul_le (by omega)).mpr ?_
      omega
    omega
  · intro _ _
    show decide (_ > sizeLine) = false
    refine decide_eq_false ?_
    rw [sizeLine_eq]
    omega
  · have fin : ∀ w : Str, tl w = (List.replicate n.toNat (tl z)).flatten → w = srep z n.toNat := fun w hw => ext_tl hw
    have small : ∀ w : Str, tl w = (List.replicate n.toNat (tl z)).flatten → w.length ≤ sizeLine := fun w hw => by
      rw [len_tl, hw, len_flat_rep, sizeLine_eq, ← len_tl, Nat.mul_comm]
      omega
    by_cases hn : n < 1
    · rw [if_pos hn]
      have e : Str.empty = srep z n.toNat := fin _ (by rw [show n.toNat = 0 by omega]; rfl)
      exact ⟨by decide, by rw [e]; exact ⟨.str _, H, I.tok _, ⟨_, rfl⟩, q⟩⟩
    · rw [if_neg hn]
      by_cases hc : (n == 1 || z.length == 0) = true
      · rw [if_pos hc]
        have e : z = srep z n.toNat := fin _ (by
          rw [Bool.or_eq_true, beq_iff_eq, beq_iff_eq] at hc
          rcases hc with hc | hc
          · rw [hc]; simp
          · have h0 : tl z = [] := List.eq_nil_of_length_eq_zero (by rw [← len_tl]; exact hc)
            rw [h0]; simp)
        show EP X pins σ Q (.str z t) s
        exact ⟨.str (srep z n.toNat), H, I, by rw [← e]; exact ⟨_, rfl⟩, q⟩
      · rw [if_neg hc]
        have e : tl (⟨(List.replicate n.toNat z.cps).foldl (· ++ ·) #[]⟩ : Str) = (List.replicate n.toNat (tl z)).flatten := by
          show ((List.replicate n.toNat z.cps).foldl (· ++ ·) #[]).toList = _
          rw [foldl_arr]; rfl
        have e2 := fin _ e
        exact ⟨small _ e, by rw [e2]; exact ⟨.str _, H, I.tok _, ⟨_, rfl⟩, q⟩⟩
/-! ### trees in the heap -/
inductive PVs (H : Hp) : List V → Parts → Prop where
  | nil : PVs H [] .nil
  | seq {s : Str} {vs r} : PVs H vs r → PVs H (.str s :: vs) (.seq (tl s) r)
  | rep {q p : Addr} {n : Nat} {vb vs b r} : H q = some (.tup [.ref p, .int (n : Int)]) → H p = some (.lst vb) → vb.length ≤ 100000 → PVs H vb b → PVs H vs r → PVs H (.ref q :: vs) (.rep b n r)
theorem PVs.mono {H H' : Hp} (s : Same H H') {vs ps} (h : PVs H vs ps) : PVs H' vs ps := by
  induction h with
  | nil => exact .nil
  | seq _ ih => exact .seq ih
  | rep h1 h2 h3 _ _ ih1 ih2 => exact .rep (s _ _ h1) (s _ _ h2) h3 ih1 ih2
theorem PVs.app {H : Hp} {vs ps} (h : PVs H vs ps) {vs' ps'} (h' : PVs H vs' ps') : PVs H (vs ++ vs') (ps.app ps') := by
  induction h with
  | nil => exact h'
  | seq _ ih => exact .seq ih
  | rep h1 h2 h3 h4 _ _ ih2 => exact .rep h1 h2 h3 h4 ih2
def PartsAt (H : Hp) (p : Addr) (ps : Parts) : Prop := ∃ vs, H p = some (.lst vs) ∧ vs.length ≤ 100000 ∧ PVs H vs ps
theorem PartsAt.mono {H H' : Hp} (s : Same H H') {p ps} (h : PartsAt H p ps) : PartsAt H' p ps := by
  obtain ⟨vs, h1, h2, h3⟩ := h
  exact ⟨vs, s _ _ h1, h2, h3.mono s⟩
def Opn (F H' : Hp) (m : Nat) : List Addr → List Parts → Prop
  | [], [] => True
  | a :: as, o :: os => (∃ va, H' a = some (.lst va) ∧ PVs F va o ∧ va.length ≤ m) ∧ Opn F H' m as os
  | _, _ => False
theorem Opn.len {F H' : Hp} {m : Nat} : ∀ {as os}, Opn F H' m as os → as.length = os.length
  | [], [], _ => rfl
  | a :: as, o :: os, h => by rw [List.length_cons, List.length_cons, Opn.len h.2]
theorem Opn.mono {F F' H' H'' : Hp} {m m' : Nat} (s : Same F F') (hm : m ≤ m') : ∀ {as os}, (∀ a ∈ as, H'' a = H' a) → Opn F H' m as os → Opn F' H'' m' as os
  | [], [], _, _ => trivial
  | a :: as, o :: os, k, ⟨⟨va, h1, h2, h3⟩, h⟩ => ⟨⟨va, by rw [k a List.mem_cons_self]; exact h1, h2.mono s, by omega⟩, Opn.mono s hm (fun b hb => k b (List.mem_cons_of_mem _ hb)) h⟩
theorem Opn.some {F H' : Hp} {m : Nat} : ∀ {as os}, Opn F H' m as os → ∀ a ∈ as, ∃ o, H' a = some o
  | a :: as, o :: os, ⟨⟨va, h1, _⟩, h⟩, b, hb => by
    rcases List.mem_cons.mp hb with rfl | hb
    · exact ⟨_, h1⟩
    · exact Opn.some h b hb
/-! ### the reader's lists in the heap -/
structure Lay (H0 F H' : Hp) (p q : Addr) (as : List Addr) (os : List Parts) (ps : Parts) (n : Nat) : Prop where
  s0 : Same H0 F
  s1 : Same F H'
  nd : (p :: q :: as).Nodup
  fr : ∀ a ∈ p :: q :: as, F a = none
  hp : H' p = some (.lst (as.reverse.map V.ref))
  hq : ∃ vq, H' q = some (.lst vq) ∧ PVs F vq ps ∧ vq.length ≤ n
  op : Opn F H' n as os
theorem Lay.init {H : Hp} {p q : Addr} (h1 : H p = none) (h2 : upd H p (.lst []) q = none) : Lay H H (upd (upd H p (.lst [])) q (.lst [])) p q [] [] .nil 0 := by
  have hpq : p ≠ q := fun e => by rw [← e, upd_same] at h2; cases h2
  have hq : H q = none := by rw [← h2, upd_ne (Ne.symm hpq)]
  refine ⟨fun _ _ h => h, (same_new h1 _).trans (same_new h2 _), ?_, ?_, ?_, ⟨[], upd_same, .nil, Nat.le_refl _⟩, trivial⟩
  · simp [hpq]
  · intro a ha
    simp only [List.mem_cons, List.not_mem_nil, or_false] at ha
    rcases ha with rfl | rfl
    · exact h1
    · exact hq
  · rw [upd_ne hpq, upd_same]; rfl
theorem Lay.opn {H0 F H' : Hp} {p q r : Addr} {as os ps n} (h : Lay H0 F H' p q as os ps n) (hr : upd H' p (.lst (as.reverse.map V.ref ++ [.ref q])) r = none) :
    Lay H0 F (upd (upd H' p (.lst (as.reverse.map V.ref ++ [.ref q]))) r (.lst [])) p r (q :: as) (ps :: os) .nil (n + 1) := by
  obtain ⟨vq, hq, pq, lq⟩ := h.hq
  have nd := h.nd
  simp only [List.nodup_cons, List.mem_cons, not_or] at nd
  have rp : r ≠ p := fun e => by rw [e, upd_same] at hr; cases hr
  have hr' : H' r = none := by rw [← hr, upd_ne rp]
  have rq : r ≠ q := fun e => by rw [e, hq] at hr'; cases hr'
  have ra : r ∉ as := fun e => by obtain ⟨o, ho⟩ := h.op.some r e; rw [ho] at hr'; cases hr'
  have fr : F r = none := by
    cases e : F r with
    | none => rfl
    | some u => rw [h.s1 _ _ e] at hr'; cases hr'
  have fp := h.fr p List.mem_cons_self
  refine ⟨h.s0, (same_mut h.s1 fp).trans (same_new hr _), ?_, ?_, ?_, ⟨[], upd_same, .nil, Nat.zero_le _⟩, ?_⟩
  · simp only [List.nodup_cons, List.mem_cons, not_or]
    exact ⟨⟨Ne.symm rp, nd.1.1, nd.1.2⟩, ⟨rq, ra⟩, nd.2⟩
  · intro a ha
    simp only [List.mem_cons] at ha
    rcases ha with rfl | rfl | rfl | ha
    · exact fp
    · exact fr
    · exact h.fr _ (by simp)
    · exact h.fr _ (by simp [ha])
  · rw [upd_ne (Ne.symm rp), upd_same, List.reverse_cons, List.map_append]; rfl
  · refine ⟨⟨vq, ?_, pq, by omega⟩, h.op.mono (fun _ _ e => e) (by omega) fun a ha => ?_⟩
    · rw [upd_ne (Ne.symm rq), upd_ne (Ne.symm nd.1.1), hq]
    · rw [upd_ne (fun e => ra (by rw [← e]; exact ha)), upd_ne (fun e => nd.1.2 (by rw [← e]; exact ha))]
theorem Lay.add {H0 F H' : Hp} {p q : Addr} {as os ps n vq} {s : Str} (h : Lay H0 F H' p q as os ps n) (hq : H' q = some (.lst vq)) {m : Nat} (hm : n + 1 ≤ m) :
    Lay H0 F (upd H' q (.lst (vq ++ [.str s]))) p q as os (ps.app (.seq (tl s) .nil)) m := by
  obtain ⟨vq', hq', pq, lq⟩ := h.hq
  rw [hq] at hq'
  injection hq' with e
  injection e with e
  subst e
  have nd := h.nd
  simp only [List.nodup_cons, List.mem_cons, not_or] at nd
  refine ⟨h.s0, same_mut h.s1 (h.fr q (by simp)), h.nd, h.fr, ?_, ⟨_, upd_same, pq.app (.seq .nil), ?_⟩, h.op.mono (fun _ _ e => e) (by omega) fun a ha => ?_⟩
  · rw [upd_ne nd.1.1]; exact h.hp
  · rw [List.length_append, List.length_singleton]; omega
  · rw [upd_ne (fun e => nd.2.1 (by rw [← e]; exact ha))]
theorem Lay.cls {H0 F H' : Hp} {p q r a : Addr} {as os ps o n va} {c : Nat} (h : Lay H0 F H' p q (a :: as) (o :: os) ps n) (hr : H' r = none) (ha : H' a = some (.lst va)) (hn : n ≤ 100000) {m : Nat} (hm : n + 1 ≤ m) :
    ∃ F', Lay H0 F' (upd (upd (upd H' r (.tup [.ref q, .int (c : Int)])) p (.lst ((a :: as).reverse.map V.ref).dropLast)) a (.lst (va ++ [.ref r]))) p a as os (o.app (.rep ps c .nil)) m := by
  obtain ⟨vq, hq, pq, lq⟩ := h.hq
  have op := h.op
  obtain ⟨⟨va', ha', pa, la⟩, op⟩ := op
  rw [ha] at ha'
  injection ha' with e
  injection e with e
  subst e
  have nd := h.nd
  simp only [List.nodup_cons, List.mem_cons, not_or] at nd
  obtain ⟨⟨pq', pa', pas⟩, ⟨qa, qas⟩, aas, ndas⟩ := nd
  have nr : ∀ b, (∃ o, H' b = some o) → b ≠ r := fun b ⟨o, ho⟩ e => by rw [e, hr] at ho; cases ho
  have rp := nr p ⟨_, h.hp⟩
  have rq := nr q ⟨_, hq⟩
  have ra := nr a ⟨_, ha⟩
  have fr : F r = none := by
    cases e : F r with
    | none => rfl
    | some u => rw [h.s1 _ _ e] at hr; cases hr
  have fq : F q = none := h.fr q (by simp)
  have sF : Same F (upd (upd F q (.lst vq)) r (.tup [.ref q, .int (c : Int)])) := (same_new fq _).trans (same_new (by rw [upd_ne (Ne.symm rq)]; exact fr) _)
  have hq3 : upd (upd F q (.lst vq)) r (.tup [.ref q, .int (c : Int)]) q = some (.lst vq) := by rw [upd_ne rq, upd_same]
  refine ⟨upd (upd F q (.lst vq)) r (.tup [.ref q, .int (c : Int)]), fun b u e => sF b u (h.s0 b u e), ?_, ?_, ?_, ?_, ⟨_, upd_same, ?_, ?_⟩, ?_⟩
  · intro b u e
    by_cases eb : b = r
    · subst eb
      rw [upd_same] at e
      rw [upd_ne (Ne.symm ra), upd_ne (Ne.symm rp), upd_same]; exact e
    · rw [upd_ne eb] at e
      by_cases eq : b = q
      · subst eq
        rw [upd_same] at e
        rw [upd_ne qa, upd_ne (Ne.symm pq'), upd_ne rq, hq]; exact e
      · rw [upd_ne eq] at e
        have np : b ≠ p := fun z => by rw [z, h.fr p (by simp)] at e; cases e
        have na : b ≠ a := fun z => by rw [z, h.fr a (by simp)] at e; cases e
        rw [upd_ne na, upd_ne np, upd_ne eb]
        exact h.s1 _ _ e
  · simp only [List.nodup_cons, List.mem_cons, not_or]
    exact ⟨⟨pa', pas⟩, aas, ndas⟩
  · intro b hb
    have hb2 : b ≠ r ∧ b ≠ q ∧ F b = none := by
      simp only [List.mem_cons] at hb
      rcases hb with rfl | rfl | hb
      · exact ⟨rp, pq', h.fr _ (by simp)⟩
      · exact ⟨ra, Ne.symm qa, h.fr _ (by simp)⟩
      · exact ⟨nr b (op.some b hb), fun e => qas (by rw [← e]; exact hb), h.fr _ (by simp [hb])⟩
    rw [upd_ne hb2.1, upd_ne hb2.2.1]; exact hb2.2.2
  · rw [upd_ne pa', upd_same, List.reverse_cons, List.map_append, List.map_singleton, List.dropLast_concat]
  · exact (pa.mono sF).app (.rep upd_same hq3 (by omega) (pq.mono sF) .nil)
  · rw [List.length_append, List.length_singleton]; omega
  · refine op.mono sF (by omega) fun b hb => ?_
    rw [upd_ne (fun e => aas (by rw [← e]; exact hb)), upd_ne (fun e => pas (by rw [← e]; exact hb)), upd_ne (nr b (op.some b hb))]
theorem Lay.free {H0 F H' : Hp} {p q : Addr} {as os ps n} (h : Lay H0 F H' p q as os ps n) {b : Addr} (hb : b ∈ p :: q :: as) : H0 b = none := by
  cases e : H0 b with
  | none => rfl
  | some u =>
    have := h.s0 b u e
    rw [h.fr b hb] at this; cases this
theorem PVs.uncons {H : Hp} {x : V} {r : List V} {ps : Parts} (h : PVs H (x :: r) ps) : ∃ a b, PVs H [x] a ∧ PVs H r b ∧ ps.den = a.den ++ b.den ∧ a.dep ≤ ps.dep ∧ b.dep ≤ ps.dep ∧ (ps.ok → a.ok ∧ b.ok) := by
  cases h with
  | @seq s _ r0 pr =>
    exact ⟨.seq (tl s) .nil, r0, .seq .nil, pr, by simp [Parts.den], Nat.zero_le _, Nat.le_refl _, fun h => ⟨⟨h.1, h.2.1, trivial⟩, h.2.2⟩⟩
  | @rep q p n vb vs b r0 h1 h2 h3 hb pr =>
    exact ⟨.rep b n .nil, r0, .rep h1 h2 h3 hb .nil, pr, by simp [Parts.den], by simp only [Parts.dep]; omega, by simp only [Parts.dep]; omega, fun h => ⟨⟨h.1, h.2.1, trivial⟩, h.2.2⟩⟩
theorem exm_of {K : PySem.W.Frag} {S C : Addr} {b : Bool} (h1 : PySem.W.subIn K (.ref C) (.type "BaseException") = some true) (h2 : PySem.W.isClsIn K C = true) (h3 : PySem.W.typeIn K (.ref C) = some (.type "type")) (h4 : PySem.W.subIn K (.ref S) (.ref C) = some b) :
    PySem.W.exmOne K (.ref S) (.ref C) = some b := by
  have e1 : (PySem.W.subIn K (.ref C) (.type "BaseException") == some true) = true := by rw [h1] <;> rfl
  have e2 : ((PySem.W.clsIn K C).isSome && PySem.W.typeIn K (.ref C) == some (.type "type")) = true := by
    rw [show (PySem.W.clsIn K C).isSome = true from h2, h3] <;> rfl
  unfold PySem.W.exmOne
  rw [if_pos e1]
  show (if ((PySem.W.clsIn K C).isSome && PySem.W.typeIn K (.ref C) == some (.type "type")) = true then PySem.W.subIn K (.ref S) (.ref C) else none) = some b
  rw [if_pos e2]
  exact h4

end My
/-! ### own classes: made through a local name, own operators, own ==, != -/
namespace My
open PySem PySem.Spec PyProof.Rows L2
/-- x(..), x a local name that holds the class at C -/
def tMakeL (i : Nat) (C : Addr) (sp : Sp) (dvs : List V) (E : XK) (t : TA) : TE := fun σ H Q => σ[i]? = some (some (.ref C)) ∧ tMake C sp dvs E t σ H Q
section
variable {X : Cx} {CX : CXT} {k i : Nat} {f C : Addr} {fd : FuncData} {ps : List Str} {sp : Sp} {dvs : List V} {ds : List Value} {E : XK} {x : Str} {p pos : Pos} {e : Expr} {es : List Expr} {t : TA}
theorem pe_makeL (M : Mk X.K C f) (F : FnOk X.prog X.w X.K X.mg X.base CX k f fd ps sp) (hr : Room (k + 1) X.A) (hN : X.N[i]? = some x) (hv : Vis X.env.scope x) (hb : Binds X.K fd ps ds) (hd : Vals dvs ds) (hx : Passes CX X E) (ha : PA X (e :: es) t)
    (hdb : (x == ("__debug__" : Str)) = false := by decide) (hcd : (x == ("__classdict__" : Str)) = false := by decide)
    (he : starEach (e :: es) X.env = (false, eval e X.env) :: starEach es X.env := by rfl) (hpl : (backTo pos (starEach es X.env)).any (·.1) = false := by rfl) : PE X (.Call (.Name x p) (e :: es) [] pos) (tMakeL i C sp dvs E t) := by
  refine ⟨fun pins s σ H Q I h => ?_⟩
  obtain ⟨hs, ht⟩ := h
  refine wpAny_Call_Name_kw (thn ((pe_var (pos := p) hN hv hdb hcd).run pins s σ H (fun v H1 => v = .ref C ∧ H1 = H) I ⟨.ref C, hs, rfl, rfl⟩) fun u s1 ⟨v, H1, I1, r1, q1⟩ => ?_)
  obtain ⟨rfl, rfl⟩ := q1
  cases r1
  refine PySem.W.callWith_K (h₀ := X.base) I.ok.mod.kin M.kp (thn (ha.run pos pins s1 σ _ _ I1 ht) fun us s2 ⟨vs, H2, I2, r, q⟩ => ⟨I2.kIn, ?_⟩) he hpl
  exact run_make M F hr hb hd hx I2 r q
/-- a value of the layer is never NotImplemented -/
theorem ep_back {pins : List (Addr × Obj)} {σ : L2.St} {Q : VK} {w : Value} {s : Shared} (h : EP X pins σ Q w s) : PySem.W.CmpBack (EP X pins σ Q) w s := by
  obtain ⟨v, H', I, r, q⟩ := id h
  cases w <;> first | exact h | skip
  cases v <;> first | (obtain ⟨_, r⟩ := r; exact nomatch r) | exact nomatch r
/-- a + b, a * b by the class's own method -/
def rOwn (K : PySem.W.Frag) (C : Addr) (sp : Sp) (E : XK) : R2 := fun x y H Q => ∃ a dx fs b dy gs, x = .ref a ∧ y = .ref b ∧ H a = some (.ins C dx fs) ∧ H b = some (.ins C dy gs) ∧ sp [x, y] H Q E
theorem op_own {op : Operator} (F : FnOk X.prog X.w X.K X.mg X.base CX k f fd ps sp) (hr : Room k X.A) (hb : Binds X.K fd ps []) (hx : Passes CX X E) (hc : PySem.W.selfFirst X.K C = true)
    (hs : PySem.W.findIn X.K (.ref C) (PySem.dunder op.info.2) = some (some (.ref f))) (hf : PySem.W.isFn X.K (.ref f) = true) : OpR X (binaryOp op) (rOwn X.K C sp E) := by
  intro pins s σ H x y v u Q I rx ry h
  obtain ⟨a, dx, fs, b, dy, gs, rfl, rfl, ha, hb', q⟩ := h
  cases rx
  cases ry
  obtain ⟨mA, J, _⟩ := ins_get I.hok ha
  obtain ⟨mB, J', _⟩ := ins_get I.hok hb'
  obtain ⟨od, J, _⟩ := J.look
  obtain ⟨od', J', _⟩ := J'.look
  obtain ⟨m, hF⟩ := I.fr
  refine PySem.W.binop_K hF I.ok.mod.kin J J'.type hc hs hf ?_
  refine wpAny_mono (run_fn (us := [.ref a, .ref b]) (vs := [.ref a, .ref b]) (dvs := []) (ds := []) F hr hb .nil hx I (.cons rfl (.cons rfl .nil)) (by exact q)) (fun w s' z => ep_back z) fun _ _ e => e
/-- what of a built-in class the library asks where it stands at the right of an own operator -/
structure RightT (K : PySem.W.Frag) (C : Addr) (nm T : String) : Prop where
  fo : ∃ fo, PySem.W.findIn K (.type T) (PySem.dunder nm) = some fo
  ro : ∃ ro, PySem.W.findIn K (.type T) (dunderR nm) = some ro
  su : PySem.W.subIn K (.type T) (.ref C) = some false
def tyN : V → Option String
  | .non => some "NoneType"
  | .bl _ => some "bool"
  | .int _ => some "int"
  | .str _ => some "str"
  | _ => none
def rOwnT (C : Addr) (sp : Sp) (E : XK) (Ts : List String) : R2 := fun x y H Q => ∃ a dx fs T, x = .ref a ∧ H a = some (.ins C dx fs) ∧ tyN y = some T ∧ T ∈ Ts ∧ sp [x, y] H Q E
theorem op_ownT {op : Operator} {Ts : List String} (F : FnOk X.prog X.w X.K X.mg X.base CX k f fd ps sp) (hr : Room k X.A) (hb : Binds X.K fd ps []) (hx : Passes CX X E) (hc : PySem.W.selfFirst X.K C = true)
    (hs : PySem.W.findIn X.K (.ref C) (PySem.dunder op.info.2) = some (some (.ref f))) (hf : PySem.W.isFn X.K (.ref f) = true) (hno : PySem.W.findIn X.K (.ref C) (dunderR op.info.2) = some none)
    (hT : ∀ T ∈ Ts, RightT X.K C op.info.2 T) : OpR X (binaryOp op) (rOwnT C sp E Ts) := by
  intro pins s σ H x y v u Q I rx ry h
  obtain ⟨a, dx, fs, T, rfl, ha, hty, hmem, q⟩ := h
  cases rx
  obtain ⟨mA, J, _⟩ := ins_get I.hok ha
  obtain ⟨od, J, _⟩ := J.look
  obtain ⟨m, hF⟩ := I.fr
  obtain ⟨⟨fo, h1⟩, ⟨ro, h2⟩, h3⟩ := hT T hmem
  have ht : typeOf u = pure (.type T) := by
    cases y <;> first | (cases hty; done) | skip
    · cases hty; cases ry; rfl
    · cases hty; cases ry; rfl
    · cases hty; obtain ⟨t, rfl⟩ := ry; rfl
    · cases hty; obtain ⟨t, rfl⟩ := ry; rfl
  refine PySem.W.ksp_binT hF I.ok.mod.kin J ht hc hs hf hno (.inl rfl) h1 h2 h3 ?_
  refine wpAny_mono (run_fn (us := [.ref a, u]) (vs := [.ref a, y]) (dvs := []) (ds := []) F hr hb .nil hx I (.cons rfl (.cons ry .nil)) (by exact q)) (fun w s' z => ep_back z) fun _ _ e => e
/-! ### ==, != -/
/-- what == and != of an own class need -/
structure EqK (K : PySem.W.Frag) (C f : Addr) : Prop where
  eq : PySem.W.findIn K (.ref C) "__eq__" = some (some (.ref f))
  fn : PySem.W.isFn K (.ref f) = true
  ne : PySem.W.findIn K (.ref C) "__ne__" = some (some (.builtin "object.__ne__"))
  ob : PySem.W.mroIn K C (.type "object") = some true
/-- the right operand: its type comes not ahead of C -/
def tyNot (K : PySem.W.Frag) (C : Addr) (y : V) (H : Hp) : Prop := ∃ tb, TyX K H y tb ∧ PySem.W.notFirst K C tb = true
def rOwnEq (K : PySem.W.Frag) (C : Addr) (sp : Sp) (E : XK) (neg : Bool) : R2 := fun x y H Q => ∃ a dx fs, x = .ref a ∧ H a = some (.ins C dx fs) ∧ tyNot K C y H ∧ sp [x, y] H (fun v H1 => ∃ b, v = .bl b ∧ Q (.bl (b != neg)) H1) E
theorem op_ownEq (F : FnOk X.prog X.w X.K X.mg X.base CX k f fd ps sp) (hr : Room k X.A) (hb : Binds X.K fd ps []) (hx : Passes CX X E) (q : EqK X.K C f) : OpR X (compareOp .Eq) (rOwnEq X.K C sp E false) := by
  intro pins s σ H x y v u Q I rx ry h
  obtain ⟨a, dx, fs, rfl, ha, ⟨tb, hty, hnf⟩, hsp⟩ := h
  cases rx
  obtain ⟨mA, J, _⟩ := ins_get I.hok ha
  obtain ⟨od, J, _⟩ := J.look
  obtain ⟨m, hF⟩ := I.fr
  obtain ⟨P, Z, hp, _⟩ := kit_of I ry hty
  refine PySem.W.cmp_ofEq (PySem.W.cmp_K (op := .Eq) (tb := tb) hr.units0 hF I.ok.mod.kin J (Z.ty _ _ I.kIn hp) hnf q.eq q.fn ?_)
  refine wpAny_mono (run_fn (us := [.ref a, u]) (vs := [.ref a, y]) (dvs := []) (ds := []) F hr hb .nil hx I (.cons rfl (.cons ry .nil)) (by exact hsp)) (fun w s' z => ?_) fun _ _ e => e
  refine ep_back ?_
  obtain ⟨v', H', I', r', b, rfl, q'⟩ := z
  rw [Bool.bne_false] at q'
  exact ⟨.bl b, H', I', r', q'⟩
theorem run_in1 {pins : List (Addr × Obj)} {σ : L2.St} {H : Hp} {s : Shared} {Q : VK} {us : List Value} {vs : List V} (F : FnOk X.prog X.w X.K X.mg X.base CX k f fd ps sp) (hr : Room (k + 1) X.A) (hb : Binds X.K fd ps []) (hx : Passes CX X E)
    (I : Inv X pins σ H s) (r : Vals vs us) (h : sp vs H Q E) : wpAny (model X.prog X.w) X.A.in1 (call (.ref f) us) (EP X pins σ Q) X.xe s := by
  have hl : (us ++ []).length = ps.length := by rw [List.append_nil, ← r.length]; exact F.len _ _ _ _ h
  have hb2 := hb s us I.kIn hl
  rw [List.append_nil] at hb2
  refine wpAny_call (codeAny_mono (F.run X.A.in1 X.stack s H ⟨us, []⟩ us vs Q E hr.in1 I.env0.in1 hb2 r h) fun r s' hq => ?_)
  cases r with
  | error e => exact hx pins σ H s e s' I hq
  | ok fl =>
    cases fl with
    | ret u => exact I.after hq
    | next => exact False.elim hq
    | brk => exact False.elim hq
    | cont => exact False.elim hq
end
end My
namespace PySem.W
open PySem PySem.Calls PyProof.Rows Builtin
section
variable {prog : Program} {w : World} {A : Around} {E : Value → Shared → Prop} {s : Shared} {K : Frag} {x C L f : Addr} {h₀ : Heap} {m : Str → Option Value} {ox : Obj} {od : Option Obj} {b tb : Value}
theorem my_objNe {b : Value} (X : K.In s.heap) (I : InstAt s.heap x ox C od) (hs : findIn K (.ref C) "__eq__" = some (some (.ref f))) (hf : isFn K (.ref f) = true) (hu : A.units < cLine) {Q : Fin → Shared → Prop}
    (hcall : wpAny (model prog w) A (call (.ref f) [.ref x, b]) (fun v s' => ∃ b, v = .bool b ∧ Q (.done (.ret (.bool (!b)))) s') E s) :
    wpAny (model prog w) A (Builtin.«object.__ne__» ⟨[.ref x, b], []⟩) Q E s := by
  have key : ∀ {Q' : Option Value → Shared → Prop}, wpAny (model prog w) A (call (.ref f) (.ref x :: [b])) (fun v => Q' (some v)) E s → wpAny (model prog w) A (callSpecialIfBound? (.ref x) (Str.ofString "__eq__") [b]) Q' E s := fun h => ifBound_K X I hs hf h
  unfold Builtin.«object.__ne__»
  repeat (first
    | with_reducible refine wpAny_cRoomFor hu ?_
    | (refine wpAny_bind (m := callSpecialIfBound? (.ref x) (Str.ofString "__eq__") [b])
        (key (wpAny_mono hcall (fun r s' hr => by
          obtain ⟨b, rfl, hq⟩ := hr
          repeat (first | exact hq | exact wpAny_pure hq | exact wpAny_truthy_bool hq | (refine wpAny_bind (m := truthy (.bool _)) (wpAny_truthy_bool ?_)) | wp_step)) fun _ _ e => e)))
    | wp_step)
theorem ifBound_B {M : Model} {id : String} {name : Str} {args : List Value} {Q : Option Value → Shared → Prop} (X : K.In s.heap) (I : InstAt s.heap x ox C od) (hs : findIn K (.ref C) name = some (some (.builtin id)))
    (hbd : ∀ self, bindSpecial (.builtin id) self = pure (.builtin id, [self])) (h : wpAny M A (call (.builtin id) (.ref x :: args)) (fun v => Q (some v)) E s) : wpAny M A (callSpecialIfBound? (.ref x) name args) Q E s := by
  simp only [callSpecialIfBound?, bindSpecialIfBound?]
  refine wpAny_holding (wpAny_bind (wpAny_bind (wpAny_bind (I.type.here ((looks_findIn X hs).here ?_)))))
  simp only [hbd]
  refine wpAny_bind (wpAny_askSetting (wpAny_ite ?_))
  have fin : wpAny M A (call (.builtin id) ([.ref x] ++ args) >>= fun v => pure (some v)) Q E s := wpAny_bind (wpAny_mono h (fun v s' h' => wpAny_pure h') fun _ _ h' => h')
  split
  · exact wpAny_bind (wpAny_pure (wpAny_pure fin))
  · exact wpAny_tryCatch (wpAny_bind (wpAny_pure (wpAny_pure fin)))
theorem my_ne {Q : Value → Shared → Prop} (hu : A.units + 1 < cLine) (F : Fr h₀ L s.heap m) (X₀ : K.In h₀) (I : InstAt s.heap x ox C od) (hb : Looks (model prog w) s.heap (typeOf b) tb) (hn : notFirst K C tb = true)
    (hs : findIn K (.ref C) "__eq__" = some (some (.ref f))) (hf : isFn K (.ref f) = true) (hne : findIn K (.ref C) "__ne__" = some (some (.builtin "object.__ne__"))) (hob : mroIn K C (.type "object") = some true)
    (h : wpAny (model prog w) A.in1 (call (.ref f) [.ref x, b]) (fun v s' => ∃ r, v = .bool r ∧ Q (.bool (!r)) s') E s) : wpAny (model prog w) A (richCompare .NotEq (.ref x) b) Q E s := by
  have X := X₀.keeps F.keep
  have one : wpAny (model prog w) A (tryCompare (.ref x) (cmpInfo .NotEq).2.1 b) (fun r s' => ∃ v, r = some v ∧ Q v s') E s := by
    unfold tryCompare
    refine wpAny_bind (ifBound_B X I hne PySem.F.slot_object_ne.bind ?_)
    refine wpAny_call (codeAny_call_builtin PySem.F.slot_object_ne.plain PySem.F.entry_object_ne (check_slot (i := "object.__ne__") (owner := "object") (n := "__ne__") PySem.F.cmpKind_ne PySem.F.cmpSplit_ne (I.type.andThen (looks_mroIn X hob)) (PySem.F.cmpArgs_ne _ _) ?_))
    refine wpAny_mono (my_objNe (A := A.in1) (Q := fun fin s' => ∃ r, fin = .done (.ret (.bool r)) ∧ Q (.bool r) s') X I hs hf hu (wpAny_mono h (fun v s' hv => ?_) fun _ _ e => e)) (fun fin s' hf' => ?_) fun _ _ e => e
    · obtain ⟨r, rfl, hq⟩ := hv
      exact ⟨r, rfl, !r, rfl, hq⟩
    · obtain ⟨r, rfl, hq⟩ := hf'
      exact wpAny_pure ⟨_, rfl, hq⟩
  unfold richCompare
  simp only [oneThing_ref]
  refine wpAny_holding (wpAny_bind (wpAny_cRoomFor (Nat.lt_of_succ_lt hu) ?_))
  refine wpAny_bind (I.type.here (wpAny_bind (hb.here ?_)))
  split
  · rename_i q
    have e : subIn K tb (.ref C) = some false := by
      rcases Bool.or_eq_true_iff.mp hn with e | e
      · rw [beq_iff_eq.mp e] at q; simp at q
      · exact beq_iff_eq.mp e
    refine wpAny_bind ((looks_subIn X e).here ?_)
    simp only [Bool.false_eq_true, if_false]
    refine wpAny_bind (wpAny_mono one (fun r s' z => ?_) fun _ _ e => e)
    obtain ⟨v, rfl, hq⟩ := z
    exact wpAny_pure hq
  · refine wpAny_bind (wpAny_pure ?_)
    simp only [Bool.false_eq_true, if_false]
    refine wpAny_bind (wpAny_mono one (fun r s' z => ?_) fun _ _ e => e)
    obtain ⟨v, rfl, hq⟩ := z
    exact wpAny_pure hq
end
end PySem.W
namespace My
open PySem PySem.Spec PyProof.Rows L2
section
variable {X : Cx} {CX : CXT} {k i : Nat} {f C : Addr} {fd : FuncData} {ps : List Str} {sp : Sp} {dvs : List V} {ds : List Value} {E : XK} {x : Str} {p pos : Pos} {e : Expr} {es : List Expr} {t : TA}
theorem op_ownNe (F : FnOk X.prog X.w X.K X.mg X.base CX k f fd ps sp) (hr : Room (k + 1) X.A) (hb : Binds X.K fd ps []) (hx : Passes CX X E) (q : EqK X.K C f) : OpR X (compareOp .NotEq) (rOwnEq X.K C sp E true) := by
  intro pins s σ H x y v u Q I rx ry h
  obtain ⟨a, dx, fs, rfl, ha, ⟨tb, hty, hnf⟩, hsp⟩ := h
  cases rx
  obtain ⟨mA, J, _⟩ := ins_get I.hok ha
  obtain ⟨od, J, _⟩ := J.look
  obtain ⟨m, hF⟩ := I.fr
  obtain ⟨P, Z, hp, _⟩ := kit_of I ry hty
  refine PySem.W.cmp_ofNotEq (PySem.W.my_ne (tb := tb) (hu_of hr) hF I.ok.mod.kin J (Z.ty _ _ I.kIn hp) hnf q.eq q.fn q.ne q.ob ?_)
  refine wpAny_mono (run_in1 (us := [.ref a, u]) (vs := [.ref a, y]) F hr hb hx I (.cons rfl (.cons ry .nil)) hsp) (fun w s' z => ?_) fun _ _ e => e
  obtain ⟨v', H', I', r', b, rfl, q'⟩ := z
  cases r'
  rw [Bool.bne_true] at q'
  exact ⟨b, rfl, .bl (!b), H', I', rfl, q'⟩
end
/-- max of three ints -/
theorem call_max3I {X : Cx} (hc : X.calm = true) : CallR X (.builtin "max") (fun xs H Q => ∃ i j l : Int, xs = [.int i, .int j, .int l] ∧ Q (.int (max (max i j) l)) H) := by
  intro pins s σ H xs us Q I r h
  obtain ⟨i, j, l, rfl, q⟩ := h
  refine call_max3Nu hc pins s σ H _ us Q I r ⟨_, _, _, .int (max (max i j) l), rfl, ?_, q⟩
  have e : ∀ a b : Int, nuMax2 (.int a) (.int b) = some (.int (max a b)) := fun a b => by
    show some (if decide (a < b) = true then V.int b else V.int a) = _
    by_cases h : a < b
    · rw [decide_eq_true h, if_pos rfl, show max a b = b by omega]
    · rw [decide_eq_false h, if_neg (by decide), show max a b = a by omega]
  unfold nuMax3
  rw [e]
  exact e _ _
/-- t1 = t2 = t3 = t4 = e -/
def tAsg4 (te : TE) (g1 g2 g3 g4 : TG) : TS := fun D σ H => te σ H fun x H1 => g1 x σ H1 fun σ1 H2 => g2 x σ1 H2 fun σ2 H3 => g3 x σ2 H3 fun σ3 H4 => g4 x σ3 H4 D.nx
theorem ps_asg4 {X : Cx} {e : Expr} {te : TE} {pos : Pos} {t1 t2 t3 t4 : Expr} {g1 g2 g3 g4 : TG} (he : PE X e te) (h1 : PG X t1 g1) (h2 : PG X t2 g2) (h3 : PG X t3 g3) (h4 : PG X t4 g4)
    (ha : (assignEach [t1, t2, t3, t4] X.env).map (·.2) = [assign t1 X.env, assign t2 X.env, assign t3 X.env, assign t4 X.env] := by rfl) (hw : swappedStores [t1, t2, t3, t4] e X.env = pure none := by rfl) :
    PS X (.Assign [t1, t2, t3, t4] e pos) (tAsg4 te g1 g2 g3 g4) := by
  refine ⟨fun pins s σ H D I h => ?_⟩
  refine wpAny_Assign_stores (thn (he.run pins s σ H _ I h) fun v s1 ⟨x, H1, I1, r1, q1⟩ => ?_) rfl hw
  rw [ha]
  refine wpAny_bind (wpAny_holding (thn (h1.run pins s1 σ H1 x v _ I1 r1 q1) fun _ s2 ⟨σ2, H2, I2, q2⟩ => ?_))
  refine wpAny_bind (wpAny_holding (thn (h2.run pins s2 σ2 H2 x v _ I2 r1 q2) fun _ s3 ⟨σ3, H3, I3, q3⟩ => ?_))
  refine wpAny_bind (wpAny_holding (thn (h3.run pins s3 σ3 H3 x v _ I3 r1 q3) fun _ s4 ⟨σ4, H4, I4, q4⟩ => ?_))
  exact thn (h4.run pins s4 σ4 H4 x v _ I4 r1 q4) fun _ s5 q => q
end My

set_option maxHeartbeats 4000000
/-! ### profiles: numbers, the sum, the product -/
namespace My
open PySem
structure Prf where
  puts : Int
  takes : Int
  low : Int
  high : Int
  fall : Int
namespace Prf
def off (p : Prf) : Int := p.puts - p.takes
def zero : Prf := ⟨0, 0, 0, 0, 0⟩
def pstp (p : Prf) (c : Nat) : Prf :=
  let o := p.off + (if c = 45 then -1 else 1)
  ⟨p.puts + (if c = 45 then 0 else 1), p.takes + (if c = 45 then 1 else 0), min p.low o, max p.high o, max p.fall (max p.high o - o)⟩
def add (p q : Prf) : Prf := ⟨p.puts + q.puts, p.takes + q.takes, min p.low (p.off + q.low), max p.high (p.off + q.high), max (max p.fall q.fall) (p.high - (p.off + q.low))⟩
def mul (p : Prf) (n : Int) : Prf :=
  if n = 0 then zero else
  let ls := p.off * (n - 1)
  ⟨p.puts * n, p.takes * n, p.low + min 0 ls, p.high + max 0 ls, if n = 1 then p.fall else max (max p.fall ((p.high - p.low) - p.off)) ((p.high - p.low) - ls)⟩
structure Ok (p : Prf) : Prop where
  p0 : 0 ≤ p.puts
  t0 : 0 ≤ p.takes
  l0 : p.low ≤ 0
  h0 : 0 ≤ p.high
  lo : p.low ≤ p.off
  oh : p.off ≤ p.high
  f1 : p.high - p.off ≤ p.fall
  f2 : -p.low ≤ p.fall
  f3 : p.fall ≤ p.high - p.low
theorem ext {p q : Prf} (h1 : p.puts = q.puts) (h2 : p.takes = q.takes) (h3 : p.low = q.low) (h4 : p.high = q.high) (h5 : p.fall = q.fall) : p = q := by
  cases p; cases q; simp only at h1 h2 h3 h4 h5; subst h1; subst h2; subst h3; subst h4; subst h5; rfl
theorem ok_zero : zero.Ok := by constructor <;> decide
theorem ok_pstp {p : Prf} (h : p.Ok) (c : Nat) : (p.pstp c).Ok := by
  obtain ⟨a, b, d, e, f, g, i, j, k⟩ := h
  unfold off at *
  unfold pstp off
  by_cases hc : c = 45
  · simp only [hc, if_true]
    constructor <;> simp only [off] <;> omega
  · simp only [hc, if_false]
    constructor <;> simp only [off] <;> omega
theorem add_pstp (p q : Prf) (c : Nat) : (p.add q).pstp c = p.add (q.pstp c) := by
  have ho : (p.add q).off = p.off + q.off := by simp only [add, off]; omega
  have hq : (q.pstp c).off = q.off + (if c = 45 then -1 else 1) := by simp only [pstp, off]; split <;> omega
  unfold pstp
  rw [ho]
  refine ext ?_ ?_ ?_ ?_ ?_
  · simp only [add]; omega
  · simp only [add]; omega
  · simp only [add]; split <;> omega
  · simp only [add]; split <;> omega
  · simp only [add]
    generalize (if c = 45 then (-1 : Int) else 1) = d
    generalize p.off = po
    generalize q.off = qo
    omega
theorem add_zero {p : Prf} (h : p.Ok) : p.add zero = p := by
  obtain ⟨a, b, d, e, f, g, i, j, k⟩ := h
  refine ext ?_ ?_ ?_ ?_ ?_ <;> simp only [add, zero] <;> omega
theorem zero_add {p : Prf} (h : p.Ok) : zero.add p = p := by
  obtain ⟨a, b, d, e, f, g, i, j, k⟩ := h
  refine ext ?_ ?_ ?_ ?_ ?_ <;> simp only [add, zero, off] <;> omega
theorem off_add (p q : Prf) : (p.add q).off = p.off + q.off := by simp only [add, off]; omega
theorem ok_add {p q : Prf} (h : p.Ok) (h' : q.Ok) : (p.add q).Ok := by
  have ho := off_add p q
  obtain ⟨a, b, d, e, f, g, i, j, k⟩ := h
  obtain ⟨a', b', d', e', f', g', i', j', k'⟩ := h'
  constructor <;> (try rw [ho]) <;> simp only [add] <;> omega
theorem add_assoc (p q r : Prf) : (p.add q).add r = p.add (q.add r) := by
  have ho := off_add p q
  have h2 := off_add q r
  refine ext ?_ ?_ ?_ ?_ ?_
  · simp only [add]; omega
  · simp only [add]; omega
  · show min (p.add q).low ((p.add q).off + r.low) = min p.low (p.off + (q.add r).low)
    rw [ho]; simp only [add]; omega
  · show max (p.add q).high ((p.add q).off + r.high) = max p.high (p.off + (q.add r).high)
    rw [ho]; simp only [add]; omega
  · show max (max (p.add q).fall r.fall) ((p.add q).high - ((p.add q).off + r.low)) = max (max p.fall (q.add r).fall) (p.high - (p.off + (q.add r).low))
    rw [ho]; simp only [add]; omega
theorem off_mul (p : Prf) (n : Nat) : (p.mul n).off = p.off * n := by
  unfold mul
  by_cases h : (n : Int) = 0
  · rw [if_pos h, h, Int.mul_zero]; rfl
  · rw [if_neg h]; simp only [off]; rw [Int.sub_mul]
theorem mul_succ {p : Prf} (h : p.Ok) (n : Nat) : (p.mul n).add p = p.mul (n + 1 : Nat) := by
  have ho := off_mul p n
  obtain ⟨a, b, d, e, f, g, i, j, k⟩ := h
  cases n with
  | zero =>
    rw [show p.mul (0 : Nat) = zero from rfl]
    unfold mul
    simp only [Nat.zero_add, Int.natCast_one, Int.sub_self, Int.mul_zero, Int.mul_one]
    refine ext ?_ ?_ ?_ ?_ ?_ <;> simp only [add, zero, off] <;> simp <;> omega
  | succ m =>
    have x1 : ((m + 1 + 1 : Nat) : Int) - 1 = ((m : Int) + 1) := by omega
    have x2 : ((m + 1 : Nat) : Int) - 1 = (m : Int) := by omega
    have x3 : p.off * ((m : Int) + 1) = p.off * m + p.off := by rw [Int.mul_add, Int.mul_one]
    have n0 : ¬ ((m + 1 + 1 : Nat) : Int) = 0 := by omega
    have n1 : ¬ ((m + 1 : Nat) : Int) = 0 := by omega
    have n2 : ¬ ((m + 1 + 1 : Nat) : Int) = 1 := by omega
    have hpos : 0 ≤ p.off → 0 ≤ p.off * (m : Int) := fun h => Int.mul_nonneg h (Int.natCast_nonneg m)
    have hneg : p.off ≤ 0 → p.off * (m : Int) ≤ 0 := fun h => Int.mul_nonpos_of_nonpos_of_nonneg h (Int.natCast_nonneg m)
    have hpos1 : 1 ≤ m → 0 ≤ p.off → p.off ≤ p.off * (m : Int) := fun hm h => by
      have := Int.mul_le_mul_of_nonneg_left (a := 1) (b := (m : Int)) (c := p.off) (by omega) h
      rwa [Int.mul_one] at this
    have y1 : p.puts * ((m + 1 + 1 : Nat) : Int) = p.puts * ((m + 1 : Nat) : Int) + p.puts := by rw [show ((m + 1 + 1 : Nat) : Int) = ((m + 1 : Nat) : Int) + 1 by omega, Int.mul_add, Int.mul_one]
    have y2 : p.takes * ((m + 1 + 1 : Nat) : Int) = p.takes * ((m + 1 : Nat) : Int) + p.takes := by rw [show ((m + 1 + 1 : Nat) : Int) = ((m + 1 : Nat) : Int) + 1 by omega, Int.mul_add, Int.mul_one]
    have y3 : p.off * ((m + 1 : Nat) : Int) = p.off * m + p.off := by rw [show ((m + 1 : Nat) : Int) = (m : Int) + 1 by omega, x3]
    rw [y3] at ho
    have em : p.mul (m + 1 + 1 : Nat) = ⟨p.puts * ((m + 1 + 1 : Nat) : Int), p.takes * ((m + 1 + 1 : Nat) : Int), p.low + min 0 (p.off * m + p.off), p.high + max 0 (p.off * m + p.off), max (max p.fall ((p.high - p.low) - p.off)) ((p.high - p.low) - (p.off * m + p.off))⟩ := by
      unfold mul; simp only [n0, n2, if_false, x1, x3]
    have en : p.mul (m + 1 : Nat) = ⟨p.puts * ((m + 1 : Nat) : Int), p.takes * ((m + 1 : Nat) : Int), p.low + min 0 (p.off * m), p.high + max 0 (p.off * m), if ((m + 1 : Nat) : Int) = 1 then p.fall else max (max p.fall ((p.high - p.low) - p.off)) ((p.high - p.low) - (p.off * m))⟩ := by
      unfold mul; simp only [n1, if_false, x2]
    rw [em]
    unfold add
    rw [ho, en]
    have hz : m = 0 → p.off * (m : Int) = 0 := fun h => by rw [h]; exact Int.mul_zero _
    generalize p.off * (m : Int) = z at *
    generalize p.off = o at *
    refine ext ?_ ?_ ?_ ?_ ?_
    · simp only; omega
    · simp only; omega
    · simp only
      rcases Int.le_total 0 o with q | q
      · have := hpos q; omega
      · have := hneg q; omega
    · simp only
      rcases Int.le_total 0 o with q | q
      · have := hpos q; omega
      · have := hneg q; omega
    · simp only
      by_cases hm : m = 0
      · subst hm
        have z0 : z = 0 := hz rfl
        rw [if_pos (by rfl), z0]
        omega
      · rw [if_neg (by omega)]
        rcases Int.le_total 0 o with q | q
        · have := hpos1 (by omega) q; omega
        · have := hneg q; omega
theorem ok_mul {p : Prf} (h : p.Ok) : ∀ n : Nat, (p.mul n).Ok
  | 0 => ok_zero
  | n + 1 => by rw [← mul_succ h]; exact ok_add (ok_mul h n) h
end Prf
open Prf
def prof (s : List Nat) : Prf := s.foldl pstp zero
theorem prof_ok_from : ∀ (s : List Nat) {p : Prf}, p.Ok → (s.foldl pstp p).Ok
  | [], _, h => h
  | c :: s, _, h => prof_ok_from s (ok_pstp h c)
theorem prof_ok (s : List Nat) : (prof s).Ok := prof_ok_from s ok_zero
theorem foldl_add (p : Prf) : ∀ (s : List Nat) (q : Prf), s.foldl pstp (p.add q) = p.add (s.foldl pstp q)
  | [], _ => rfl
  | c :: s, q => by rw [List.foldl_cons, List.foldl_cons, add_pstp, foldl_add p s]
theorem prof_app (a b : List Nat) : prof (a ++ b) = (prof a).add (prof b) := by
  unfold prof
  rw [List.foldl_append]
  have := foldl_add (a.foldl pstp zero) b zero
  have e : (a.foldl pstp zero).add zero = a.foldl pstp zero := add_zero (prof_ok a)
  rw [e] at this
  exact this
theorem prof_rep (a : List Nat) : ∀ n : Nat, prof (List.replicate n a).flatten = (prof a).mul n
  | 0 => rfl
  | n + 1 => by
    rw [List.replicate_succ', List.flatten_append, prof_app, prof_rep a n, List.flatten_cons, List.flatten_nil, List.append_nil, mul_succ (prof_ok a)]
theorem prof_take (s : List Nat) (k : Nat) (c : Nat) (h : s[k]? = some c) : prof (s.take (k + 1)) = (prof (s.take k)).pstp c := by
  have : s.take (k + 1) = s.take k ++ [c] := by rw [List.take_add_one, h]; rfl
  unfold prof
  rw [this, List.foldl_append]
  rfl
/-- the offset after the first i steps -/
def ofs (s : List Nat) (i : Nat) : Int := (prof (s.take i)).off
theorem low_le (s : List Nat) : ∀ k : Nat, k ≤ s.length → (∀ i, i ≤ k → (prof (s.take k)).low ≤ ofs s i) ∧ ∃ i, i ≤ k ∧ (prof (s.take k)).low = ofs s i
  | 0, _ => ⟨fun i hi => by rw [show i = 0 by omega]; exact Int.le_refl _, 0, Nat.le_refl _, rfl⟩
  | k + 1, h => by
    obtain ⟨h1, j, hj, h2⟩ := low_le s k (by omega)
    obtain ⟨c, hc⟩ : ∃ c, s[k]? = some c := ⟨_, List.getElem?_eq_getElem (by omega)⟩
    have e := prof_take s k c hc
    have eo : ofs s (k + 1) = (prof (s.take k)).off + (if c = 45 then -1 else 1) := by unfold ofs; rw [e]; simp only [pstp, off]; split <;> omega
    have el : (prof (s.take (k + 1))).low = min (prof (s.take k)).low (ofs s (k + 1)) := by rw [e, eo]; rfl
    rw [el]
    refine ⟨fun i hi => ?_, ?_⟩
    · by_cases q : i = k + 1
      · rw [q]; omega
      · have := h1 i (by omega); omega
    · by_cases q : (prof (s.take k)).low ≤ ofs s (k + 1)
      · exact ⟨j, by omega, by omega⟩
      · exact ⟨k + 1, Nat.le_refl _, by omega⟩
theorem high_ge (s : List Nat) : ∀ k : Nat, k ≤ s.length → (∀ i, i ≤ k → ofs s i ≤ (prof (s.take k)).high) ∧ ∃ i, i ≤ k ∧ (prof (s.take k)).high = ofs s i
  | 0, _ => ⟨fun i hi => by rw [show i = 0 by omega]; exact Int.le_refl _, 0, Nat.le_refl _, rfl⟩
  | k + 1, h => by
    obtain ⟨h1, j, hj, h2⟩ := high_ge s k (by omega)
    obtain ⟨c, hc⟩ : ∃ c, s[k]? = some c := ⟨_, List.getElem?_eq_getElem (by omega)⟩
    have e := prof_take s k c hc
    have eo : ofs s (k + 1) = (prof (s.take k)).off + (if c = 45 then -1 else 1) := by unfold ofs; rw [e]; simp only [pstp, off]; split <;> omega
    have el : (prof (s.take (k + 1))).high = max (prof (s.take k)).high (ofs s (k + 1)) := by rw [e, eo]; rfl
    rw [el]
    refine ⟨fun i hi => ?_, ?_⟩
    · by_cases q : i = k + 1
      · rw [q]; omega
      · have := h1 i (by omega); omega
    · by_cases q : ofs s (k + 1) ≤ (prof (s.take k)).high
      · exact ⟨j, by omega, by omega⟩
      · exact ⟨k + 1, Nat.le_refl _, by omega⟩
theorem prof_takes (s : List Nat) : (prof s).takes = (s.count 45 : Nat) ∧ (prof s).puts = (s.length : Int) - (s.count 45 : Nat) := by
  have gen : ∀ (s : List Nat) (p : Prf), (s.foldl pstp p).takes = p.takes + (s.count 45 : Nat) ∧ (s.foldl pstp p).puts = p.puts + (s.length : Int) - (s.count 45 : Nat) := by
    intro s
    induction s with
    | nil => intro p; simp
    | cons c s ih =>
      intro p
      obtain ⟨h1, h2⟩ := ih (p.pstp c)
      rw [List.foldl_cons, h1, h2, List.count_cons, List.length_cons]
      by_cases hc : c = 45
      · simp only [pstp, hc, if_true, beq_self_eq_true]; omega
      · simp only [pstp, hc, if_false, beq_iff_eq]; omega
  have := gen s zero
  simp only [zero, Int.zero_add] at this
  exact this
theorem prof_bound (s : List Nat) : ∀ n : Nat, s.length ≤ n → (prof s).puts ≤ n ∧ (prof s).takes ≤ n ∧ -(n : Int) ≤ (prof s).low ∧ (prof s).high ≤ n ∧ (prof s).fall ≤ 2 * n := by
  intro n hn
  have h1 := prof_takes s
  have h2 := low_le s s.length (Nat.le_refl _)
  have h3 := high_ge s s.length (Nat.le_refl _)
  have h4 := (prof_ok s)
  have hc : s.count 45 ≤ s.length := List.count_le_length
  rw [List.take_length] at h2 h3
  have ob : ∀ i, i ≤ s.length → -(n : Int) ≤ ofs s i ∧ ofs s i ≤ n := fun i hi => by
    have q := prof_takes (s.take i)
    have q2 : (s.take i).count 45 ≤ (s.take i).length := List.count_le_length
    have q3 : (s.take i).length ≤ s.length := by rw [List.length_take]; omega
    unfold ofs off
    rw [q.1, q.2]
    omega
  obtain ⟨i, hi, ei⟩ := h2.2
  obtain ⟨j, hj, ej⟩ := h3.2
  have a1 := ob i hi
  have a2 := ob j hj
  have a3 := h4.f3
  refine ⟨by omega, by omega, by omega, by omega, by omega⟩
end My

namespace My
open PySem L2 TL
theorem vals_take {vs : List V} {us : List Value} (h : Vals vs us) : ∀ n, Vals (vs.take n) (us.take n) := by
  induction h with
  | nil => intro n; cases n <;> exact .nil
  | cons r _ ih =>
    intro n
    cases n with
    | zero => exact .nil
    | succ n => exact .cons r (ih n)
theorem vals_drop {vs : List V} {us : List Value} (h : Vals vs us) : ∀ n, Vals (vs.drop n) (us.drop n) := by
  induction h with
  | nil => intro n; cases n <;> exact .nil
  | cons r h ih =>
    intro n
    cases n with
    | zero => exact .cons r h
    | succ n => exact ih n
theorem kbn_mk {K : PySem.W.Frag} {x qual : Str} {st : Stmt} {f : Addr} {oc : Value} {od an : Option Addr} {osl : Array (Option Value)} {kV doc pm cdv ct : Value} {ps : List Str} {ks : List Str}
    (l : K.lookup f = some ⟨oc, od, .func (PySem.W.fnOf x qual (defArgs st) (defBody st) (defScope st) .none kV doc pm an cdv ct), osl⟩)
    (h : ∀ us ws : List Value, us.length = 1 → ws.length = ks.length → bindArgs (PySem.W.fnOf x qual (defArgs st) (defBody st) (defScope st) .none kV doc pm an cdv ct) ⟨us, ks.zip ws⟩ = pure (ps.zip (us ++ (ws.drop 3 ++ ws.take 3)))) :
    KBn K (PySem.W.fnOf x qual (defArgs st) (defBody st) (defScope st) .none kV doc pm an cdv ct) ps 1 ks (fun us ws => us ++ (ws.drop 3 ++ ws.take 3)) (fun us ws => us ++ (ws.drop 3 ++ ws.take 3)) :=
  ⟨fun s us ws _ l1 l2 => .of_eq (h us ws l1 l2), fun r1 r2 => r1.append ((vals_drop r2 3).append (vals_take r2 3))⟩
/-- what an except clause wishes at all slots -/
def WA (W : WX) : XK := fun cls d H => ∀ σ, W cls d σ H
theorem passAll {X : Cx} {W : WX} (tk : Takes X W) : Passes (L2.CX X.prog X.w) X (WA W) := fun _ σ _ _ e s' I c => tk e s' (XE.of_call I (fun _ _ _ h => h σ) c)
/-- x.replace("-", ""), x.count("-") -/
theorem replL_one (c : Nat) : ∀ l : List Nat, PySem.StrLaws.replL [c] [] l = l.filter (fun x => decide (x ≠ c))
  | [] => PySem.StrLaws.replL_nil
  | x :: l => by
    by_cases h : x = c
    · subst h
      rw [PySem.StrLaws.replL_hit (by simp) (by simp), List.filter_cons, if_neg (by simp)]
      simpa using replL_one x l
    · rw [PySem.StrLaws.replL_miss (by simpa using h), List.filter_cons, if_pos (by simpa using h), replL_one c l]
theorem replace_one (x : Str) : tl (Txt.replace x ("-" : Str) ("" : Str)) = (tl x).filter (fun c => decide (c ≠ 45)) := by
  have h := PySem.StrLaws.replace_list (x := x) (y := ("-" : Str)) (z := ("" : Str)) (by decide +kernel)
  show (Txt.replace x ("-" : Str) ("" : Str)).cps.toList = _
  rw [h, show ("-" : Str).cps.toList = [45] from by decide +kernel, show ("" : Str).cps.toList = [] from by decide +kernel, replL_one]
open Builtin Builtin.Str in
theorem count_one (x : Str) : Txt.count x ("-" : Str) = ((tl x).count 45 : Nat) := by
  have hr := replace_one x
  have hy : (glued ("-" : Str) (partsBetween x (occurrences x ("-" : Str) 0 x.length (x.length + 1)) ("-" : Str).length)).length = x.length := by rw [PySem.StrLaws.glued_between_self]
  have l1 : ("-" : Str).length = 1 := by decide +kernel
  have l0 : ("" : Str).length = 0 := by decide +kernel
  have hc : ((tl x).filter (fun c => decide (c ≠ 45))).length + (tl x).count 45 = (tl x).length := by
    generalize tl x = l
    induction l with
    | nil => rfl
    | cons a l ih =>
      rw [List.filter_cons, List.count_cons, List.length_cons]
      by_cases h : a = 45
      · simp [h] at ih ⊢; omega
      · simp [h] at ih ⊢; omega
  have hx : (tl x).length = x.length := tl_len x
  unfold Txt.count
  have hl := congrArg List.length hr
  rw [tl_len] at hl
  unfold Txt.replace at hl
  rw [l0] at hl
  generalize occurrences x ("-" : Str) 0 x.length (x.length + 1) = occ at *
  cases hoc : occ with
  | nil =>
    rw [hoc] at hl
    simp only [List.isEmpty_nil, Bool.true_or, if_true] at hl
    simp only [List.length_nil]
    omega
  | cons a r =>
    rw [hoc] at hl hy
    rw [if_neg (by rw [l1]; simp)] at hl
    rw [size_glued, length_partsBetween] at hl hy
    rw [l1] at hl hy
    rw [l0] at hl
    simp only [Nat.add_sub_cancel, Nat.mul_zero, Nat.mul_one] at hl hy
    omega
end My

namespace My
open PySem L2 TL
/-! ### instances' fields -/
theorem lk_cons {k m : Str} {v : V} {r : List (Str × V)} : List.lookup m ((k, v) :: r) = if m = k then some v else r.lookup m := by
  by_cases h : m = k
  · have hb : (m == k) = true := beq_iff_eq.mpr h
    simp only [List.lookup, hb, if_pos h]
  · have hb : (m == k) = false := beq_eq_false_iff_ne.mpr h
    simp only [List.lookup, hb, if_neg h]
theorem putF_len (f : Str) (v : V) : ∀ fs : List (Str × V), (putF f v fs).length ≤ fs.length + 1
  | [] => Nat.le_refl _
  | (g, x) :: r => by
    show (if g = f then (g, v) :: r else (g, x) :: putF f v r).length ≤ _
    split
    · rw [List.length_cons, List.length_cons]; omega
    · rw [List.length_cons, List.length_cons]; have := putF_len f v r; omega
theorem rd_fld {K : PySem.W.Frag} {H : Hp} {x C dx : Addr} {fs : List (Str × V)} {f : Str} {v : V} {Q : V → Prop} (hx : H x = some (.ins C dx fs)) (cl : Cls K C) (n : NoAttr K C f) (l : fs.lookup f = some v) (q : Q v) :
    ∃ C' dx' fs', H x = some (.ins C' dx' fs') ∧ Cls K C' ∧ NoAttr K C' f ∧ ∃ y, List.lookup f fs' = some y ∧ Q y := ⟨_, _, _, hx, cl, n, _, l, q⟩
/-! ### the fields of a profile -/
def pfl (p : Prf) : List (Str × V) := [("_puts", .int p.puts), ("_takes", .int p.takes), ("_low", .int p.low), ("_high", .int p.high), ("_fall", .int p.fall)]
theorem pfl_put (a b l h f : Int) : putF "_fall" (.int f) (putF "_high" (.int h) (putF "_low" (.int l) (putF "_takes" (.int b) (putF "_puts" (.int a) [])))) = pfl ⟨a, b, l, h, f⟩ := by
  have h1 : ¬ ("_puts" : Str) = "_takes" := by decide +kernel
  have h2 : ¬ ("_puts" : Str) = "_low" := by decide +kernel
  have h3 : ¬ ("_puts" : Str) = "_high" := by decide +kernel
  have h4 : ¬ ("_puts" : Str) = "_fall" := by decide +kernel
  have h5 : ¬ ("_takes" : Str) = "_low" := by decide +kernel
  have h6 : ¬ ("_takes" : Str) = "_high" := by decide +kernel
  have h7 : ¬ ("_takes" : Str) = "_fall" := by decide +kernel
  have h8 : ¬ ("_low" : Str) = "_high" := by decide +kernel
  have h9 : ¬ ("_low" : Str) = "_fall" := by decide +kernel
  have h10 : ¬ ("_high" : Str) = "_fall" := by decide +kernel
  simp only [putF, h1, h2, h3, h4, h5, h6, h7, h8, h9, h10, if_false, pfl]
section
variable (p : Prf)
theorem pfl_puts : (pfl p).lookup ("_puts" : Str) = some (.int p.puts) := by unfold pfl; rw [lk_cons, if_pos rfl]
theorem pfl_takes : (pfl p).lookup ("_takes" : Str) = some (.int p.takes) := by unfold pfl; rw [lk_cons, if_neg (by decide +kernel), lk_cons, if_pos rfl]
theorem pfl_low : (pfl p).lookup ("_low" : Str) = some (.int p.low) := by unfold pfl; rw [lk_cons, if_neg (by decide +kernel), lk_cons, if_neg (by decide +kernel), lk_cons, if_pos rfl]
theorem pfl_high : (pfl p).lookup ("_high" : Str) = some (.int p.high) := by unfold pfl; rw [lk_cons, if_neg (by decide +kernel), lk_cons, if_neg (by decide +kernel), lk_cons, if_neg (by decide +kernel), lk_cons, if_pos rfl]
theorem pfl_fall : (pfl p).lookup ("_fall" : Str) = some (.int p.fall) := by unfold pfl; rw [lk_cons, if_neg (by decide +kernel), lk_cons, if_neg (by decide +kernel), lk_cons, if_neg (by decide +kernel), lk_cons, if_neg (by decide +kernel), lk_cons, if_pos rfl]
theorem pfl_no {m : Str} (h1 : ¬ m = "_puts") (h2 : ¬ m = "_takes") (h3 : ¬ m = "_low") (h4 : ¬ m = "_high") (h5 : ¬ m = "_fall") : (pfl p).lookup m = none := by
  unfold pfl; rw [lk_cons, if_neg h1, lk_cons, if_neg h2, lk_cons, if_neg h3, lk_cons, if_neg h4, lk_cons, if_neg h5]; rfl
end
def ProfAt (C : Addr) (H : Hp) (x : Addr) (p : Prf) : Prop := ∃ dx, H x = some (.ins C dx (pfl p))
theorem ProfAt.mono {C : Addr} {H H' : Hp} (s : Same H H') {x : Addr} {p : Prf} (h : ProfAt C H x p) : ProfAt C H' x p := let ⟨dx, e⟩ := h; ⟨dx, s _ _ e⟩
theorem prf_eq_iff (p q : Prf) : p = q ↔ p.puts = q.puts ∧ p.takes = q.takes ∧ p.low = q.low ∧ p.high = q.high ∧ p.fall = q.fall :=
  ⟨fun h => by subst h; exact ⟨rfl, rfl, rfl, rfl, rfl⟩, fun ⟨h1, h2, h3, h4, h5⟩ => Prf.ext h1 h2 h3 h4 h5⟩
instance prfDec : DecidableEq Prf := fun p q => decidable_of_iff _ (prf_eq_iff p q).symm
def Prf.bnd (p : Prf) (k : Nat) : Prop := p.puts.natAbs < 2 ^ k ∧ p.takes.natAbs < 2 ^ k ∧ p.low.natAbs < 2 ^ k ∧ p.high.natAbs < 2 ^ k ∧ p.fall.natAbs < 2 ^ k
theorem Prf.bnd_off {p : Prf} {k : Nat} (h : p.bnd k) : p.off.natAbs < 2 ^ (k + 1) := by
  obtain ⟨h1, h2, _⟩ := h
  unfold Prf.off
  rw [Nat.pow_succ]; omega
/-! ### loops -/
/-- [e for x in a tuple] -/
theorem lcT {K : PySem.W.Frag} {tl : TE} {g : TG} {tt : TT} {te : TE} {vs : List Nat} {σ : L2.St} {H : Hp} {Q : VK}
    (h : ∀ R : VK, (∀ (a : Addr) (xs : List V) (H1 : Hp), SqT K H1 a xs → (∀ D, H1 D = none → ∃ Pv : Nat → Hp → Prop, Pv 0 (upd H1 D (.lst [])) ∧ (∀ i H, i ≤ xs.length → Pv i H → SqT K H a xs) ∧
      (∀ i x H, xs[i]? = some x → Pv i H → g x (wipe σ vs) H fun σ2 H2 => wipe σ2 vs = wipe σ vs ∧ tt σ2 H2 fun b H3 =>
        if b = true then te σ2 H3 fun y H4 => ∃ acc, H4 D = some (.lst acc) ∧ acc.length < sizeLine ∧ Pv (i + 1) (upd H4 D (.lst (acc ++ [y]))) else Pv (i + 1) H3) ∧ ∀ H, Pv xs.length H → Q (.ref D) H) → R (.ref a) H1) → tl σ H R) : tLc (iTup K tl) g tt te vs σ H Q :=
  h _ fun a xs H1 hs hk => ⟨a, rfl, ⟨xs, hs⟩, fun D hD => by
    obtain ⟨Pv, h0, hl, hst, hd⟩ := hk D hD
    exact lc_tup (K := K) (a := a) (xs := xs) Pv h0 hl hst hd⟩
/-- for c in a text -/
theorem forS {te : TE} {g : TG} {tb : TS} {D : Ends} {σ : L2.St} {H : Hp}
    (h : ∀ R : VK, (∀ (x : Str) (Pv : Nat → L2.St → Hp → Prop) (H1 : Hp), Pv 0 σ H1 →
      (∀ i c σ H, (tl x)[i]? = some c → Pv i σ H → g (.str ⟨#[c]⟩) σ H fun σ2 H2 => tb { D with nx := Pv (i + 1), ct := Pv (i + 1), bk := D.nx } σ2 H2) → (∀ σ H, Pv (tl x).length σ H → D.nx σ H) → R (.str x) H1) → te σ H R) : tFor (iStr te) g tb D σ H :=
  h _ fun x Pv H1 h0 hs hd => ⟨x, rfl, by
    have hsz : (tl x).length = x.cps.size := Array.length_toList
    refine ⟨fun i m σ H => m = (tl x).length - i ∧ i ≤ (tl x).length ∧ Pv i σ H, ⟨(tl x).length, by simp, Nat.zero_le _, h0⟩, ?_⟩
    rintro i m σ H ⟨rfl, hi, p⟩
    by_cases hlt : i < (tl x).length
    · refine .inr ⟨by show i < x.cps.size; omega, Pv (i + 1), fun σ' H' p' => ⟨(tl x).length - (i + 1), by omega, rfl, hlt, p'⟩, fun v H' y => ?_⟩
      obtain ⟨e, c, hc, ev⟩ := y
      subst e
      subst ev
      exact hs i c σ _ (by show x.cps.toList[i]? = some c; rw [Array.getElem?_toList]; exact hc) p
    · have e : i = (tl x).length := by omega
      subst e
      exact .inl ⟨by show x.cps.size ≤ _; omega, hd σ H p⟩⟩
/-! ### isinstance of an own class -/
theorem isi_own {K : PySem.W.Frag} {H : Hp} {x : V} {C : Addr} {t : Value} {b : Bool} {Q : VK} (h1 : TyX K H x t) (h2 : PySem.W.kitOne K t (.ref C) = some b) (q : Q (.bl b) H) : rIsi K [x, .ref C] H Q :=
  ⟨x, .ref C, t, _, _, rfl, .own C, h1, h2, q⟩
theorem kit_self {K : PySem.W.Frag} {C : Addr} : PySem.W.kitOne K (.ref C) (.ref C) = some true := if_pos (by simp)
theorem kit_not {K : PySem.W.Frag} {C : Addr} {T : String} (h1 : PySem.W.isClsIn K C = true) (h2 : PySem.W.typeIn K (.ref C) = some (.type "type")) (h3 : PySem.W.subIn K (.type T) (.ref C) = some false) : PySem.W.kitOne K (.type T) (.ref C) = some false := by
  unfold PySem.W.kitOne
  rw [if_neg (by simp)]
  show (if ((PySem.W.clsIn K C).isSome && PySem.W.typeIn K (.ref C) == some (.type "type")) = true then PySem.W.subIn K (.type T) (.ref C) else none) = some false
  have h1' : (PySem.W.clsIn K C).isSome = true := h1
  rw [if_pos (by rw [h1', h2]; rfl)]
  exact h3
theorem notf_self {K : PySem.W.Frag} {C : Addr} : PySem.W.notFirst K C (.ref C) = true := by simp [PySem.W.notFirst]
theorem notf_ty {K : PySem.W.Frag} {C : Addr} {T : String} (h : PySem.W.subIn K (.type T) (.ref C) = some false) : PySem.W.notFirst K C (.type T) = true := by
  unfold PySem.W.notFirst; rw [h]; simp
theorem eqL_ints : ∀ (bs cs : List Int), eqL (bs.map V.int) (cs.map V.int) = decide (bs = cs)
  | [], [] => by simp [eqL, PyData.eqvAll]
  | [], c :: cs => by simp [eqL, PyData.eqvAll]
  | b :: bs, [] => by simp [eqL, PyData.eqvAll]
  | b :: bs, c :: cs => by
    have ih := eqL_ints bs cs
    unfold eqL at ih ⊢
    rw [List.map_cons, List.map_cons, List.map_cons, List.map_cons, PyData.eqvAll, ih]
    show ((PyData.eqv (.int b) (.int c)) && _) = _
    rw [PyData.eqv]
    by_cases h : b = c
    · subst h; simp
    · simp [h]
theorem ne_ints {K : PySem.W.Frag} {H : Hp} {a b : Addr} {ns ms : List Int} {Q : VK} (ha : SqL K H a (ns.map V.int)) (hb : SqL K H b (ms.map V.int)) (q : Q (.bl (!decide (ns = ms))) H) : rNeD K (.ref a) (.ref b) H Q :=
  ne_lists ha hb (ok_ints ns) (ok_ints ms) (by rw [eqL_ints]; exact q)
theorem made {H : Hp} {C x dx : Addr} (hx : H x = none) (hd : H dx = none) : Same H (upd (upd H dx (.own x)) x (.ins C dx [])) := fun b o e => by
  rw [upd_ne (ne_of_none e hx), upd_ne (ne_of_none e hd)]; exact e
end My

namespace My
open PySem PySem.Spec PyProof.Rows L2
/-! ### enumerate(text) -/
def Itse (x : Str) : It :=
  ⟨fun i _ => i < x.cps.size, fun i H v H' => ∃ T c, v = .ref T ∧ H T = none ∧ H' = upd H T (.tup [.int (i : Nat), .str ⟨#[c]⟩]) ∧ x.cps[i]? = some c, fun i _ => x.cps.size ≤ i⟩
theorem turn_enumS {P : Program} {w : World} {K : PySem.W.Frag} {elts : List Expr} {kk : Nat} {tpos : Pos} (x : Str) (t : Tok) (e it : Addr) :
    Turn P w K (.Tuple elts kk tpos) (Itse x) [e, it] e (fun i h => (∃ old, IsEnum h e it ((i : Nat) : Int) old) ∧ h.IsStrIter it (strIterType x) x t i ∧ e ≠ it ∧ i ≤ x.cps.size) where
  mem := by simp
  obj := fun i h st b hb => by
    obtain ⟨⟨old, he⟩, ⟨o, ho, hc, hd⟩, _⟩ := st
    have e' : b = e ∨ b = it := by simpa using hb
    rcases e' with z | z
    · rw [z]; exact ⟨_, he, fun v q => nomatch q⟩
    · rw [z]; exact ⟨o, ho, fun v q => by rw [hd] at q; cases q⟩
  keep := fun i h h' st k => let ⟨⟨old, he⟩, ⟨o, ho, r⟩, hne, hi⟩ := st; ⟨⟨old, k e (by simp) _ he⟩, ⟨o, k it (by simp) o ho, r⟩, hne, hi⟩
  item := by
    intro X hP hw hK hc i pins s σ H E I hf st hg
    subst hP hw hK
    obtain ⟨⟨old, he⟩, hit, hne, _⟩ := st
    have hel : e < s.heap.objs.size := Heap.lt_size he
    have hil : it < s.heap.objs.size := by obtain ⟨_, q, _⟩ := hit; exact Heap.lt_size q
    refine wpAny_pyNext_enum_itemD (Draws.text (A := X.A.in1) (I.ok.hd hc) it x t) he hit hg hne (by simpa using hne) fun v h' tk hP ho hit' hT hsz hk => ?_
    obtain ⟨c, u, hcx, rfl⟩ := hP
    refine ⟨_, rfl, wpAny_letOwnedTupleGo_enum (s := { s with heap := h', toks := tk + 1 }) ho fun h'' he' sb => ?_⟩
    have hT2 : h''.get? s.heap.objs.size = some { cls := .type "tuple", data := .seq #[.int i tk, .str ⟨#[c]⟩ u] } := (sb.2 _ (Nat.ne_of_gt hel)).trans hT
    have new : ObjOk X.prog X.w (upd H s.heap.objs.size (.tup [.int (i : Nat), .str ⟨#[c]⟩])) h'' s.heap.objs.size (.tup [.int (i : Nat), .str ⟨#[c]⟩]) :=
      ⟨by show 2 ≤ sizeLine; decide, [.int i tk, .str ⟨#[c]⟩ u], .cons ⟨_, rfl⟩ (.cons ⟨_, rfl⟩ .nil), ⟨_, hT2, rfl, _, rfl⟩⟩
    have I1 : Inv X pins σ (upd H s.heap.objs.size (.tup [.int (i : Nat), .str ⟨#[c]⟩])) { s with heap := h'', toks := tk + 1 } :=
      I.turnedNew (ch := [e, it]) (fun b ob hb q => (sb.2 b (fun z => hb (by simp [z]))).trans (hk b ob (fun z => hb (by simp [z])) (fun z => hb (by simp [z])) q)) hf (Nat.le_refl _) new
    refine ⟨.ref s.heap.objs.size, _, I1, rfl, ⟨_, c, rfl, I.hok.fresh (Nat.le_refl _), rfl, hcx⟩, ⟨⟨.str ⟨#[c]⟩ u, ?_⟩, ?_, hne, hg⟩, fun b hb => ?_⟩
    · have e1 : ((i + 1 : Nat) : Int) = (i : Int) + 1 := by omega
      rw [e1]; exact he'
    · obtain ⟨o, q, r⟩ := hit'
      exact ⟨o, (sb.2 it (Ne.symm hne)).trans q, r⟩
    · have hb' : b < s.heap.objs.size := by
        have e' : b = e ∨ b = it := by simpa using hb
        rcases e' with z | z
        · rw [z]; exact hel
        · rw [z]; exact hil
      rw [upd_ne (Nat.ne_of_lt hb')]
      exact (hf b hb).1
  done := by
    intro X hP hw hK hc i pins s σ H E I hf st hg
    subst hP hw hK
    obtain ⟨⟨old, he⟩, hit, hne, hi⟩ := st
    have hi' : i = x.cps.size := Nat.le_antisymm hi hg
    rw [hi'] at hit he
    obtain ⟨f0, f1, f2, f3, f4, f5⟩ := hf it (by simp)
    exact wpAny_pyNext_enum_endD (Draws.text (A := X.A.in1) (I.ok.hd hc) it x t) he hit fun h' eb => ⟨rfl, I.turned (t' := s.toks) (fun b o hb q => eb b o hb q) f0 f1 f3 f4 f5⟩
  self := fun A i s Q E st h => let ⟨⟨_, he⟩, _⟩ := st; wpAny_pyIter_enum he h
def iEnumS (ta : TA) : TI := fun σ H R => ta σ H fun vs H1 => ∃ x, vs = [.str x] ∧ R (Itse x) H1
theorem pi_enumS {X : Cx} {e : Expr} {ta : TA} {p pos tpos : Pos} {elts : List Expr} {kk : Nat} (hg : Gl X "enumerate") (hm : X.mg "enumerate" = none) (ha : PA X [e] ta) (hs : starEach [e] X.env = [(false, eval e X.env)] := by rfl) :
    PI X (.Tuple elts kk tpos) (.Call (.Name "enumerate" p) [e] [] pos) (iEnumS ta) := by
  refine ⟨fun pins s σ H R I h => ?_⟩
  refine Call_ (ld_blt I hg hm boot_enumerate (PyProof.Rows.callWith_type1 (thn (ha.run pos pins s σ H _ I h) fun us s1 ⟨vs, H1, I1, r1, q1⟩ => ?_) hs rfl))
  obtain ⟨x, ex, q⟩ := q1
  subst ex
  cases r1 with
  | cons r rr =>
    cases rr
    obtain ⟨t, rfl⟩ := r
    refine call_enumerate_str fun h' he hit hsz hk => wpAny_pyIter_enum he ?_
    have I2 : Inv X pins σ H1 { s1 with heap := h' } := I1.kept (t' := s1.toks) hk
    refine ⟨s1.heap.objs.size + 1, [s1.heap.objs.size + 1, s1.heap.objs.size], _, _, H1, rfl, I2, turn_enumS x t (s1.heap.objs.size + 1) s1.heap.objs.size, ⟨⟨.none, he⟩, hit, Nat.succ_ne_self _, Nat.zero_le _⟩, fun b hb => ?_, q⟩
    have e' : b = s1.heap.objs.size + 1 ∨ b = s1.heap.objs.size := by simpa using hb
    have hle : s1.heap.objs.size ≤ b := by
      rcases e' with z | z
      · rw [z]; exact Nat.le_add_right _ _
      · rw [z]; exact Nat.le_refl _
    exact I1.fpOk hle (I1.hok.fresh hle)
/-- for i, c in enumerate(a text) -/
theorem forES {ta : TA} {g : TG} {tb : TS} {D : Ends} {σ : L2.St} {H : Hp}
    (h : ∀ R : List V → Hp → Prop, (∀ (x : Str) (Pv : Nat → L2.St → Hp → Prop) (H1 : Hp), Pv 0 σ H1 →
      (∀ i c σ H T, (TL.tl x)[i]? = some c → Pv i σ H → H T = none → g (.ref T) σ (upd H T (.tup [.int (i : Nat), .str ⟨#[c]⟩])) fun σ2 H2 => tb { D with nx := Pv (i + 1), ct := Pv (i + 1), bk := D.nx } σ2 H2) → (∀ σ H, Pv (TL.tl x).length σ H → D.nx σ H) → R [.str x] H1) → ta σ H R) : tFor (iEnumS ta) g tb D σ H :=
  h _ fun x Pv H1 h0 hs hd => ⟨x, rfl, by
    have hsz : (TL.tl x).length = x.cps.size := Array.length_toList
    refine ⟨fun i m σ H => m = (TL.tl x).length - i ∧ i ≤ (TL.tl x).length ∧ Pv i σ H, ⟨(TL.tl x).length, by simp, Nat.zero_le _, h0⟩, ?_⟩
    rintro i m σ H ⟨rfl, hi, p⟩
    by_cases hlt : i < (TL.tl x).length
    · refine .inr ⟨by show i < x.cps.size; omega, Pv (i + 1), fun σ' H' p' => ⟨(TL.tl x).length - (i + 1), by omega, rfl, hlt, p'⟩, fun v H' y => ?_⟩
      obtain ⟨T, c, ev, hT, eH, hc⟩ := y
      subst ev
      subst eH
      exact hs i c σ H T (by show x.cps.toList[i]? = some c; rw [Array.getElem?_toList]; exact hc) p hT
    · have e : i = (TL.tl x).length := by omega
      subst e
      exact .inl ⟨by show x.cps.size ≤ _; omega, hd σ H p⟩⟩
end My

namespace My
open PySem
/-! ### running by lengths -/
/-- one step: the length and the number of lost letters -/
def rstp (C : Int) (strict : Bool) (st : Option (Int × Int)) (c : Nat) : Option (Int × Int) :=
  match st with
  | none => none
  | some (n, l) =>
    if c = 45 then (if n ≤ 0 then none else some (n - 1, l))
    else if n < C then some (n + 1, l) else if strict = true then none else some (n, l + 1)
def rrun (C : Int) (strict : Bool) (n : Int) (s : List Nat) : Option (Int × Int) := s.foldl (rstp C strict) (some (n, 0))
def rgood (C : Int) (strict : Bool) (n : Int) (p : Prf) : Bool := decide (p.fall ≤ C) && decide (-p.low ≤ n) && (!strict || decide (n + p.high ≤ C))
def rval (C : Int) (n : Int) (p : Prf) : Int × Int := (min (n + p.off) (C + p.off - p.high), max 0 (n + p.high - C))
theorem rrel {C n : Int} {strict : Bool} (h0 : 0 ≤ n) (hC : n ≤ C) : ∀ (s : List Nat) (p : Prf), p.Ok →
    s.foldl (rstp C strict) (if rgood C strict n p = true then some (rval C n p) else none) = if rgood C strict n (s.foldl Prf.pstp p) = true then some (rval C n (s.foldl Prf.pstp p)) else none
  | [], _, _ => rfl
  | c :: s, p, ok => by
    rw [List.foldl_cons, List.foldl_cons, ← rrel h0 hC s (p.pstp c) (Prf.ok_pstp ok c)]
    congr 1
    have e1 : (p.pstp c).off = p.off + (if c = 45 then -1 else 1) := by simp only [Prf.pstp, Prf.off]; split <;> omega
    have e2 : (p.pstp c).low = min p.low (p.off + (if c = 45 then -1 else 1)) := rfl
    have e3 : (p.pstp c).high = max p.high (p.off + (if c = 45 then -1 else 1)) := rfl
    have e4 : (p.pstp c).fall = max p.fall (max p.high (p.off + (if c = 45 then -1 else 1)) - (p.off + (if c = 45 then -1 else 1))) := rfl
    obtain ⟨a1, a2, a3, a4, a5, a6, a7, a8, a9⟩ := ok
    unfold rgood rval
    rw [e1, e2, e3, e4]
    generalize p.off = o at *
    generalize p.low = lo at *
    generalize p.high = hi at *
    generalize p.fall = fa at *
    clear e1 e2 e3 e4
    by_cases hc : c = 45
    · simp only [hc, if_true]
      by_cases g : (decide (fa ≤ C) && decide (-lo ≤ n) && (!strict || decide (n + hi ≤ C))) = true
      · rw [if_pos g]
        simp only [Bool.and_eq_true, decide_eq_true_eq, Bool.or_eq_true] at g
        unfold rstp
        simp only [if_true]
        by_cases z : min (n + o) (C + o - hi) ≤ 0
        · rw [if_pos z, if_neg]
          simp only [Bool.and_eq_true, decide_eq_true_eq, Bool.or_eq_true]
          omega
        · rw [if_neg z, if_pos]
          · congr 1
            refine Prod.ext ?_ ?_
            · show min (n + o) (C + o - hi) - 1 = _
              omega
            · show max 0 (n + hi - C) = _
              omega
          · simp only [Bool.and_eq_true, decide_eq_true_eq, Bool.or_eq_true]
            refine ⟨⟨by omega, by omega⟩, ?_⟩
            rcases g.2 with q | q
            · exact .inl q
            · exact .inr (by omega)
      · rw [if_neg g, if_neg]
        · rfl
        · intro g2
          apply g
          simp only [Bool.and_eq_true, decide_eq_true_eq, Bool.or_eq_true] at g2 ⊢
          refine ⟨⟨by omega, by omega⟩, ?_⟩
          rcases g2.2 with q | q
          · exact .inl q
          · exact .inr (by omega)
    · simp only [hc, if_false]
      by_cases g : (decide (fa ≤ C) && decide (-lo ≤ n) && (!strict || decide (n + hi ≤ C))) = true
      · rw [if_pos g]
        simp only [Bool.and_eq_true, decide_eq_true_eq, Bool.or_eq_true] at g
        unfold rstp
        simp only [hc, if_false]
        by_cases z : min (n + o) (C + o - hi) < C
        · rw [if_pos z, if_pos]
          · congr 1
            refine Prod.ext ?_ ?_
            · show min (n + o) (C + o - hi) + 1 = _
              omega
            · show max 0 (n + hi - C) = _
              omega
          · simp only [Bool.and_eq_true, decide_eq_true_eq, Bool.or_eq_true]
            refine ⟨⟨by omega, by omega⟩, ?_⟩
            rcases g.2 with q | q
            · exact .inl q
            · exact .inr (by omega)
        · rw [if_neg z]
          cases strict with
          | true =>
            rw [if_pos rfl, if_neg]
            simp only [Bool.and_eq_true, decide_eq_true_eq, Bool.not_true, Bool.false_eq_true, false_or, Bool.or_eq_true]
            simp only [Bool.not_true, Bool.false_eq_true, false_or] at g
            omega
          | false =>
            rw [if_neg (by decide), if_pos]
            · congr 1
              refine Prod.ext ?_ ?_
              · show min (n + o) (C + o - hi) = _
                omega
              · show max 0 (n + hi - C) + 1 = _
                omega
            · simp only [Bool.and_eq_true, decide_eq_true_eq, Bool.or_eq_true]
              exact ⟨⟨by omega, by omega⟩, .inl rfl⟩
      · rw [if_neg g, if_neg]
        · rfl
        · intro g2
          apply g
          simp only [Bool.and_eq_true, decide_eq_true_eq, Bool.or_eq_true] at g2 ⊢
          refine ⟨⟨by omega, by omega⟩, ?_⟩
          rcases g2.2 with q | q
          · exact .inl q
          · exact .inr (by omega)
theorem rrun_is {C n : Int} {strict : Bool} (h0 : 0 ≤ n) (hC : n ≤ C) (s : List Nat) : rrun C strict n s = if rgood C strict n (prof s) = true then some (rval C n (prof s)) else none := by
  have := rrel (strict := strict) h0 hC s Prf.zero Prf.ok_zero
  have e : (if rgood C strict n Prf.zero = true then some (rval C n Prf.zero) else none) = some (n, 0) := by
    rw [if_pos]
    · unfold rval Prf.zero Prf.off
      congr 1
      refine Prod.ext ?_ ?_
      · show min (n + (0 - 0)) (C + (0 - 0) - 0) = n
        omega
      · show max 0 (n + 0 - C) = 0
        omega
    · unfold rgood Prf.zero
      simp only [Bool.and_eq_true, decide_eq_true_eq, Bool.or_eq_true]
      refine ⟨⟨by omega, by omega⟩, ?_⟩
      right; omega
  rw [e] at this
  exact this
theorem rrun_take (C : Int) (strict : Bool) (n : Int) (s : List Nat) (k c : Nat) (h : s[k]? = some c) : rrun C strict n (s.take (k + 1)) = rstp C strict (rrun C strict n (s.take k)) c := by
  have : s.take (k + 1) = s.take k ++ [c] := by rw [List.take_add_one, h]; rfl
  unfold rrun
  rw [this, List.foldl_append]
  rfl
theorem rrun_none {C : Int} {strict : Bool} {n : Int} {s : List Nat} {k : Nat} (h : rrun C strict n (s.take k) = none) : rrun C strict n s = none := by
  have e : s = s.take k ++ s.drop k := (List.take_append_drop k s).symm
  have go : ∀ l : List Nat, l.foldl (rstp C strict) none = none := by
    intro l
    induction l with
    | nil => rfl
    | cons c l ih => rw [List.foldl_cons]; exact ih
  unfold rrun at h ⊢
  rw [e, List.foldl_append, h, go]
end My

/-! ### own exceptions whose __init__ says super().__init__('..') and stores one argument in a field -/
namespace PySem
namespace SupX
open PySem.W PySem.Calls PyProof.Rows PySem.HandSPX Builtin Builtin.ObjectAttr
section
variable {prog : Program} {w : World} {A : Around} {E : Value → Shared → Prop} {R : Result → Shared → Prop} {hp : Heap} {g : Array GenState} {d : Drawn} {t : Nat} {os : OsState}
/-- the wrapper called: the args are laid anew -/
theorem call_mw {B i newId : String} {bmB : List Value} {nm q : Str} {C N u e t0 : Addr} {bs bm : List Value} {hdct : Bool} {sn : List Str} {sub : List Value} {ab : Bool} {col : Option Bool} {dd : Option Addr} {k0 k1 k2 k3 k5 : Option Value} {rest : List Value} {Q : Value → Shared → Prop}
    (FB : ExcBaseFacts B newId i bmB) (hC : hp.get? C = some (excClassObj nm q C N bs bm hdct sn sub ab col dd k0 k1 k2 k3 k5 newId)) (he : hp.get? e = some (excO C t0)) (hu : hp.get? u = some (kxs_mw i e)) (hz : rest.length ≤ sizeLine)
    (hq : ∀ h' t1, (∀ b o, b ≠ e → hp.get? b = some o → h'.get? b = some o) → h'.get? e = some (excO C t1) → Q .none ⟨h', g, d, t, os⟩) :
    wpAny (model prog w) A (call (.ref u) rest) Q E ⟨hp, g, d, t, os⟩ := by
  refine wpAny_call (codeAny_of_tree ?_)
  show wpAny _ A.in1 (callAny (.ref u) ⟨rest, []⟩) _ _ _
  simp only [callAny]
  refine wpAny_bind (wpAny_load hu ?_)
  simp only [kxs_mw, show (Value.type "method-wrapper" == Value.type "method" || Value.type "method-wrapper" == Value.type "builtin_function_or_method" || Value.type "method-wrapper" == Value.type "method-wrapper") = true by decide, if_true]
  refine KFB.if_so (by decide) ?_
  refine wpAny_bind (check_bound_init FB.toExcCallFacts hC he rfl ?_)
  refine wpAny_bind (wpAny_pure (wpAny_pure ?_))
  refine ⟨plainId_quiet FB.init.plain _, codeAny_builtin FB.initEntry ?_⟩
  exact exc_init_tree (cls := .ref C) (t0 := t0) (dv := none) (c2 := .none) (c3 := .none) (b4 := .bool false) he hz fun h' k e' _ => hq h' _ k e'
/-- self.name = v on an exception that has no dict yet, any built-in base -/
theorem osa_new {B : String} {bmB : List Value} {K : W.Frag} {name : Str} {tk : Tok} {v : Value} {x C : Addr} {fv : Array Value} {cd : ClassData} {l : List Value} (SF : StoreFacts B bmB "object.__setattr__" "object")
    (X : K.In hp) (hx : hp.get? x = some { cls := .ref C, data := .fields fv }) (hcd : W.clsIn K C = some cd) (hm : cd.mro = .ref C :: l) (ht : excTail bmB l = true) (hh : cd.hasDict = true) (ha : W.findIn K (.ref C) name = some none)
    (hq : ∀ h' tk' dx, (∀ b o, b ≠ x → hp.get? b = some o → h'.get? b = some o) → hp.objs.size ≤ dx → dx ≠ x → h'.get? x = some { cls := .ref C, dict := some dx, data := .fields fv } →
      h'.Ns1 dx (fun y => if y = name then some v else none) → R (.ok (.ret .none)) ⟨h', g, d, tk', os⟩) :
    codeAny (model prog w) A (.call (.builtin "object.__setattr__") ⟨[.ref x, .str name tk, v], []⟩) R ⟨hp, g, d, t, os⟩ := by
  have I : W.InstAt hp x { cls := .ref C, data := .fields fv } C none := ⟨hx, rfl, rfl, trivial⟩
  have SO := F.store_object
  have hob : cd.mro.contains (.type "object") = true := by
    rw [hm, List.contains_cons, excTail_contains "object" l ht, SF.hasOwner, Bool.or_true]
  have hxs : x ≠ hp.objs.size := Nat.ne_of_lt (Heap.lt_size hx)
  have sub : W.Looks (model prog w) hp (isInstance (.ref x) (.type "object")) true := I.type.andThen (W.looks_mroIn X (by unfold W.mroIn; rw [hcd, Option.bind_some, if_neg (by rw [hm]; exact Bool.false_ne_true), hob]))
  refine codeAny_call_builtin SO.slot.plain SO.entry (@W.check_slot (model prog w) _ _ ⟨hp, g, d, t, os⟩ "object.__setattr__" "object" "__setattr__" (.ref x) [.str name tk, v] [] _ SO.kind SO.split sub (SO.args (.ref x) (.str name tk) v) ?_)
  have hmr : W.Looks (model prog w) hp (mroOf (.ref C)) cd.mro := (W.looks_clsIn X hcd).andThen .now
  have L3 : W.Looks (model prog w) hp (storeTaker? none) none := .now
  have hcls : W.Looks (model prog w) hp (classData C) cd := W.looks_clsIn X hcd
  have hpass : refuseLoop (.ref x) "__setattr__" cd.mro = pure () := by
    rw [hm, refuseLoop_ref]
    exact excTail_pass _ (SF.passes _) l ht
  rw [W.osa_eq, refuse_eq]
  refine wpAny_bind (wpAny_bind (I.type.at (wpAny_bind (hmr.at ?_))))
  rw [hpass]
  refine wpAny_pure (wpAny_bind (I.type.at (wpAny_bind ((W.looks_findIn X ha).at (wpAny_bind (L3.at ?_))))))
  show wpAny _ _ (storeInOwnDict (.ref x) (.ref C) (.str name tk) name v false) _ _ _
  obtain ⟨nm, bs, mro, ns, qn, hd, sn, sb, ab, col, del⟩ := cd
  dsimp only at hh
  subst hh
  unfold storeInOwnDict ownDictForStores
  repeat (first | with_reducible refine store_in_new ?_ ?_ | with_reducible refine wpAny_loadPart_at hx ?_ | with_reducible refine hcls.at ?_ | wp_step)
  · exact ⟨_, #[], _, (Heap.get?_update_ne _ _ _ _ hxs.symm).trans (Heap.get?_push_at rfl rfl), rfl, fun e he => absurd he (by simp), fun _ => rfl⟩
  · intro h' tk' hn' hs
    have hx₁ : (hp.push { cls := .type "dict", data := .dict #[] }).get? x = some { cls := .ref C, data := .fields fv } := Heap.get?_push_of_some _ hx
    refine hq h' tk' hp.objs.size (fun b o hb ho => ?_) (Nat.le_refl _) hxs.symm ?_ hn'
    · exact (hs.2 b (Nat.ne_of_lt (Heap.lt_size ho))).trans ((Heap.get?_update_ne _ _ _ _ hb).trans (Heap.get?_push_of_some _ ho))
    · exact (hs.2 x hxs).trans (Heap.get?_update_self _ hx₁ rfl)
end
/-- the body's shape: super().__init__(msg); self.f = p -/
def initBody (msg f p : Str) (c : Nat) (p0 p1 p2 p3 p4 p5 q1 q2 q3 q4 : Pos) : List Stmt :=
  [.Expr (.Call (.Attribute (.Call (.Name "super" p0) [] [] p1) "__init__" p2) [.Constant (.str msg) c p3] [] p4) p5, .Assign [.Attribute (.Name "self" q1) f q2] (.Name p q3) q4]
/-- what the written part says of the class at C and of its __init__ at fI -/
structure ExF (prog : Program) (K : Frag) (mg : Str → Option Value) (x f p qual : Str) (st : Stmt) (B newId i : String) (bmB : List Value) (C fI : Addr) : Prop where
  g : mg x = some (.ref C)
  q : excInitIn K C bmB newId = true
  ov : excOver K C bmB = true
  sa : findIn K (.ref C) "__setattr__" = some (some (.builtin "object.__setattr__"))
  ga : findIn K (.ref C) "__getattribute__" = some (some (.builtin "BaseException.__getattribute__"))
  gg : findIn K (.ref C) "__getattr__" = some none
  no : findIn K (.ref C) f = some none
  iC : findIn K (.ref C) "__init__" = some (some (.ref fI))
  tC : typeIn K (.ref fI) = some (.type "function")
  kC : keepIn K (.ref C) = true
  exC : subIn K (.ref C) (.type "BaseException") = some true
  suB : subIn K (.ref C) (.type B) = some true
  tyC : typeIn K (.ref C) = some (.type "type")
  hdC : hasDictIn K C = true
  te : exmOne K (.ref C) (.ref C) = some true
  mC : mroIn K C (.ref C) = some true
  su : ks_superIn K C C "__init__" = some (some (.builtin i))
  zs : nsIn K mainGlobals "super" = some none
  zt : nsIn K cStatics "thirdparty.any" = some none
  fn : ∃ (oc : Value) (od : Option Addr) (kV doc pm : Value) (an : Option Addr) (cda : Addr) (ct : Value) (osl : Array (Option Value)) (cc : Addr) (cl : Value) (cld : Option Addr) (csl : Array (Option Value)) (ccl : Value) (cdd : Option Addr) (vs : Array Value) (ccs : Array (Option Value)) (file : Str) (tf : Tok),
    K.lookup fI = some ⟨oc, od, .func (ksFn "__init__" qual (L2.defArgs st) (L2.defBody st) (L2.defScope st) .none kV doc pm an (.ref cda) ct cc), osl⟩ ∧ codeIn K (.ref cda) qual = true ∧ K.lookup cc = some ⟨cl, cld, .cell (some (.ref C)), csl⟩ ∧
    K.lookup cda = some ⟨ccl, cdd, .fields vs, ccs⟩ ∧ vs[2]? = some (.str file tf) ∧ ((prog.main.file : Str) == file) = true
/-- what __init__ leaves of a fresh exception at x -/
structure InitEnd (f : Str) (h h' : Heap) (x C dx t1 : Addr) (v : Value) : Prop where
  keep : ∀ b o, b ≠ x → h.get? b = some o → h'.get? b = some o
  obj : h'.get? x = some { cls := .ref C, dict := some dx, data := .fields #[.ref t1, .none, .none, .none, .bool false, .none] }
  dbig : h.objs.size ≤ dx
  dne : dx ≠ x
  ns : h'.Ns1 dx (fun y => if y = f then some v else none)
section
variable {prog : Program} {w : World} {A : Around} {E : Value → Shared → Prop} {R : Result → Shared → Prop} {s : Shared} {K : Frag} {mg : Str → Option Value} {x f p qual : Str} {st : Stmt} {B newId i : String} {bmB : List Value} {C fI : Addr}
theorem super_node {body : List Stmt} {q : Str} {scope : Scope} {p0 p1 : Pos} {attr : Str} {whole : Sem Value} {fd : FuncData} {ar : Arg} {vs : Array Value} {file : Str} {tf : Tok} {oc ccl cl : Value} {od cdd cld : Option Addr} {osl ccs csl : Array (Option Value)} {cdD : ClassData} {Q : Value → Shared → Prop}
    {h₀ : Heap} {L fI cda cc D xa : Addr} {m mb : Str → Option Value} {ox : Obj} {odx : Option Obj}
    (F : Fr h₀ L s.heap m) (X₀ : K.In h₀) (hg : h₀.Ns mainGlobals mg) (hb : h₀.Ns builtinsNs mb) (hbs : mb "super" = bootBuiltins "super")
    (hf : K.lookup fI = some ⟨oc, od, .func fd, osl⟩) (hp : (fd.params.posonlyargs ++ fd.params.args).head? = some ar) (hv : m ar.arg = some (.ref xa)) (I : InstAt s.heap xa ox C odx)
    (hcode : K.lookup cda = some ⟨ccl, cdd, .fields vs, ccs⟩) (hvs : vs[2]? = some (.str file tf)) (hfile : ((prog.main.file : Str) == file) = true)
    (hcell : K.lookup cc = some ⟨cl, cld, .cell (some (.ref D)), csl⟩) (hD : clsIn K D = some cdD) (hsub : mroIn K C (.ref D) = some true) (hsuper : nsIn K mainGlobals "super" = some none)
    (hat : (attr == ("__class__" : Str)) = false) (hks : scope.names.lookup ("super" : Str) = some .globalImplicit) (hkc : scope.names.lookup ("__class__" : Str) = some .free) (hka : scope.names.lookup ar.arg = some .local) (hk : scope.kind = .function)
    (htop : (prog.main.scope.names.lookup ("super" : Str)).isSome = false)
    (h : ∀ so h', Fr h₀ L h' m → News h₀ L h' [(so, ks_superObj D xa C)] → (∀ b o, s.heap.get? b = some o → h'.get? b = some o) → Q (.ref so) { s with heap := h' }) :
    _root_.PySem.wpAt (model prog w) A (.func body (ksEnv q scope L fI (.ref cda) cc)) (attributeBase (.Call (.Name "super" p0) [] [] p1) attr (ksEnv q scope L fI (.ref cda) cc) whole) Q E s := by
  have X : K.In s.heap := X₀.keeps F.keep
  obtain ⟨hh, g, d, t, os⟩ := s
  obtain ⟨oD, hD1, hD2⟩ : ∃ oD, hh.get? D = some oD ∧ oD.data = .cls cdD := by
    unfold clsIn at hD
    split at hD
    · rename_i c d cd' sl ho
      cases hD
      exact ⟨_, X _ _ ho, rfl⟩
    · cases hD
  refine ks_wpAt_super_base (env := ksEnv q scope L fI (.ref cda) cc) hks hkc hat rfl (X _ _ hf) rfl hp rfl (X _ _ hcode) rfl hvs hfile htop ?_
  refine ks_loadName_global hk hks (loadGlobal_builtin (env := ksEnv q scope L fI (.ref cda) cc) (hg.keeps F.keep) (mg_none_of X₀ hg hsuper) (hb.keeps F.keep) (hbs.trans (by first | boot_by_name | rfl | kernel_rfl)) ⟨rfl, ?_⟩)
  refine wpAny_loadName_free hk hkc rfl ⟨_, X _ _ hcell, rfl⟩ ?_
  refine wpAny_loadName_local hk hka F.ns hv ?_
  refine ks_wpAny_isType_cls hD1 hD2 ⟨rfl, ?_⟩
  refine ks_wpAny_call_super hD1 hD2 I.at_ I.cls (fun c e => ?_) (looks_mroIn X hsub) (fun h' e k => ?_)
  · have := I.no
    unfold notCls at this
    rw [e] at this
    exact Bool.noConfusion this
  · obtain ⟨F', N', l'⟩ := ks_newsPush (s := ⟨hh, g, d, t, os⟩) (news := []) F News.nil rfl e k
    exact h _ _ F' N' k
end
/-- a made one -/
structure OwnMade (f : Str) (h h' : Heap) (e C d : Addr) (v : Value) : Prop where
  keep : ∀ b o, h.get? b = some o → h'.get? b = some o
  new : h.objs.size ≤ e
  obj : ∃ oe vs, h'.get? e = some oe ∧ oe.cls = .ref C ∧ oe.dict = some d ∧ oe.data = .fields vs ∧ vs[1]? = some .none
  dbig : h.objs.size ≤ d
  dne : d ≠ e
  ns : h'.Ns1 d (fun y => if y = f then some v else none)
open L2 in
theorem relO_one {f0 : Str} {v : V} {v' : Value} (r : RelV v v') (f : Str) : RelO (List.lookup f [(f0, v)]) (if f = f0 then some v' else none) := by
  by_cases hw : f = f0
  · subst hw
    rw [if_pos rfl]
    have q : List.lookup f [(f, v)] = some v := by simp [List.lookup]
    rw [q]
    exact r
  · rw [if_neg hw]
    have qw : (f == f0) = false := by simpa using hw
    have q2 : List.lookup f [(f0, v)] = none := by simp [List.lookup, qw]
    rw [q2]
    trivial
open L2 in
/-- X(e): the error's own dict, new, holds the field -/
def tMk1 (f : Str) (C : Addr) (ta : TA) : L2.St → Hp → XK → Prop := fun σ H Q => ta σ H fun vs H1 => ∃ v, vs = [v] ∧ ∀ d, H1 d = none → Q (.ref C) (some d) (upd H1 d (.xd [(f, v)]))
/-- self.name = v on an exception that has its dict, any built-in base -/
theorem osa_more {B : String} {bmB : List Value} {prog : Program} {w : World} {A : Around} {R : Result → Shared → Prop} {hp : Heap} {g : Array GenState} {d : Drawn} {t : Nat} {os : OsState} {K : W.Frag} {name : Str} {tk : Tok} {v : Value} {x C dx : Addr} {fv : Array Value} {cd : ClassData} {l : List Value} {m0 : Str → Option Value} {nl : List Str} (SF : StoreFacts B bmB "object.__setattr__" "object")
    (X : K.In hp) (hx : hp.get? x = some { cls := .ref C, dict := some dx, data := .fields fv }) (hns : hp.Ns1 dx m0) (hw : Within m0 nl) (hz : nl.length ≤ 1000) (hcd : W.clsIn K C = some cd) (hm : cd.mro = .ref C :: l) (ht : excTail bmB l = true) (hh : cd.hasDict = true) (ha : W.findIn K (.ref C) name = some none)
    (hq : ∀ h' tk', (∀ b o, b ≠ dx → hp.get? b = some o → h'.get? b = some o) → h'.Ns1 dx (fun y => if y = name then some v else m0 y) → R (.ok (.ret .none)) ⟨h', g, d, tk', os⟩) :
    codeAny (model prog w) A (.call (.builtin "object.__setattr__") ⟨[.ref x, .str name tk, v], []⟩) R ⟨hp, g, d, t, os⟩ := by
  obtain ⟨oD, esD, epD, hoD, hdD, _⟩ := hns.count hw
  have I : W.InstAt hp x { cls := .ref C, dict := some dx, data := .fields fv } C (some oD) := ⟨hx, rfl, rfl, hoD⟩
  have SO := F.store_object
  have hob : cd.mro.contains (.type "object") = true := by
    rw [hm, List.contains_cons, excTail_contains "object" l ht, SF.hasOwner, Bool.or_true]
  have sub : W.Looks (model prog w) hp (isInstance (.ref x) (.type "object")) true := I.type.andThen (W.looks_mroIn X (by unfold W.mroIn; rw [hcd, Option.bind_some, if_neg (by rw [hm]; exact Bool.false_ne_true), hob]))
  refine codeAny_call_builtin SO.slot.plain SO.entry (@W.check_slot (model prog w) _ _ ⟨hp, g, d, t, os⟩ "object.__setattr__" "object" "__setattr__" (.ref x) [.str name tk, v] [] _ SO.kind SO.split sub (SO.args (.ref x) (.str name tk) v) ?_)
  have hmr : W.Looks (model prog w) hp (mroOf (.ref C)) cd.mro := (W.looks_clsIn X hcd).andThen .now
  have L3 : W.Looks (model prog w) hp (storeTaker? none) none := .now
  have hcls : W.Looks (model prog w) hp (classData C) cd := W.looks_clsIn X hcd
  have hpass : refuseLoop (.ref x) "__setattr__" cd.mro = pure () := by
    rw [hm, refuseLoop_ref]
    exact excTail_pass _ (SF.passes _) l ht
  rw [W.osa_eq, refuse_eq]
  refine wpAny_bind (wpAny_bind (I.type.at (wpAny_bind (hmr.at ?_))))
  rw [hpass]
  refine wpAny_pure (wpAny_bind (I.type.at (wpAny_bind ((W.looks_findIn X ha).at (wpAny_bind (L3.at ?_))))))
  show wpAny _ _ (storeInOwnDict (.ref x) (.ref C) (.str name tk) name v false) _ _ _
  obtain ⟨nm, bs, mro, ns, qn, hd, sn, sb, ab, col, del⟩ := cd
  dsimp only at hh
  subst hh
  unfold storeInOwnDict ownDictForStores
  repeat (first | with_reducible refine OEX.store_in_old hns hw hz ?_ | with_reducible refine wpAny_loadPart_at hx ?_ | with_reducible refine hcls.at ?_ | wp_step)
  intro h' tk' hn' hs
  exact hq h' tk' (fun b o hb ho => (hs.2 b hb).trans ho) hn'
structure InitEndT (f f2 : Str) (h h' : Heap) (x C dx t1 : Addr) (v v2 : Value) : Prop where
  keep : ∀ b o, b ≠ x → h.get? b = some o → h'.get? b = some o
  obj : h'.get? x = some { cls := .ref C, dict := some dx, data := .fields #[.ref t1, .none, .none, .none, .bool false, .none] }
  dbig : h.objs.size ≤ dx
  dne : dx ≠ x
  ns : h'.Ns1 dx (fun y => if y = f2 then some v2 else if y = f then some v else none)
structure OwnMadeT (f f2 : Str) (h h' : Heap) (e C d : Addr) (v v2 : Value) : Prop where
  keep : ∀ b o, h.get? b = some o → h'.get? b = some o
  new : h.objs.size ≤ e
  obj : ∃ oe vs, h'.get? e = some oe ∧ oe.cls = .ref C ∧ oe.dict = some d ∧ oe.data = .fields vs ∧ vs[1]? = some .none
  dbig : h.objs.size ≤ d
  dne : d ≠ e
  ns : h'.Ns1 d (fun y => if y = f2 then some v2 else if y = f then some v else none)
open L2 in
theorem relO_two {f0 f1 : Str} {v v2 : V} {v' v2' : Value} (hf : f0 ≠ f1) (r : RelV v v') (r2 : RelV v2 v2') (f : Str) : RelO (List.lookup f [(f0, v), (f1, v2)]) (if f = f1 then some v2' else if f = f0 then some v' else none) := by
  by_cases hw : f = f0
  · subst hw
    rw [if_neg hf, if_pos rfl]
    have q : List.lookup f [(f, v), (f1, v2)] = some v := by simp [List.lookup]
    rw [q]
    exact r
  · have qw : (f == f0) = false := by simpa using hw
    have q : List.lookup f [(f0, v), (f1, v2)] = List.lookup f [(f1, v2)] := by simp [List.lookup, qw]
    rw [q, if_neg hw]
    exact relO_one r2 f
open L2 in
theorem vals_two {v v2 : V} {us : List Value} (r : Vals [v, v2] us) : ∃ u u2, us = [u, u2] ∧ RelV v u ∧ RelV v2 u2 := by
  cases r with
  | cons r1 rn =>
    cases rn with
    | cons r2 rn =>
      cases rn
      exact ⟨_, _, rfl, r1, r2⟩
open L2 in
/-- X(e, f): the error's own dict, new, holds both -/
def tMk2 (f f2 : Str) (C : Addr) (ta : TA) : L2.St → Hp → XK → Prop := fun σ H Q => ta σ H fun vs H1 => ∃ v v2, vs = [v, v2] ∧ ∀ d, H1 d = none → Q (.ref C) (some d) (upd H1 d (.xd [(f, v), (f2, v2)]))
theorem ExF.second {prog : Program} {K : Frag} {mg : Str → Option Value} {x f p f2 p2 qual : Str} {st : Stmt} {B newId i : String} {bmB : List Value} {C fI : Addr} (T : ExF prog K mg x f p qual st B newId i bmB C fI) (h : findIn K (.ref C) f2 = some none) : ExF prog K mg x f2 p2 qual st B newId i bmB C fI := { T with no := h }
end SupX
end PySem
namespace L2
open PySem PySem.Spec PyProof.Rows
section
variable {X : Cx} {C fI : Addr} {x f p qual : Str} {st : Stmt} {B newId i : String} {bmB : List Value}
/-- e.f, e the exception that the suite holds (at a; its class cls, its dict d) -/
def tBy1 (f : Str) (C : Addr) (a : Addr) (cls : Value) (d : Option Addr) (te : TE) : TE := fun σ H Q => te σ H fun x H1 => x = .ref a ∧ cls = .ref C ∧ ∃ (dd : Addr) (fs : List (Str × V)) (v : V), d = some dd ∧ H1 dd = some (.xd fs) ∧ fs.lookup f = some v ∧ Q v H1
theorem pe_by1 {a : Addr} {oe : Obj} {cls : Value} {d : Option Addr} {pn : List (Addr × Obj)} {e : Expr} {te : TE} {pos : Pos} (T : PySem.SupX.ExF X.prog X.K X.mg x f p qual st B newId i bmB C fI) (hz : Zc cls d oe) (hf : ∃ vs, oe.data = .fields vs) (he : PE (X.suite a ((a, oe) :: pn)) e te)
    (hb : attributeBase e f X.env (eval e X.env) = eval e X.env := by rfl) :
    PE (X.suite a ((a, oe) :: pn)) (.Attribute e f pos) (tBy1 f C a cls d te) := by
  refine ⟨fun pins s σ H Q I h => ?_⟩
  refine attr_of hb (thn (he.run pins s σ H _ I h) fun u s1 hh => ?_)
  obtain ⟨x, H1, I1, rx, ex, ec, dd, fs, v, ed, ea, l, q⟩ := hh
  subst ex
  obtain rfl : u = Value.ref a := rx
  subst ec
  subst ed
  obtain ⟨ha, _⟩ := I1.pin (a, oe) (List.mem_append_left _ List.mem_cons_self)
  obtain ⟨vs, hd⟩ := hf
  have hx : ObjOk X.prog X.w H1 s1.heap dd (.xd fs) := I1.hok dd _ ea
  obtain ⟨mA, hns, hr⟩ := hx
  obtain ⟨od, ho, hl⟩ := lookIn_ns hns
  obtain ⟨u, hu, ru⟩ := RelO.some_of (v := v) (o := mA f) (by rw [← l]; exact hr f)
  have J : PySem.W.InstAt s1.heap a oe C (some od) := ⟨ha, hz.1, by unfold PySem.W.notCls; rw [hd] <;> rfl, by rw [hz.2]; exact ho⟩
  exact HandSPX.exc_get I1.kIn J T.ga T.gg T.exC (PySem.W.findObj_own T.hdC T.no rfl (by rw [hl, hu])) (handed_of ru) ⟨v, H1, I1.tok _, ru, q⟩
end
end L2

/-! ### except clauses in a row, some with a name, all that is wished for being caught -/
namespace L2
open PySem PySem.Spec PyProof.Rows
structure Cls1 where
  c : Value
  i : Option Nat
  ts : Addr → Value → Option Addr → TS
def Cls1.ends (q : Cls1) (D : Ends) : Ends := match q.i with
  | none => D
  | some i => { nx := fun σ H => D.nx (σ.set i none) H, rt := D.rt, bk := fun σ H => D.bk (σ.set i none) H, ct := fun σ H => D.ct (σ.set i none) H }
def Cls1.at (q : Cls1) (a : Addr) (σ : St) : St := match q.i with
  | none => σ
  | some i => σ.set i (some (.ref a))
def wMix (K : PySem.W.Frag) (D : Ends) : List Cls1 → WX
  | [] => fun _ _ _ _ => False
  | q :: r => fun cls d σ H => ∃ b, PySem.W.exmOne K cls q.c = some b ∧ (b = true → ∀ a, H a = none → q.ts a cls d (q.ends D) (q.at a σ) H) ∧ (b = false → wMix K D r cls d σ H)
def SuiteOk (X : Cx) (b : List Stmt) (ts : Addr → Value → Option Addr → TS) : Prop :=
  ∀ (a : Addr) (oe : Obj) (cls : Value) (d : Option Addr) (pn : List (Addr × Obj)), Zc cls d oe → (∃ vs, oe.data = .fields vs) → PSs (X.suite a ((a, oe) :: pn)) b (ts a cls d)
inductive ClsOk (X : Cx) : List ExceptHandler → List Cls1 → Prop
  | nil : ClsOk X [] []
  | plain {x : Str} {c : Value} {ts} {b₀ : Stmt} {b : List Stmt} {np p : Pos} {hs l} (hc : Names X x c) (ok : SuiteOk X (b₀ :: b) ts) (r : ClsOk X hs l) : ClsOk X (.ExceptHandler (some (.Name x np)) none (b₀ :: b) p :: hs) (⟨c, none, ts⟩ :: l)
  | named {x n : Str} {c : Value} {i : Nat} {ts} {b₀ : Stmt} {b : List Stmt} {np p : Pos} {hs l} (hi : X.N[i]? = some n) (hln : X.env.kindOf n = some .local) (hc : Names X x c) (ok : SuiteOk X (b₀ :: b) ts) (r : ClsOk X hs l) :
      ClsOk X (.ExceptHandler (some (.Name x np)) (some n) (b₀ :: b) p :: hs) (⟨c, some i, ts⟩ :: l)
theorem ps_try_mix {X : Cx} {body : List Stmt} {hds : List ExceptHandler} {l : List Cls1} {pos : Pos} {tb : WX → TS} (hs : X.stack = X.env :: X.outer) (hf : X.env.frame = some X.env.locals) (hN : X.N.Nodup) (hne : hds ≠ [])
    (hb : ∀ (W : WX) (pn : List (Addr × Obj)) (xe : Value → Shared → Prop), Takes (X.tr pn xe) W → PassesOwn (model X.prog X.w) X.A X.env xe → PSs (X.tr pn xe) body (tb W))
    (hh : ClsOk X hds l) : PS X (.Try body hds [] [] pos) (fun D σ H => tb (wMix X.K D l) D σ H) := by
  obtain ⟨h₀, hd', rfl⟩ : ∃ h t, hds = h :: t := by
    cases hds with
    | nil => exact absurd rfl hne
    | cons h t => exact ⟨h, t, rfl⟩
  refine ⟨fun pins s σ H D I h => wpAny_Try_except ?_⟩
  have ok := I.ok
  refine wpAny_mono ((hb (wMix X.K D l) (X.pn ++ pins) (fun e s₁ => wpAny (model X.prog X.w) X.A (noteFrame e X.env) (fun _ s₂ => wpAny (model X.prog X.w) X.A (setFlight e none) (fun _ s₃ =>
    wpAny (model X.prog X.w) X.A (handleBy e X.env (h₀ :: hd')) (SP X pins D) X.xe s₃) X.xe s₂) X.xe s₁) (fun u s' xx => ?_) PassesOwn.looking).run [] s σ H D (I.toTry _) h) (fun f s1 g => ?_) (fun _ _ he => he)
  case refine_2 =>
    cases f with
    | next => exact let ⟨σ', H', J, q⟩ := g; wpAny_execs_nil ⟨σ', H', J.ofTry ok, q⟩
    | brk => exact let ⟨σ', H', J, q⟩ := g; ⟨σ', H', J.ofTry ok, q⟩
    | cont => exact let ⟨σ', H', J, q⟩ := g; ⟨σ', H', J.ofTry ok, q⟩
    | ret u => exact let ⟨v, σ', H', J, r, q⟩ := g; ⟨v, σ', H', J.ofTry ok, r, q⟩
  obtain ⟨a, B, sI, pins', σ', H', cls, d, rfl, J', nb, up, sky, na, os, ag, w⟩ := xx
  have J : Inv X pins σ' H' sI := J'.ofTry ok
  refine Sky.land Zc.steady (by rw [ok.frames, hs]) hf (show Sky B (X.env :: X.outer) a (Zc cls d) X.env.locals s'.heap by rw [← hs]; exact sky) fun h3 fl up3 => ?_
  have J3 : Inv X pins σ' H' { s' with heap := h3 } := J.landed nb fl.1 (up.trans up3) os ag
  obtain ⟨oe, vs, he, hz, hd⟩ := fl.there
  have away : a ∉ frs (X.env :: X.outer) := fun hm => by
    obtain ⟨_, o', e', nf⟩ := fl.2.2.1.mem hm
    rw [he] at e'; cases e'
    exact nf _ hd
  have nL : a ≠ X.env.locals := fun z => away (List.mem_filterMap.mpr ⟨X.env, List.mem_cons_self, by rw [hf, z]⟩)
  have nF : a ∉ X.fs := fun hm => by
    obtain ⟨e, h1, q⟩ := List.mem_filterMap.mp hm
    exact away (List.mem_filterMap.mpr ⟨e, List.mem_cons_of_mem _ h1, q⟩)
  have S3 := J3.suite he hd na nL nF
  have LT : PySem.W.Looks (model X.prog X.w) h3 (typeOf (.ref a)) cls := fun A Q E s k q => wpAny_typeOf_ref (k _ _ he) (by rw [hz.1]; exact q)
  have look : ∀ {x : Str} {np : Pos} {c : Value}, Names X x c → ∀ {Q : Value → Shared → Prop} {E : Value → Shared → Prop}, Q c { s' with heap := h3 } → wpAny (model X.prog X.w) (X.A.mark (some (.ref a))) (eval (.Name x np) X.env) Q E { s' with heap := h3 } := by
    rintro x np c ⟨hg, hdb, hm | ⟨hm, hv, hnn⟩⟩ Q E q
    · exact ld_glob (X := X.suite a ((a, oe) :: (X.pn ++ pins))) S3 hg hm q hdb
    · exact ld_blt (X := X.suite a ((a, oe) :: (X.pn ++ pins))) S3 hg hm hv q hnn hdb
  have go : ∀ {hs l}, ClsOk X hs l → wMix X.K D l cls d σ' H' → wpAny (model X.prog X.w) X.A (handleBy (.ref a) X.env hs) (SP X pins D) X.xe { s' with heap := h3 } := by
    intro hs l hk
    induction hk with
    | nil => exact fun w => w.elim
    | plain hc su r ih =>
      rintro ⟨b, hb1, yes, no⟩
      refine wpAny_handleBy_cons (codeAny_handlers_test ?_) (by intro q; cases q)
      refine look hc ((PySem.W.exm_one (M := model X.prog X.w) J3.kIn LT hb1).here ?_)
      cases b with
      | false => exact ih (no rfl)
      | true =>
        refine codeAny_handlers_suite (HandSPX.lands_againZ fl fun h4 fl4 up4 => ?_)
        have J4 : Inv X pins σ' H' { s' with heap := h4 } := J.landed nb fl4.1 ((up.trans up3).trans up4) os ag
        obtain ⟨oe4, vs4, he4, hz4, hd4⟩ := fl4.there
        refine wpAny_mono ((su a oe4 cls d (X.pn ++ pins) hz4 ⟨_, hd4⟩).run [] _ _ H' _ (J4.suite he4 hd4 na nL nF) (yes rfl a na)) (fun f s6 g => ?_) (fun _ _ z => z.elim)
        cases f with
        | next => exact let ⟨σ6, H6, S6, q6⟩ := g; ⟨_, _, S6.unsuite ok, q6⟩
        | brk => exact let ⟨σ6, H6, S6, q6⟩ := g; ⟨_, _, S6.unsuite ok, q6⟩
        | cont => exact let ⟨σ6, H6, S6, q6⟩ := g; ⟨_, _, S6.unsuite ok, q6⟩
        | ret u => exact let ⟨v6, σ6, H6, S6, r6, q6⟩ := g; ⟨_, _, _, S6.unsuite ok, r6, q6⟩
    | named hi hln hc su r ih =>
      rintro ⟨b, hb1, yes, no⟩
      refine wpAny_handleBy_cons (codeAny_handlers_test ?_) (by intro q; cases q)
      refine look hc ((PySem.W.exm_one (M := model X.prog X.w) J3.kIn LT hb1).here ?_)
      cases b with
      | false => exact ih (no rfl)
      | true =>
        refine codeAny_handlers_suite_as (HandSPX.lands_againZ fl fun h4 fl4 up4 => ?_)
        have J4 : Inv X pins σ' H' { s' with heap := h4 } := J.landed nb fl4.1 ((up.trans up3).trans up4) os ag
        obtain ⟨oe4, vs4, he4, hz4, hd4⟩ := fl4.there
        refine store_ok (X := X.suite a ((a, oe4) :: (X.pn ++ pins))) (v := .ref a) (J4.suite he4 hd4 na nL nF) hN hi (.inl hln) rfl (fun s5 S5 => ?_) (.inr hln)
        refine wpAny_mono ((su a oe4 cls d (X.pn ++ pins) hz4 ⟨_, hd4⟩).run [] s5 _ H' _ S5 (yes rfl a na)) (fun f s6 g => ?_) (fun _ _ z => z.elim)
        cases f with
        | next => exact let ⟨σ6, H6, S6, q6⟩ := g; gone_ok (S6.unsuite ok) hN hi hln fun s7 J7 => ⟨_, _, J7, q6⟩
        | brk => exact let ⟨σ6, H6, S6, q6⟩ := g; gone_ok (S6.unsuite ok) hN hi hln fun s7 J7 => ⟨_, _, J7, q6⟩
        | cont => exact let ⟨σ6, H6, S6, q6⟩ := g; gone_ok (S6.unsuite ok) hN hi hln fun s7 J7 => ⟨_, _, J7, q6⟩
        | ret u => exact let ⟨v6, σ6, H6, S6, r6, q6⟩ := g; gone_ok (S6.unsuite ok) hN hi hln fun s7 J7 => ⟨_, _, _, J7, r6, q6⟩
  exact go hh w
end L2

namespace My
open PySem L2 TL
abbrev P : Program := PySem.Challenge.pw_fullqueue_k11_capacities_of_programs
def top (i : Nat) : Stmt := PySem.Challenge.pw_fullqueue_k11_capacities_of_programs.main.body.getD i (.Pass ⟨0, 0, 0, 0⟩)
abbrev s_LimitExceeded_init : Stmt := inClass (top 5) 0
abbrev s_is_int : Stmt := top 9
theorem sc_is_int : FnScope ["value"] ["value"] (defScope s_is_int) := ⟨rfl, rfl, rfl, by decide +kernel, rfl, by decide +kernel, by decide +kernel⟩
abbrev s_is_natural : Stmt := top 10
theorem sc_is_natural : FnScope ["value"] ["value"] (defScope s_is_natural) := ⟨rfl, rfl, rfl, by decide +kernel, rfl, by decide +kernel, by decide +kernel⟩
abbrev s_is_int_between : Stmt := top 11
theorem sc_is_int_between : FnScope ["value", "least", "most"] ["value", "least", "most"] (defScope s_is_int_between) := ⟨rfl, rfl, rfl, by decide +kernel, rfl, by decide +kernel, by decide +kernel⟩
abbrev s_read_integer : Stmt := top 12
theorem sc_read_integer : FnScope ["text", "digits", "number"] ["text"] (defScope s_read_integer) := ⟨rfl, rfl, rfl, by decide +kernel, rfl, by decide +kernel, by decide +kernel⟩
abbrev s_is_mode : Stmt := top 15
theorem sc_is_mode : FnScope ["value"] ["value"] (defScope s_is_mode) := ⟨rfl, rfl, rfl, by decide +kernel, rfl, by decide +kernel, by decide +kernel⟩
abbrev s_check_mode : Stmt := top 17
theorem sc_check_mode : FnScope ["value"] ["value"] (defScope s_check_mode) := ⟨rfl, rfl, rfl, by decide +kernel, rfl, by decide +kernel, by decide +kernel⟩
abbrev s_check_any_length : Stmt := top 18
theorem sc_check_any_length : FnScope ["value"] ["value"] (defScope s_check_any_length) := ⟨rfl, rfl, rfl, by decide +kernel, rfl, by decide +kernel, by decide +kernel⟩
abbrev s_is_count : Stmt := top 24
theorem sc_is_count : FnScope ["value"] ["value"] (defScope s_is_count) := ⟨rfl, rfl, rfl, by decide +kernel, rfl, by decide +kernel, by decide +kernel⟩
abbrev s_check_count : Stmt := top 25
theorem sc_check_count : FnScope ["value"] ["value"] (defScope s_check_count) := ⟨rfl, rfl, rfl, by decide +kernel, rfl, by decide +kernel, by decide +kernel⟩
abbrev s_repeat : Stmt := top 26
theorem sc_repeat : FnScope ["program", "count", "parts", "depth"] ["program", "count"] (defScope s_repeat) := ⟨rfl, rfl, rfl, by decide +kernel, rfl, by decide +kernel, by decide +kernel⟩
abbrev s_parts_of : Stmt := top 27
theorem sc_parts_of : FnScope ["program", "parts"] ["program"] (defScope s_parts_of) := ⟨rfl, rfl, rfl, by decide +kernel, rfl, by decide +kernel, by decide +kernel⟩
abbrev s_read_parts : Stmt := top 28
theorem sc_read_parts : FnScope ["text", "outer", "parts", "at", "end", "count", "repetition"] ["text"] (defScope s_read_parts) := ⟨rfl, rfl, rfl, by decide +kernel, rfl, by decide +kernel, by decide +kernel⟩
abbrev s_end_of_run : Stmt := top 29
theorem sc_end_of_run : FnScope ["text", "start", "signs", "end"] ["text", "start", "signs"] (defScope s_end_of_run) := ⟨rfl, rfl, rfl, by decide +kernel, rfl, by decide +kernel, by decide +kernel⟩
abbrev s_depth_of : Stmt := top 30
theorem sc_depth_of : FnScope ["parts", "depth", "part", "body", "_"] ["parts"] (defScope s_depth_of) := ⟨rfl, rfl, rfl, by decide +kernel, rfl, by decide +kernel, by decide +kernel⟩
abbrev s_Profile_init : Stmt := inClass (top 32) 0
theorem sc_Profile_init : FnScope ["self", "puts", "takes", "low", "high", "fall", "number"] ["self", "puts", "takes", "low", "high", "fall"] (defScope s_Profile_init) := ⟨rfl, rfl, rfl, by decide +kernel, rfl, by decide +kernel, by decide +kernel⟩
abbrev s_Profile_puts : Stmt := inClass (top 32) 1
theorem sc_Profile_puts : FnScope ["self"] ["self"] (defScope s_Profile_puts) := ⟨rfl, rfl, rfl, by decide +kernel, rfl, by decide +kernel, by decide +kernel⟩
abbrev s_Profile_takes : Stmt := inClass (top 32) 2
theorem sc_Profile_takes : FnScope ["self"] ["self"] (defScope s_Profile_takes) := ⟨rfl, rfl, rfl, by decide +kernel, rfl, by decide +kernel, by decide +kernel⟩
abbrev s_Profile_low : Stmt := inClass (top 32) 3
theorem sc_Profile_low : FnScope ["self"] ["self"] (defScope s_Profile_low) := ⟨rfl, rfl, rfl, by decide +kernel, rfl, by decide +kernel, by decide +kernel⟩
abbrev s_Profile_high : Stmt := inClass (top 32) 4
theorem sc_Profile_high : FnScope ["self"] ["self"] (defScope s_Profile_high) := ⟨rfl, rfl, rfl, by decide +kernel, rfl, by decide +kernel, by decide +kernel⟩
abbrev s_Profile_fall : Stmt := inClass (top 32) 5
theorem sc_Profile_fall : FnScope ["self"] ["self"] (defScope s_Profile_fall) := ⟨rfl, rfl, rfl, by decide +kernel, rfl, by decide +kernel, by decide +kernel⟩
abbrev s_Profile_offset : Stmt := inClass (top 32) 6
theorem sc_Profile_offset : FnScope ["self"] ["self"] (defScope s_Profile_offset) := ⟨rfl, rfl, rfl, by decide +kernel, rfl, by decide +kernel, by decide +kernel⟩
abbrev s_Profile_of : Stmt := inClass (top 32) 7
theorem sc_Profile_of : FnScope ["cls", "program"] ["cls", "program"] (defScope s_Profile_of) := ⟨rfl, rfl, rfl, by decide +kernel, rfl, by decide +kernel, by decide +kernel⟩
abbrev s_Profile_of_parts : Stmt := inClass (top 32) 8
theorem sc_Profile_of_parts : FnScope ["cls", "parts", "total", "part", "body", "count"] ["cls", "parts"] (defScope s_Profile_of_parts) := ⟨rfl, rfl, rfl, by decide +kernel, rfl, by decide +kernel, by decide +kernel⟩
abbrev s_Profile_of_sequence : Stmt := inClass (top 32) 9
theorem sc_Profile_of_sequence : FnScope ["cls", "sequence", "offset", "low", "high", "fall", "step", "takes"] ["cls", "sequence"] (defScope s_Profile_of_sequence) := ⟨rfl, rfl, rfl, by decide +kernel, rfl, by decide +kernel, by decide +kernel⟩
abbrev s_Profile_add : Stmt := inClass (top 32) 10
theorem sc_Profile_add : FnScope ["self", "other", "other_low", "other_high"] ["self", "other"] (defScope s_Profile_add) := ⟨rfl, rfl, rfl, by decide +kernel, rfl, by decide +kernel, by decide +kernel⟩
abbrev s_Profile_mul : Stmt := inClass (top 32) 11
theorem sc_Profile_mul : FnScope ["self", "other", "last_start"] ["self", "other"] (defScope s_Profile_mul) := ⟨rfl, rfl, rfl, by decide +kernel, rfl, by decide +kernel, by decide +kernel⟩
abbrev s_Profile_repeated_fall : Stmt := inClass (top 32) 12
theorem sc_Profile_repeated_fall : FnScope ["self", "last_start", "span"] ["self", "last_start"] (defScope s_Profile_repeated_fall) := ⟨rfl, rfl, rfl, by decide +kernel, rfl, by decide +kernel, by decide +kernel⟩
abbrev s_Profile_eq : Stmt := inClass (top 32) 13
theorem sc_Profile_eq : FnScope ["self", "other"] ["self", "other"] (defScope s_Profile_eq) := ⟨rfl, rfl, rfl, by decide +kernel, rfl, by decide +kernel, by decide +kernel⟩
abbrev s_least_capacity : Stmt := top 34
theorem sc_least_capacity : FnScope ["program", "mode", "length", "profile"] ["program", "mode", "length"] (defScope s_least_capacity) := ⟨rfl, rfl, rfl, by decide +kernel, rfl, by decide +kernel, by decide +kernel⟩
abbrev s_lossless_capacity : Stmt := top 35
theorem sc_lossless_capacity : FnScope ["program", "length", "profile"] ["program", "length"] (defScope s_lossless_capacity) := ⟨rfl, rfl, rfl, by decide +kernel, rfl, by decide +kernel, by decide +kernel⟩
abbrev s_roomy_capacity : Stmt := top 36
theorem sc_roomy_capacity : FnScope ["profile", "length"] ["profile", "length"] (defScope s_roomy_capacity) := ⟨rfl, rfl, rfl, by decide +kernel, rfl, by decide +kernel, by decide +kernel⟩
abbrev s__law_draws : Stmt := top 38
theorem sc__law_draws : FnScope ["_law_script", "_law_k", "_law_cell", "_law_seed"] ["_law_script", "_law_k"] (defScope s__law_draws) := ⟨rfl, rfl, rfl, by decide +kernel, rfl, by decide +kernel, by decide +kernel⟩
abbrev s__law_draw : Stmt := top 39
theorem sc__law_draw : FnScope ["_law_draws_here", "_law_upto", "_law_digit"] ["_law_draws_here", "_law_upto"] (defScope s__law_draw) := ⟨rfl, rfl, rfl, by decide +kernel, rfl, by decide +kernel, by decide +kernel⟩
abbrev s__law_letter : Stmt := top 40
theorem sc__law_letter : FnScope ["_law_draws_here"] ["_law_draws_here"] (defScope s__law_letter) := ⟨rfl, rfl, rfl, by decide +kernel, rfl, by decide +kernel, by decide +kernel⟩
abbrev s__law_sequence : Stmt := top 41
theorem sc__law_sequence : FnScope ["_law_draws_here", "_law_most", "_law_some", "_law_way", "_law_turn"] ["_law_draws_here", "_law_most"] (defScope s__law_sequence) := ⟨rfl, rfl, rfl, by decide +kernel, rfl, by decide +kernel, by decide +kernel⟩
abbrev s__law_program : Stmt := top 42
theorem sc__law_program : FnScope ["_law_draws_here", "_law_depth", "_law_text", "_law_full", "_law_turn", "_law_stretch", "_law_inner", "_law_spelled", "_law_count"] ["_law_draws_here", "_law_depth"] (defScope s__law_program) := ⟨rfl, rfl, rfl, by decide +kernel, rfl, by decide +kernel, by decide +kernel⟩
abbrev s__law_run : Stmt := top 43
theorem sc__law_run : FnScope ["_law_queue", "_law_sequence_here", "_law_capacity", "_law_mode", "_law_taken", "_law_lost", "_law_at", "_law_step"] ["_law_queue", "_law_sequence_here", "_law_capacity", "_law_mode"] (defScope s__law_run) := ⟨rfl, rfl, rfl, by decide +kernel, rfl, by decide +kernel, by decide +kernel⟩
abbrev s__law_trials : Stmt := top 44
theorem sc__law_trials : FnScope ["_law_full", "_law_mode", "_law_length", "_law_least", "_law_lossless", "_law_capacity", "_law_found"] ["_law_full", "_law_mode", "_law_length"] (defScope s__law_trials) := ⟨rfl, rfl, rfl, by decide +kernel, rfl, by decide +kernel, by decide +kernel⟩
abbrev s__law_error : Stmt := top 45
theorem sc__law_error : FnScope ["_law_function", "_law_program_here", "_law_mode", "_law_length"] ["_law_function", "_law_program_here", "_law_mode", "_law_length"] (defScope s__law_error) := ⟨rfl, rfl, rfl, by decide +kernel, rfl, by decide +kernel, by decide +kernel⟩
abbrev s_law : Stmt := top 46
theorem sc_law : FnScope ["_law_script", "_law_found", "_law_k", "_law_draws_here", "_law_program_here", "_law_full", "_law_length", "_law_mode", "_law_count", "_law_hill", "_law_far"] ["_law_script"] (defScope s_law) := ⟨rfl, rfl, rfl, by decide +kernel, rfl, by decide +kernel, by decide +kernel⟩
end My
namespace PySem
namespace SupX
open PySem.W PySem.Calls PyProof.Rows PySem.HandSPX Builtin Builtin.ObjectAttr
section
variable {prog : Program} {w : World} {A : Around} {E : Value → Shared → Prop} {R : Result → Shared → Prop} {s : Shared} {K : Frag} {mg : Str → Option Value} {x qual : Str} {B newId i : String} {bmB : List Value} {C fI : Addr}
theorem own_init_LimitExceeded (FB : ExcBaseFacts B newId i bmB) (KF : KxsFacts B i) (SF : StoreFacts B bmB "object.__setattr__" "object") (T : ExF prog K mg x "size" "size" qual My.s_LimitExceeded_init B newId i bmB C fI) (htop : (prog.main.scope.names.lookup ("super" : Str)).isSome = false)
    {xa t0 : Addr} {v : Value} {mb : Str → Option Value} (X : K.In s.heap) (hlim : s.heap.NoLimit) (hg : s.heap.Ns mainGlobals mg) (hb : s.heap.Ns builtinsNs mb) (hbs : mb "super" = bootBuiltins "super")
    (hx : s.heap.get? xa = some (excO C t0)) (hnx : K.lookup xa = none) (hroom : A.depth < recursionLimit)
    (hq : ∀ h' tk dx t1, InitEnd "size" s.heap h' xa C dx t1 v → R (.ok (.ret .none)) { s with heap := h', toks := tk }) :
    codeAny (model prog w) A (.call (.ref fI) ⟨[.ref xa, v], []⟩) R s := by
  obtain ⟨oc, od, kV, doc, pm, an, cda, ct, osl, cc, cl, cld, csl, ccl, cdd, vs, ccs, file, tf, ho, hcd, hcell, hcode, hvs, hfile⟩ := T.fn
  obtain ⟨nm, N', qn, bs, bm, hdct, sn, sub, ab, col, dd, k0, k1, k2, k3, k5, hC, hT⟩ := excInit_of X T.q
  obtain ⟨cd, hcls, l, hm, htl⟩ : ∃ cd, clsIn K C = some cd ∧ ∃ l, cd.mro = .ref C :: l ∧ excTail bmB l = true := by
    have := T.ov
    unfold excOver at this
    rw [Option.any_eq_true] at this
    obtain ⟨cd, h1, h2⟩ := this
    refine ⟨cd, h1, ?_⟩
    split at h2
    · rename_i C' bm' e
      rw [Bool.and_eq_true, beq_iff_eq] at h2
      rw [e, h2.1]
      exact ⟨bm', rfl, h2.2⟩
    · cases h2
  have hhd : cd.hasDict = true := by
    have h := T.hdC
    unfold hasDictIn at h
    rw [hcls] at h
    exact h
  refine ks_codeAny_call_defAt (binds := [("self", .ref xa), ("size", v)]) hroom (X _ _ ho) rfl hlim (codeRec_of X hcd) rfl (BindsTo.of_eq (by first | rfl | with_unfolding_all rfl)) (show ∀ y ∈ (L2.defScope My.s_LimitExceeded_init).names, y.2 ≠ .cell by decide +kernel) (by first | rfl | decide | with_unfolding_all rfl | (intro y hy; simp only [List.mem_cons, List.not_mem_nil, or_false] at hy; rcases hy with rfl | rfl <;> rfl)) (fun h₀ hns hk => ?_) rfl rfl rfl
  have F : Fr s.heap s.heap.objs.size h₀ (fun y => (([("self", .ref xa), ("size", v)] : List (Str × Value)).reverse).lookup y) := ⟨hns, hk, Nat.le_refl _⟩
  have hx0 := hk _ _ hx
  refine ks_wpAt_execs_cons ?_
  refine ks_wpAt_Expr_any ?_
  refine ks_wpAt_MethodCall ?_
  refine super_node (ox := excO C t0) (odx := none) F X hg hb hbs ho rfl rfl ⟨hx0, rfl, rfl, trivial⟩ hcode hvs hfile hcell hcls T.mC T.zs (by decide) rfl rfl rfl rfl htop fun so h1 F1 N1 k1 => ?_
  have hx1 := k1 _ _ hx0
  have I1 : InstAt h1 xa (excO C t0) C none := ⟨hx1, rfl, rfl, trivial⟩
  refine kxs_method KF F1 X N1 List.mem_cons_self I1 T.zt T.su T.suB (by decide) fun u h2 F2 N2 l2 => ?_
  refine kxs_callWith1 N2 List.mem_cons_self ?_
  refine Calls.spliced_cons ?_
  rw [if_neg Bool.false_ne_true]
  with_reducible refine Calls.Constant_str ?_
  show wpAny _ _ (spliced []) _ _ _
  refine Calls.spliced_nil ⟨(N2 _ List.mem_cons_self).1, ?_⟩
  have hx2 := F2.keep _ _ hx
  have X2 : K.In h2 := X.keeps F2.keep
  have hu := (N2 _ List.mem_cons_self).1
  have hC2 := F2.keep _ _ hC
  obtain ⟨oL, es, ep, hL, rL⟩ := F2.ns
  have hLx : s.heap.objs.size ≠ xa := Nat.ne_of_gt (Heap.lt_size hx)
  refine call_mw FB hC2 hx2 hu (by show 1 ≤ sizeLine; decide) fun h3 t1 k3 hx3 => ?_
  have k23 : ∀ b o, b ≠ xa → s.heap.get? b = some o → h3.get? b = some o := fun b o hb e => k3 b o hb (F2.keep b o e)
  have hn3 : h3.Ns s.heap.objs.size (fun y => (([("self", .ref xa), ("size", v)] : List (Str × Value)).reverse).lookup y) := ⟨oL, es, ep, k3 _ _ hLx hL, rL⟩
  have X3 : K.In h3 := fun b o e => k23 b o (fun z => by rw [z, hnx] at e; cases e) (X b o e)
  show _root_.PySem.wpAt _ _ _ (execs _ _) _ _ _
  refine ks_wpAt_execs_cons (wpAt_of_wpAny (plainObj_wpAny_Assign_Attribute ?_))
  refine wpAny_Name (wpAny_loadName_local (by first | rfl | with_unfolding_all rfl) (by first | rfl | with_unfolding_all rfl | kernel_rfl) hn3 (show _ = some v from rfl) ?_) (by decide)
  refine wpAny_Name (wpAny_loadName_local (by first | rfl | with_unfolding_all rfl) (by first | rfl | with_unfolding_all rfl | kernel_rfl) hn3 (show _ = some (.ref xa) from rfl) ?_) (by decide)
  refine set_plain X3 (ox := excO C t1) (od := none) ⟨hx3, rfl, rfl, trivial⟩ T.sa ?_
  refine osa_new SF X3 hx3 hcls hm htl hhd T.no fun h4 tk4 dx k4 dn dne hx4 hn4 => ?_
  show _root_.PySem.wpAt _ _ _ (execs _ _) _ _ _
  refine wpAt_of_wpAny (wpAny_execs_nil ?_)
  have big : s.heap.objs.size ≤ dx := by
    exact Nat.le_trans (Nat.le_of_lt (Heap.lt_size (show h3.get? s.heap.objs.size = some oL from k3 _ _ hLx hL))) (show h3.objs.size ≤ dx from dn)
  exact hq h4 _ dx t1 ⟨fun b o hb e => k4 b o hb (k23 b o hb e), hx4, big, dne, hn4⟩
theorem own_made_LimitExceeded (FB : ExcBaseFacts B newId i bmB) (KF : KxsFacts B i) (SF : StoreFacts B bmB "object.__setattr__" "object") (T : ExF prog K mg x "size" "size" qual My.s_LimitExceeded_init B newId i bmB C fI) (htop : (prog.main.scope.names.lookup ("super" : Str)).isSome = false)
    {v : Value} {mb : Str → Option Value} (X : K.In s.heap) (hlim : s.heap.NoLimit) (hg : s.heap.Ns mainGlobals mg) (hb : s.heap.Ns builtinsNs mb) (hbs : mb "super" = bootBuiltins "super") (hroom : A.depth + 1 < recursionLimit)
    (hq : ∀ h' tk e d, OwnMade "size" s.heap h' e C d v → R (.ok (.ret (.ref e))) { s with heap := h', toks := tk }) :
    codeAny (model prog w) A (.call (.ref C) ⟨[v], []⟩) R s := by
  obtain ⟨nm, N', qn, bs, bm, hdct, sn, sub, ab, col, dd, k0, k1, k2, k3, k5, hC, hT⟩ := excInit_of X T.q
  obtain ⟨hp, g, d, tk, os⟩ := s
  have k : ∀ b o, hp.get? b = some o → ((hp.push (kdv_tup [v])).push (excO C hp.objs.size)).get? b = some o := fun b o e => Heap.get?_push_of_some _ (Heap.get?_push_of_some _ e)
  have hget : ((hp.push (kdv_tup [v])).push (excO C hp.objs.size)).get? (hp.objs.size + 1) = some (excO C hp.objs.size) := by heap_get
  have hnx : K.lookup (hp.objs.size + 1) = none := by
    cases e : K.lookup (hp.objs.size + 1) with
    | none => rfl
    | some o =>
      have z : hp.get? (hp.objs.size + 1) = some o := X _ _ e
      exact absurd (Nat.lt_of_succ_lt (Heap.lt_size z)) (Nat.lt_irrefl _)
  refine call_own FB hT hC (looks_findIn X T.iC) (fun self => bind_fn X self T.tC) (by show 1 ≤ sizeLine; decide) ?_
  refine own_init_LimitExceeded (s := ⟨(hp.push (kdv_tup [v])).push (excO C hp.objs.size), g, d, tk, os⟩) FB KF SF T htop (X.keeps k) (hlim.keeps k) (hg.keeps k) (hb.keeps k) hbs hget hnx ?_ fun h' tk' dx t1 ⟨k', hx, dn, dne, hns⟩ => ?_
  · show A.depth + 1 < recursionLimit
    exact hroom
  · have old : ∀ b o, hp.get? b = some o → h'.get? b = some o := fun b o e => k' b o (Nat.ne_of_lt (Nat.lt_succ_of_lt (Heap.lt_size e))) (k b o e)
    have z : hp.objs.size + 1 + 1 ≤ dx := by
      first
        | (simpa only [Heap.size_push] using dn)
        | exact dn
        | (have q := dn; rw [Heap.size_push, Heap.size_push] at q; exact q)
    exact ⟨rfl, hq h' tk' (hp.objs.size + 1) dx ⟨old, Nat.le_succ _, ⟨_, _, hx, rfl, rfl, rfl, rfl⟩, Nat.le_trans (Nat.le_trans (Nat.le_succ _) (Nat.le_succ _)) z, dne, hns⟩⟩
end
end SupX
end PySem
namespace L2
open PySem PySem.Spec PyProof.Rows PySem.W
section
variable {X : Cx} {C fI : Addr} {x qual : Str} {B newId i : String} {bmB : List Value}
/-- X(e) -/
theorem pmk_LimitExceeded {a : Expr} {ta : TA} {p pos : Pos} {k : Nat} (FB : ExcBaseFacts B newId i bmB) (KF : KxsFacts B i) (SF : StoreFacts B bmB "object.__setattr__" "object") (T : PySem.SupX.ExF X.prog X.K X.mg x "size" "size" qual My.s_LimitExceeded_init B newId i bmB C fI)
    (htop : (X.prog.main.scope.names.lookup ("super" : Str)).isSome = false) (hr : Room k X.A) (ha : PA X [a] ta) (hg : Gl X x) (hdb : (x == ("__debug__" : Str)) = false := by decide)
    (he : starEach (a :: []) X.env = (false, eval a X.env) :: starEach [] X.env := by rfl) (hpl : (backTo pos (starEach [] X.env)).any (·.1) = false := by rfl) :
    PMk X (.Call (.Name x p) [a] [] pos) (PySem.SupX.tMk1 "size" C ta) := by
  intro pins s σ H Q I h
  refine wpAny_Call_Name_kw (ld_glob I hg T.g ?_ hdb)
  refine PySem.W.callWith_K (h₀ := X.base) I.ok.mod.kin T.kC (thn (ha.run pos pins s σ H _ I h) fun us s1 hh => ?_) he hpl
  obtain ⟨vs, H1, I1, r1, v, ev, q1⟩ := hh
  subst ev
  refine ⟨I1.kIn, ?_⟩
  cases r1 with
  | cons rv rn =>
    rename_i v' us'
    cases rn
    show wpAny _ _ (call (.ref C) [v']) _ _ _
    have hlim := I1.nolimit
    obtain ⟨mb, b1, b2⟩ := I1.mod.blt
    have hgl := I1.mod.glob.keeps I1.bk
    have hbl := b1.keeps I1.bk
    obtain ⟨hp, g, d, tk, os⟩ := s1
    refine wpAny_call (PySem.SupX.own_made_LimitExceeded FB KF SF T htop I1.kIn hlim hgl hbl (b2 _ (by decide)) (by have := hr.dp; omega) fun h' tk' e d M => ?_)
    show MkP X pins σ Q (.ref e) ⟨h', g, _, tk', os⟩
    obtain ⟨oe, fv, hoe, hc, hd, hdat, h1⟩ := M.obj
    have hns := M.ns
    obtain ⟨G', g1, g2⟩ := restrict h' fun b => decide (b ≠ e)
    have gk : ∀ b, b ≠ e → G'.get? b = h'.get? b := fun b hb => g1 b (decide_eq_true hb)
    have ge : G'.get? e = none := g2 e (by simp)
    have old : ∀ b o, hp.get? b = some o → G'.get? b = some o := fun b o q => (gk b (Nat.ne_of_lt (Nat.lt_of_lt_of_le (Heap.lt_size q) M.new))).trans (M.keep b o q)
    have ob : ObjOk X.prog X.w (upd H1 d (.xd [(("size" : Str), v)])) G' d (.xd [(("size" : Str), v)]) :=
      ⟨_, hns.at (fun o q => (gk d M.dne).trans q), fun f => PySem.SupX.relO_one rv f⟩
    have J : Inv X pins σ (upd H1 d (.xd [(("size" : Str), v)])) ⟨G', g, _, tk', os⟩ := I1.laid (t' := tk') old M.dbig ob
    refine ⟨e, oe, fv, ⟨G', g, _, tk', os⟩, _, .ref C, some d, rfl, J, fun b o q => ?_, ge, hoe, ⟨hc, hd⟩, hdat, h1, ?_, rfl, I1.bare, raises_own T.exC T.tyC, q1 d (I1.hok.fresh M.dbig)⟩
    · by_cases hb : b = e
      · have q' : G'.get? b = some o := q
        rw [hb, ge] at q'; cases q'
      · exact (gk b hb).symm.trans q
    · rw [upd_ne (Ne.symm M.dne)]
      exact I1.hok.fresh M.new
end
end L2

namespace My
open PySem L2 TL
local macro_rules | `(tactic| walk_at "rd") => `(tactic| try simp only [tMakeK, tFld, sFld, tProp, tMeth, tMake, tMakeL, ClX.tCMeth, tAsg2, tAsg3, tAsg4, tDNewK, rU, tYes, tSeq, tNext, tDrop, tRet, tRetN, tIfS, tAsg, tAug, tPar, gName, gSub, gTup, tVar, tC, tOp, tUn, tTest, tB, tAnd, tOr, tNot, tAndV, tOrV, tNotV, tIf, tChain, tCB, tCons, tNil, tCall, tLst, tTup, tSl, tPart, tNoPart, tM0, tM1, tBM, tBM0, rI, rI0, rEq, rNe,
  List.append_nil, List.cons_append, List.nil_append, List.getElem?_cons_zero, List.getElem?_cons_succ, List.set_cons_zero, List.set_cons_succ, Option.some.injEq, V.int.injEq, V.bl.injEq, V.str.injEq, V.ref.injEq, List.cons.injEq, and_true, true_and,
  and_assoc, exists_and_left, exists_and_right, exists_eq_left, exists_eq_left', decide_true, decide_false, reduceCtorEq, nox_K, cx_K, ite_t, ite_f, exists_false, false_and, and_false, false_or, or_false, if_true, if_false, ite_true, ite_false, scal, tyV, Bool.not_true, Bool.not_false, Bool.true_and, Bool.and_true, Bool.false_and, Bool.and_false])
local macro_rules | `(tactic| walk_at "sz") => `(tactic| (first | (show _ ≤ sizeLine) | (show _ < sizeLine)); simp only [List.length_cons, List.length_nil]; decide)
local macro_rules | `(tactic| walk_at "wp") => `(tactic| simp only [wipe, List.map_cons, List.map_nil, List.set_cons_zero, List.set_cons_succ])

structure Top (K : PySem.W.Frag) (mg : Str → Option Value) where
  a_is_int : Addr
  d_is_int : FuncData
  F_is_int : Fun K "is_int" "is_int" s_is_int a_is_int d_is_int
  b_is_int : Binds K d_is_int ["value"] []
  m_is_int : mg "is_int" = some (.ref a_is_int)
  a_is_natural : Addr
  d_is_natural : FuncData
  F_is_natural : Fun K "is_natural" "is_natural" s_is_natural a_is_natural d_is_natural
  b_is_natural : Binds K d_is_natural ["value"] []
  m_is_natural : mg "is_natural" = some (.ref a_is_natural)
  a_is_int_between : Addr
  d_is_int_between : FuncData
  F_is_int_between : Fun K "is_int_between" "is_int_between" s_is_int_between a_is_int_between d_is_int_between
  b_is_int_between : Binds K d_is_int_between ["value", "least", "most"] []
  m_is_int_between : mg "is_int_between" = some (.ref a_is_int_between)
  a_read_integer : Addr
  d_read_integer : FuncData
  F_read_integer : Fun K "read_integer" "read_integer" s_read_integer a_read_integer d_read_integer
  b_read_integer : Binds K d_read_integer ["text"] []
  m_read_integer : mg "read_integer" = some (.ref a_read_integer)
  a_is_mode : Addr
  d_is_mode : FuncData
  F_is_mode : Fun K "is_mode" "is_mode" s_is_mode a_is_mode d_is_mode
  b_is_mode : Binds K d_is_mode ["value"] []
  m_is_mode : mg "is_mode" = some (.ref a_is_mode)
  a_check_mode : Addr
  d_check_mode : FuncData
  F_check_mode : Fun K "check_mode" "check_mode" s_check_mode a_check_mode d_check_mode
  b_check_mode : Binds K d_check_mode ["value"] []
  m_check_mode : mg "check_mode" = some (.ref a_check_mode)
  a_check_any_length : Addr
  d_check_any_length : FuncData
  F_check_any_length : Fun K "check_any_length" "check_any_length" s_check_any_length a_check_any_length d_check_any_length
  b_check_any_length : Binds K d_check_any_length ["value"] []
  m_check_any_length : mg "check_any_length" = some (.ref a_check_any_length)
  a_is_count : Addr
  d_is_count : FuncData
  F_is_count : Fun K "is_count" "is_count" s_is_count a_is_count d_is_count
  b_is_count : Binds K d_is_count ["value"] []
  m_is_count : mg "is_count" = some (.ref a_is_count)
  a_check_count : Addr
  d_check_count : FuncData
  F_check_count : Fun K "check_count" "check_count" s_check_count a_check_count d_check_count
  b_check_count : Binds K d_check_count ["value"] []
  m_check_count : mg "check_count" = some (.ref a_check_count)
  a_repeat : Addr
  d_repeat : FuncData
  F_repeat : Fun K "repeat" "repeat" s_repeat a_repeat d_repeat
  b_repeat : Binds K d_repeat ["program", "count"] []
  m_repeat : mg "repeat" = some (.ref a_repeat)
  a_parts_of : Addr
  d_parts_of : FuncData
  F_parts_of : Fun K "parts_of" "parts_of" s_parts_of a_parts_of d_parts_of
  b_parts_of : Binds K d_parts_of ["program"] []
  m_parts_of : mg "parts_of" = some (.ref a_parts_of)
  a_read_parts : Addr
  d_read_parts : FuncData
  F_read_parts : Fun K "read_parts" "read_parts" s_read_parts a_read_parts d_read_parts
  b_read_parts : Binds K d_read_parts ["text"] []
  m_read_parts : mg "read_parts" = some (.ref a_read_parts)
  a_end_of_run : Addr
  d_end_of_run : FuncData
  F_end_of_run : Fun K "end_of_run" "end_of_run" s_end_of_run a_end_of_run d_end_of_run
  b_end_of_run : Binds K d_end_of_run ["text", "start", "signs"] []
  m_end_of_run : mg "end_of_run" = some (.ref a_end_of_run)
  a_depth_of : Addr
  d_depth_of : FuncData
  F_depth_of : Fun K "depth_of" "depth_of" s_depth_of a_depth_of d_depth_of
  b_depth_of : Binds K d_depth_of ["parts"] []
  m_depth_of : mg "depth_of" = some (.ref a_depth_of)
  a_Profile_init : Addr
  d_Profile_init : FuncData
  F_Profile_init : Fun K "__init__" "Profile.__init__" s_Profile_init a_Profile_init d_Profile_init
  b_Profile_init : Binds K d_Profile_init ["self", "puts", "takes", "low", "high", "fall"] []
  a_Profile_puts : Addr
  d_Profile_puts : FuncData
  F_Profile_puts : Fun K "puts" "Profile.puts" s_Profile_puts a_Profile_puts d_Profile_puts
  b_Profile_puts : Binds K d_Profile_puts ["self"] []
  a_Profile_takes : Addr
  d_Profile_takes : FuncData
  F_Profile_takes : Fun K "takes" "Profile.takes" s_Profile_takes a_Profile_takes d_Profile_takes
  b_Profile_takes : Binds K d_Profile_takes ["self"] []
  a_Profile_low : Addr
  d_Profile_low : FuncData
  F_Profile_low : Fun K "low" "Profile.low" s_Profile_low a_Profile_low d_Profile_low
  b_Profile_low : Binds K d_Profile_low ["self"] []
  a_Profile_high : Addr
  d_Profile_high : FuncData
  F_Profile_high : Fun K "high" "Profile.high" s_Profile_high a_Profile_high d_Profile_high
  b_Profile_high : Binds K d_Profile_high ["self"] []
  a_Profile_fall : Addr
  d_Profile_fall : FuncData
  F_Profile_fall : Fun K "fall" "Profile.fall" s_Profile_fall a_Profile_fall d_Profile_fall
  b_Profile_fall : Binds K d_Profile_fall ["self"] []
  a_Profile_offset : Addr
  d_Profile_offset : FuncData
  F_Profile_offset : Fun K "offset" "Profile.offset" s_Profile_offset a_Profile_offset d_Profile_offset
  b_Profile_offset : Binds K d_Profile_offset ["self"] []
  a_Profile_of : Addr
  d_Profile_of : FuncData
  F_Profile_of : Fun K "of" "Profile.of" s_Profile_of a_Profile_of d_Profile_of
  b_Profile_of : Binds K d_Profile_of ["cls", "program"] []
  a_Profile_of_parts : Addr
  d_Profile_of_parts : FuncData
  F_Profile_of_parts : Fun K "_of_parts" "Profile._of_parts" s_Profile_of_parts a_Profile_of_parts d_Profile_of_parts
  b_Profile_of_parts : Binds K d_Profile_of_parts ["cls", "parts"] []
  a_Profile_of_sequence : Addr
  d_Profile_of_sequence : FuncData
  F_Profile_of_sequence : Fun K "_of_sequence" "Profile._of_sequence" s_Profile_of_sequence a_Profile_of_sequence d_Profile_of_sequence
  b_Profile_of_sequence : Binds K d_Profile_of_sequence ["cls", "sequence"] []
  a_Profile_add : Addr
  d_Profile_add : FuncData
  F_Profile_add : Fun K "__add__" "Profile.__add__" s_Profile_add a_Profile_add d_Profile_add
  b_Profile_add : Binds K d_Profile_add ["self", "other"] []
  a_Profile_mul : Addr
  d_Profile_mul : FuncData
  F_Profile_mul : Fun K "__mul__" "Profile.__mul__" s_Profile_mul a_Profile_mul d_Profile_mul
  b_Profile_mul : Binds K d_Profile_mul ["self", "other"] []
  a_Profile_repeated_fall : Addr
  d_Profile_repeated_fall : FuncData
  F_Profile_repeated_fall : Fun K "_repeated_fall" "Profile._repeated_fall" s_Profile_repeated_fall a_Profile_repeated_fall d_Profile_repeated_fall
  b_Profile_repeated_fall : Binds K d_Profile_repeated_fall ["self", "last_start"] []
  a_Profile_eq : Addr
  d_Profile_eq : FuncData
  F_Profile_eq : Fun K "__eq__" "Profile.__eq__" s_Profile_eq a_Profile_eq d_Profile_eq
  b_Profile_eq : Binds K d_Profile_eq ["self", "other"] []
  a_least_capacity : Addr
  d_least_capacity : FuncData
  F_least_capacity : Fun K "least_capacity" "least_capacity" s_least_capacity a_least_capacity d_least_capacity
  b_least_capacity : Binds K d_least_capacity ["program", "mode", "length"] []
  m_least_capacity : mg "least_capacity" = some (.ref a_least_capacity)
  a_lossless_capacity : Addr
  d_lossless_capacity : FuncData
  F_lossless_capacity : Fun K "lossless_capacity" "lossless_capacity" s_lossless_capacity a_lossless_capacity d_lossless_capacity
  b_lossless_capacity : Binds K d_lossless_capacity ["program", "length"] []
  m_lossless_capacity : mg "lossless_capacity" = some (.ref a_lossless_capacity)
  a_roomy_capacity : Addr
  d_roomy_capacity : FuncData
  F_roomy_capacity : Fun K "roomy_capacity" "roomy_capacity" s_roomy_capacity a_roomy_capacity d_roomy_capacity
  b_roomy_capacity : Binds K d_roomy_capacity ["profile", "length"] []
  m_roomy_capacity : mg "roomy_capacity" = some (.ref a_roomy_capacity)
  a__law_draws : Addr
  d__law_draws : FuncData
  F__law_draws : Fun K "_law_draws" "_law_draws" s__law_draws a__law_draws d__law_draws
  b__law_draws : Binds K d__law_draws ["_law_script", "_law_k"] []
  m__law_draws : mg "_law_draws" = some (.ref a__law_draws)
  a__law_draw : Addr
  d__law_draw : FuncData
  F__law_draw : Fun K "_law_draw" "_law_draw" s__law_draw a__law_draw d__law_draw
  b__law_draw : Binds K d__law_draw ["_law_draws_here", "_law_upto"] []
  m__law_draw : mg "_law_draw" = some (.ref a__law_draw)
  a__law_letter : Addr
  d__law_letter : FuncData
  F__law_letter : Fun K "_law_letter" "_law_letter" s__law_letter a__law_letter d__law_letter
  b__law_letter : Binds K d__law_letter ["_law_draws_here"] []
  m__law_letter : mg "_law_letter" = some (.ref a__law_letter)
  a__law_sequence : Addr
  d__law_sequence : FuncData
  F__law_sequence : Fun K "_law_sequence" "_law_sequence" s__law_sequence a__law_sequence d__law_sequence
  b__law_sequence : Binds K d__law_sequence ["_law_draws_here", "_law_most"] []
  m__law_sequence : mg "_law_sequence" = some (.ref a__law_sequence)
  a__law_program : Addr
  d__law_program : FuncData
  F__law_program : Fun K "_law_program" "_law_program" s__law_program a__law_program d__law_program
  b__law_program : Binds K d__law_program ["_law_draws_here", "_law_depth"] []
  m__law_program : mg "_law_program" = some (.ref a__law_program)
  a__law_run : Addr
  d__law_run : FuncData
  F__law_run : Fun K "_law_run" "_law_run" s__law_run a__law_run d__law_run
  b__law_run : Binds K d__law_run ["_law_queue", "_law_sequence_here", "_law_capacity", "_law_mode"] []
  m__law_run : mg "_law_run" = some (.ref a__law_run)
  a__law_trials : Addr
  d__law_trials : FuncData
  F__law_trials : Fun K "_law_trials" "_law_trials" s__law_trials a__law_trials d__law_trials
  b__law_trials : Binds K d__law_trials ["_law_full", "_law_mode", "_law_length"] []
  m__law_trials : mg "_law_trials" = some (.ref a__law_trials)
  a__law_error : Addr
  d__law_error : FuncData
  F__law_error : Fun K "_law_error" "_law_error" s__law_error a__law_error d__law_error
  b__law_error : Binds K d__law_error ["_law_function", "_law_program_here", "_law_mode", "_law_length"] []
  m__law_error : mg "_law_error" = some (.ref a__law_error)
  a_law : Addr
  d_law : FuncData
  F_law : Fun K "law" "law" s_law a_law d_law
  b_law : Binds K d_law ["_law_script"] []
  m_law : mg "law" = some (.ref a_law)
  z_NotImplemented : mg "NotImplemented" = none
  z_all : mg "all" = none
  z_bool : mg "bool" = none
  z_classmethod : mg "classmethod" = none
  z_enumerate : mg "enumerate" = none
  z_int : mg "int" = none
  z_isinstance : mg "isinstance" = none
  z_len : mg "len" = none
  z_max : mg "max" = none
  z_min : mg "min" = none
  z_property : mg "property" = none
  z_range : mg "range" = none
  z_str : mg "str" = none
  u_DIGITS : Tok
  c_DIGITS : mg "DIGITS" = some (.str "0123456789" u_DIGITS)
  u_MOST_DIGITS : Tok
  c_MOST_DIGITS : mg "MOST_DIGITS" = some (.int 60 u_MOST_DIGITS)
  p_MODES : Addr
  c_MODES : mg "MODES" = some (.ref p_MODES)
  t_MODES : ∀ H, SqT K H p_MODES [.str "oldest", .str "newest", .str "strict"]
  u_TAKE : Tok
  c_TAKE : mg "TAKE" = some (.str "-" u_TAKE)
  u_STEPS : Tok
  c_STEPS : mg "STEPS" = some (.str "abcdefghijklmnopqrstuvwxyz-" u_STEPS)
  u_MOST_COUNT : Tok
  c_MOST_COUNT : mg "MOST_COUNT" = some (.int 1000000000000000000000000000000 u_MOST_COUNT)
  u_MOST_DEPTH : Tok
  c_MOST_DEPTH : mg "MOST_DEPTH" = some (.int 20 u_MOST_DEPTH)
  x_InvalidInteger : Addr
  g_InvalidInteger : mg "InvalidInteger" = some (.ref x_InvalidInteger)
  q_InvalidInteger : PySem.W.excIn K x_InvalidInteger [.type "ValueError", .type "Exception", .type "BaseException", .type "object"] "ValueError.__new__" = true
  k_InvalidInteger : PySem.W.keepIn K (.ref x_InvalidInteger) = true
  b_InvalidInteger : PySem.W.subIn K (.ref x_InvalidInteger) (.type "BaseException") = some true
  t_InvalidInteger : PySem.W.typeIn K (.ref x_InvalidInteger) = some (.type "type")
  e_InvalidInteger : PySem.W.exmOne K (.ref x_InvalidInteger) (.ref x_InvalidInteger) = some true
  x_InvalidMode : Addr
  g_InvalidMode : mg "InvalidMode" = some (.ref x_InvalidMode)
  q_InvalidMode : PySem.W.excIn K x_InvalidMode [.type "ValueError", .type "Exception", .type "BaseException", .type "object"] "ValueError.__new__" = true
  k_InvalidMode : PySem.W.keepIn K (.ref x_InvalidMode) = true
  b_InvalidMode : PySem.W.subIn K (.ref x_InvalidMode) (.type "BaseException") = some true
  t_InvalidMode : PySem.W.typeIn K (.ref x_InvalidMode) = some (.type "type")
  e_InvalidMode : PySem.W.exmOne K (.ref x_InvalidMode) (.ref x_InvalidMode) = some true
  x_InvalidProgram : Addr
  g_InvalidProgram : mg "InvalidProgram" = some (.ref x_InvalidProgram)
  q_InvalidProgram : PySem.W.excIn K x_InvalidProgram [.type "ValueError", .type "Exception", .type "BaseException", .type "object"] "ValueError.__new__" = true
  k_InvalidProgram : PySem.W.keepIn K (.ref x_InvalidProgram) = true
  b_InvalidProgram : PySem.W.subIn K (.ref x_InvalidProgram) (.type "BaseException") = some true
  t_InvalidProgram : PySem.W.typeIn K (.ref x_InvalidProgram) = some (.type "type")
  e_InvalidProgram : PySem.W.exmOne K (.ref x_InvalidProgram) (.ref x_InvalidProgram) = some true
  x_LimitExceeded : Addr
  y_LimitExceeded : Addr
  E_LimitExceeded : PySem.SupX.ExF P K mg "LimitExceeded" "size" "size" "LimitExceeded.__init__" s_LimitExceeded_init "OverflowError" "OverflowError.__new__" "OverflowError.__init__" [.type "OverflowError", .type "ArithmeticError", .type "Exception", .type "BaseException", .type "object"] x_LimitExceeded y_LimitExceeded
  ne_InvalidInteger_InvalidProgram : PySem.W.exmOne K (.ref x_InvalidInteger) (.ref x_InvalidProgram) = some false
  ne_InvalidMode_InvalidProgram : PySem.W.exmOne K (.ref x_InvalidMode) (.ref x_InvalidProgram) = some false
  ne_InvalidInteger_InvalidMode : PySem.W.exmOne K (.ref x_InvalidInteger) (.ref x_InvalidMode) = some false
  x_Profile : Addr
  g_Profile : mg "Profile" = some (.ref x_Profile)
  cl_Profile : Cls K x_Profile
  mk_Profile : Mk K x_Profile a_Profile_init
  ca_Profile : PySem.W.findIn K (.ref x_Profile) "__class__" = some (some (.builtin "object.__class__"))
  cm_Profile : PySem.W.mroIn K x_Profile (.type "object") = some true
  cg_Profile : PySem.W.specialIn K (.builtin "object.__class__") "__get__" = some (some (.builtin "getset_descriptor.__get__"))
  ct_Profile : PySem.W.takesIn K (.builtin "object.__class__") = some true
  cs_Profile : PySem.W.isClsIn K x_Profile = true
  cy_Profile : PySem.W.typeIn K (.ref x_Profile) = some (.type "type")
  su_Profile_list : PySem.W.subIn K (.type "list") (.ref x_Profile) = some false
  rd_Profile : ClX.CRead K x_Profile (.type "type")
  cp_Profile_of : Addr
  cm_Profile_of : ClX.CMet K x_Profile (.type "type") "of" cp_Profile_of a_Profile_of
  cp_Profile_of_parts : Addr
  cm_Profile_of_parts : ClX.CMet K x_Profile (.type "type") "_of_parts" cp_Profile_of_parts a_Profile_of_parts
  cp_Profile_of_sequence : Addr
  cm_Profile_of_sequence : ClX.CMet K x_Profile (.type "type") "_of_sequence" cp_Profile_of_sequence a_Profile_of_sequence
  n_Profile_puts : NoAttr K x_Profile "_puts"
  n_Profile_takes : NoAttr K x_Profile "_takes"
  n_Profile_low : NoAttr K x_Profile "_low"
  n_Profile_high : NoAttr K x_Profile "_high"
  n_Profile_fall : NoAttr K x_Profile "_fall"
  pp_Profile_puts : Addr
  pr_Profile_puts : PropOf K x_Profile "puts" pp_Profile_puts a_Profile_puts
  pp_Profile_takes : Addr
  pr_Profile_takes : PropOf K x_Profile "takes" pp_Profile_takes a_Profile_takes
  pp_Profile_low : Addr
  pr_Profile_low : PropOf K x_Profile "low" pp_Profile_low a_Profile_low
  pp_Profile_high : Addr
  pr_Profile_high : PropOf K x_Profile "high" pp_Profile_high a_Profile_high
  pp_Profile_fall : Addr
  pr_Profile_fall : PropOf K x_Profile "fall" pp_Profile_fall a_Profile_fall
  pp_Profile_offset : Addr
  pr_Profile_offset : PropOf K x_Profile "offset" pp_Profile_offset a_Profile_offset
  me_Profile_repeated_fall : Meth K x_Profile "_repeated_fall" a_Profile_repeated_fall
  sf_Profile : PySem.W.selfFirst K x_Profile = true
  ba_Profile_add : PySem.W.findIn K (.ref x_Profile) "__add__" = some (some (.ref a_Profile_add))
  bi_Profile_add : PySem.W.isFn K (.ref a_Profile_add) = true
  ba_Profile_mul : PySem.W.findIn K (.ref x_Profile) "__mul__" = some (some (.ref a_Profile_mul))
  bi_Profile_mul : PySem.W.isFn K (.ref a_Profile_mul) = true
  br_Profile_mul : PySem.W.findIn K (.ref x_Profile) "__rmul__" = some none
  rt_Profile_mul : ∀ T ∈ ["int", "NoneType", "str", "bool"], RightT K x_Profile "mul" T
  eq_Profile : EqK K x_Profile a_Profile_eq
theorem htopP : (P.main.scope.names.lookup ("super" : Str)).isSome = false := by first | rfl | decide +kernel
section
variable {w : World} {K : PySem.W.Frag} {mg : Str → Option Value} {base : Heap}
def isIntV : V → Bool | .int _ => true | _ => false
def sp_is_int (K : PySem.W.Frag) : Sp := fun vs H Q _ => ∃ x, vs = [x] ∧ Kd K H x ∧ Q (.bl (isIntV x)) H
def sp_is_int_between (K : PySem.W.Frag) : Sp := fun vs H Q _ => ∃ (x : V) (lo hi : Int), vs = [x, .int lo, .int hi] ∧ Kd K H x ∧ Q (.bl (match x with | .int i => decide (lo ≤ i) && decide (i ≤ hi) | _ => false)) H
def isCountV : V → Bool | .int i => decide (0 ≤ i) && decide (i ≤ 10 ^ 30) | _ => false
def sp_has (K : PySem.W.Frag) (f : V → Bool) : Sp := fun vs H Q _ => ∃ x, vs = [x] ∧ Kd K H x ∧ Q (.bl (f x)) H
theorem ok_is_int (T : Top K mg) : FnOk P w K mg base CX0 1 T.a_is_int T.d_is_int ["value"] (sp_is_int K) := by
  refine T.F_is_int.ok sc_is_int (fun vs H Q E h => ?_) (fun cdv A outer s H vs Q E hr h => ?_)
  · obtain ⟨x, rfl, _⟩ := h
    rfl
  · obtain ⟨x, rfl, kx, q⟩ := h
    refine ⟨_, (pss_one (ps_ret (pe_and (pe_callB call_isi (by rfl) T.z_isinstance (by decide +kernel) (pa_cons (pv 0) (pa_cons (pe_bltn (v := .ty "int") (by rfl) T.z_int (by decide +kernel) rfl) pa_nil))) (pe_one (pe_not (pe_callB call_isi (by rfl) T.z_isinstance (by decide +kernel) (pa_cons (pv 0) (pa_cons (pe_bltn (v := .ty "bool") (by rfl) T.z_bool (by decide +kernel) rfl) pa_nil)))))))), ?_⟩
    have hst : start ["value"] [x] = [some x] := rfl
    rw [hst]
    walk_at "rd"
    refine isi_int kx ?_
    walk_at "rd"
    cases x <;> simp only [tInt] <;> walk_at "rd" <;> first | exact q | skip
    all_goals refine isi_bool kx ?_
    all_goals (simp only [tBool]; walk_at "rd"; exact q)
theorem ok_is_int_between (T : Top K mg) : FnOk P w K mg base CX0 2 T.a_is_int_between T.d_is_int_between ["value", "least", "most"] (sp_is_int_between K) := by
  have G_is_int := ok_is_int (w := w) (base := base) T
  refine T.F_is_int_between.ok sc_is_int_between (fun vs H Q E h => ?_) (fun cdv A outer s H vs Q E hr h => ?_)
  · obtain ⟨x, lo, hi, rfl, _⟩ := h
    rfl
  · obtain ⟨x, lo, hi, rfl, kx, q⟩ := h
    refine ⟨_, (pss_one (ps_ret (pe_and (pe_call G_is_int (hr.mono (by first | decide | omega)) rfl T.m_is_int T.F_is_int.kp T.b_is_int .nil pass0 (pa_cons (pv 0) pa_nil)) (pe_one (pe_chain op_le op_le (pv 1) (pv 0) (pv 2)))))), ?_⟩
    have hst : start ["value", "least", "most"] [x, .int lo, .int hi] = [some x, some (.int lo), some (.int hi)] := rfl
    rw [hst]
    walk_at "rd"
    simp only [sp_is_int]
    walk_at "rd"
    refine ⟨kx, ?_⟩
    cases x <;> simp only [isIntV] <;> walk_at "rd" <;> first | exact q | skip
    split <;> simp_all
theorem ok_is_count (T : Top K mg) : FnOk P w K mg base CX0 3 T.a_is_count T.d_is_count ["value"] (sp_has K isCountV) := by
  have G_is_int_between := ok_is_int_between (w := w) (base := base) T
  refine T.F_is_count.ok sc_is_count (fun vs H Q E h => ?_) (fun cdv A outer s H vs Q E hr h => ?_)
  · obtain ⟨x, rfl, _⟩ := h
    rfl
  · obtain ⟨x, rfl, kx, q⟩ := h
    refine ⟨_, (pss_one (ps_ret (pe_call G_is_int_between (hr.mono (by first | decide | omega)) rfl T.m_is_int_between T.F_is_int_between.kp T.b_is_int_between .nil pass0 (pa_cons (pv 0) (pa_cons pe_int (pa_cons (pe_glob (v := .int 1000000000000000000000000000000) (by rfl) T.c_MOST_COUNT ⟨_, rfl⟩) pa_nil)))))), ?_⟩
    have hst : start ["value"] [x] = [some x] := rfl
    rw [hst]
    walk_at "rd"
    simp only [sp_is_int_between]
    walk_at "rd"
    refine ⟨kx, ?_⟩
    cases x <;> exact q
/-! ### end_of_run -/
def runE (p : Nat → Bool) (l : List Nat) (a : Nat) : Nat := a + ((l.drop a).takeWhile p).length
theorem runE_go {p : Nat → Bool} {l : List Nat} {a c : Nat} (h : l[a]? = some c) (hc : p c = true) : runE p l (a + 1) = runE p l a := by
  unfold runE
  obtain ⟨ha, e⟩ := List.getElem?_eq_some_iff.mp h
  rw [List.drop_eq_getElem_cons ha, e, List.takeWhile_cons, if_pos hc, List.length_cons]; omega
theorem runE_stop {p : Nat → Bool} {l : List Nat} {a c : Nat} (h : l[a]? = some c) (hc : p c = false) : runE p l a = a := by
  unfold runE
  obtain ⟨ha, e⟩ := List.getElem?_eq_some_iff.mp h
  rw [List.drop_eq_getElem_cons ha, e, List.takeWhile_cons, if_neg (by rw [hc]; decide)]; rfl
theorem runE_end {p : Nat → Bool} {l : List Nat} : runE p l l.length = l.length := by
  unfold runE; rw [List.drop_length]; rfl
theorem runE_le {p : Nat → Bool} {l : List Nat} {a : Nat} (h : a ≤ l.length) : runE p l a ≤ l.length := by
  unfold runE
  have h1 := (List.takeWhile_sublist (l := l.drop a) p).length_le
  rw [List.length_drop] at h1; omega
def sp_end_of_run : Sp := fun vs H Q _ => ∃ (t sg : Str) (a : Nat), vs = [.str t, .int a, .str sg] ∧ t.length ≤ 100000 ∧ sg.length ≤ 100000 ∧ a ≤ t.length ∧
  Q (.int (runE (fun c => decide (c ∈ sg.cps.toList)) t.cps.toList a : Nat)) H
theorem ok_end_of_run (T : Top K mg) : FnOk P w K mg base CX0 1 T.a_end_of_run T.d_end_of_run ["text", "start", "signs"] sp_end_of_run := by

  refine T.F_end_of_run.ok sc_end_of_run (fun vs H Q E h => ?_) (fun cdv A outer s H vs Q E hr h => ?_)
  · obtain ⟨t, sg, a, rfl, _⟩ := h
    rfl
  · obtain ⟨t, sg, a, rfl, ht, hs, ha, q⟩ := h
    refine ⟨_, (pss_cons (ps_set (i := 3) sc_end_of_run.nd rfl (Or.inl rfl) (pv 1))
      (pss_cons (ps_while PassesOwn.never (PW.pt (pw_and (pt_cmpR op_lt (pv 3) (pe_callB call_len_str (by rfl) T.z_len (by decide +kernel) (pa_cons (pv 0) pa_nil)) (nomark _)) (pw_and1 (pt_cmpR op_in_sign (pe_ix ix_str (pv 0) (pv 3) (fun _ _ => rfl)) (pv 2) (by rfl))))) (pss_one (ps_aug (i := 3) sc_end_of_run.nd rfl (Or.inl rfl) pe_int ip_add)))
      (pss_one (ps_ret (pv 3))))), ?_⟩
    have hst : start ["text", "start", "signs", "end"] [.str t, .int a, .str sg] = [some (.str t), some (.int a), some (.str sg), none] := rfl
    rw [hst]
    walk_at "rd"
    have hl : t.cps.toList.length = t.length := Array.length_toList
    generalize hp : (fun c => decide (c ∈ sg.cps.toList)) = p at q
    refine ⟨fun m σ' H' => ∃ e : Nat, σ' = [some (.str t), some (.int a), some (.str sg), some (.int e)] ∧ H' = H ∧ m = t.length - e ∧ e ≤ t.length ∧ runE p t.cps.toList e = runE p t.cps.toList a, ⟨_, a, rfl, rfl, rfl, ha, rfl⟩, ?_⟩
    rintro m σ' H' ⟨e, rfl, rfl, rfl, he, hv⟩
    walk_at "rd"
    refine ⟨sz_of ht, ?_⟩
    by_cases hlt : e < t.length
    · rw [decide_eq_true (by omega : (e : Int) < (t.length : Int))]
      walk_at "rd"
      obtain ⟨c, hc⟩ : ∃ c, t.cps.toList[e]? = some c := ⟨_, List.getElem?_eq_getElem (by omega)⟩
      refine ix_str_at ht (by omega) (by simpa using hc) ?_
      walk_at "rd"
      refine ⟨c, rfl, ?_⟩
      cases hpc : decide (c ∈ sg.cps.toList)
      · walk_at "rd"
        have := runE_stop (p := p) hc (by rw [← hp]; exact hpc)
        rw [← hv, this] at q
        exact q
      · walk_at "rd"
        refine ⟨fun σ2 H2 => σ2 = [some (.str t), some (.int a), some (.str sg), some (.int (e + 1 : Nat))] ∧ H2 = H', ?_, ?_⟩
        · rintro _ _ ⟨rfl, rfl⟩
          exact ⟨t.length - (e + 1), by omega, e + 1, rfl, rfl, rfl, by omega, (runE_go hc (by rw [← hp]; exact hpc)).trans hv⟩
        · walk_at "rd"
          exact ⟨_, _, rfl, rfl, by simp, rfl⟩
    · rw [decide_eq_false (by omega : ¬ (e : Int) < (t.length : Int))]
      walk_at "rd"
      have e1 : e = t.cps.toList.length := by omega
      have := runE_end (p := p) (l := t.cps.toList)
      rw [← e1, hv] at this
      rw [this] at q
      exact q
/-! ### read_integer, of digits alone -/
def cntV : Option Nat → V
  | none => .non
  | some n => .int n
def rint (ds : List Nat) : Option Nat :=
  if ds.length = 0 ∨ 60 < ds.length then none else if digs (NumText.digitsVal ds) = ds then some (NumText.digitsVal ds) else none
theorem rcount_rint (ds : List Nat) : rcount ds = match rint ds with | some n => if n ≤ 10 ^ 30 then some n else none | none => none := by
  unfold rcount rint
  by_cases h0 : ds.length = 0
  · rw [if_pos (.inl h0), if_pos (.inl h0)]
  by_cases h60 : 60 < ds.length
  · rw [if_pos (.inr (by omega)), if_pos (.inr h60)]
  rw [if_neg (by omega : ¬ (ds.length = 0 ∨ 60 < ds.length))]
  by_cases h : digs (NumText.digitsVal ds) = ds
  · rw [if_pos h]
    by_cases h31 : 31 < ds.length
    · rw [if_pos (.inr h31)]
      have : ¬ NumText.digitsVal ds ≤ 10 ^ 30 := fun hc => by
        have e := digs_lt (k := 31) (by decide) (Nat.lt_of_le_of_lt hc (by decide))
        rw [h] at e
        omega
      simp only [if_neg this]
    · rw [if_neg (by omega)]
      by_cases hc : NumText.digitsVal ds ≤ 10 ^ 30
      · simp only [if_pos hc, if_pos (And.intro hc h)]
      · simp only [if_neg hc, if_neg (fun (x : _ ∧ _) => hc x.1)]
  · rw [if_neg h]
    simp only [if_neg (fun (x : NumText.digitsVal ds ≤ 10 ^ 30 ∧ _) => h x.2), ite_self]
def sp_read_integer : Sp := fun vs H Q _ => ∃ z : Str, vs = [.str z] ∧ z.length ≤ 100000 ∧ (tl z).all isDig = true ∧ Q (cntV (rint (tl z))) H
theorem digs_alldig {l : List Nat} (h : l.all isDig = true) : NumText.AllDigits l := by
  intro c hc
  have := List.all_eq_true.mp h c hc
  simpa [isDig] using this
theorem digits_list : (Str.ofString "0123456789").cps.toList = [48,49,50,51,52,53,54,55,56,57] := by decide +kernel
theorem strip_digs {z : Str} (h : (tl z).all isDig = true) : Txt.stripChars z (Str.ofString "0123456789") = Str.ofString "" := by
  refine tl_inj ?_
  show (Txt.stripChars z (Str.ofString "0123456789")).cps.toList = _
  unfold Txt.stripChars
  rw [strip_none (g := (Str.ofString "0123456789").cps.contains)]
  · rfl
  · rw [List.all_eq_true] at h ⊢
    intro c hc
    have := h c hc
    rw [Array.contains_eq_mem, decide_eq_true_eq, Array.mem_def, digits_list]
    simp only [isDig, Bool.and_eq_true, decide_eq_true_eq] at this
    simp only [List.mem_cons, List.not_mem_nil, or_false]
    omega
theorem noprefix {z : Str} (h : (tl z).all isDig = true) : Txt.removeprefix z (Str.ofString "-") = z := by
  unfold Txt.removeprefix
  have : Builtin.Str.subAt z (Str.ofString "-") 0 = false := by
    cases e : Builtin.Str.subAt z (Str.ofString "-") 0 with
    | false => rfl
    | true =>
      unfold Builtin.Str.subAt at e
      have e1 := congrArg Array.toList (beq_iff_eq.mp e)
      rw [Array.toList_extract, show (Str.ofString "-").cps.toList = [45] by decide +kernel, show 0 + (Str.ofString "-").length = 1 by decide +kernel] at e1
      have hz : tl z = z.cps.toList := rfl
      rw [← hz] at e1
      cases ez : tl z with
      | nil => rw [ez] at e1; simp at e1
      | cons c l =>
        rw [ez] at e1 h
        simp at e1
        rw [List.all_cons, e1] at h
        simp [isDig] at h
  rw [this]
  rfl
theorem foldDigs_lt : ∀ (l : List Nat) (a : Nat), NumText.AllDigits l → l.foldl (fun acc c => acc * 10 + (c - 48)) a < (a + 1) * 10 ^ l.length
  | [], a, _ => by simp
  | c :: l, a, h => by
    have hc := h c List.mem_cons_self
    have ih := foldDigs_lt l (a * 10 + (c - 48)) (fun d hd => h d (List.mem_cons_of_mem _ hd))
    rw [List.foldl_cons, List.length_cons, Nat.pow_succ]
    refine Nat.lt_of_lt_of_le ih ?_
    rw [Nat.mul_comm (10 ^ l.length) 10, ← Nat.mul_assoc]
    exact Nat.mul_le_mul_right _ (by omega)
theorem digitsVal_lt (l : List Nat) (h : NumText.AllDigits l) : NumText.digitsVal l < 10 ^ l.length := by
  have := foldDigs_lt l 0 h
  rw [Nat.zero_add, Nat.one_mul] at this
  exact this
theorem digitsVal_log {l : List Nat} (h : NumText.AllDigits l) (hl : l.length ≤ 60) : (NumText.digitsVal l).log2 < 1920 := by
  by_cases h0 : NumText.digitsVal l = 0
  · rw [h0]; decide
  · refine (Nat.log2_lt h0).mpr (Nat.lt_of_lt_of_le (digitsVal_lt l h) (Nat.le_trans (Nat.pow_le_pow_right (by decide) hl) (by decide +kernel)))
theorem ok_read_integer (T : Top K mg) : FnOk P w K mg base CX0 1 T.a_read_integer T.d_read_integer ["text"] sp_read_integer := by

  refine T.F_read_integer.ok sc_read_integer (fun vs H Q E h => ?_) (fun cdv A outer s H vs Q E hr h => ?_)
  · obtain ⟨z, rfl, _⟩ := h
    rfl
  · obtain ⟨z, rfl, hz, hd, q⟩ := h
    refine ⟨_, (pss_cons (ps_set (i := 1) sc_read_integer.nd rfl (Or.inl rfl) (pe_bm PySem.F.plainAttrs_str PySem.F.slot_str_removeprefix PySem.F.type_str_removeprefix mt_removeprefix (pv 0) (pa_cons pe_str pa_nil)))
      (pss_cons (ps_if (PW.pt (pw_or (pt_cmpR op_eq (pv 1) pe_str (nomark _)) (pw_or (pt_cmpR op_ne (pe_bm PySem.F.plainAttrs_str PySem.F.slot_str_strip PySem.F.type_str_strip mt_stripChars (pv 1) (pa_cons (pe_glob (v := .str "0123456789") (by rfl) T.c_DIGITS ⟨_, rfl⟩) pa_nil)) pe_str (nomark _)) (pw_or1 (pt_cmpR op_gt (pe_callB call_len_str (by rfl) T.z_len (by decide +kernel) (pa_cons (pv 1) pa_nil)) (pe_glob (v := .int 60) (by rfl) T.c_MOST_DIGITS ⟨_, rfl⟩) (nomark _)))))) (pss_one (ps_ret pe_non)) pss_nil)
      (pss_cons (ps_set (i := 2) sc_read_integer.nd rfl (Or.inl rfl) (pe_callTy call_int_str (by rfl) T.z_int (by decide +kernel) (pa_cons (pv 0) pa_nil)))
      (pss_one (ps_ret (pe_ifExp (pt_cmpR op_eq (pe_callTy call_str_int (by rfl) T.z_str (by decide +kernel) (pa_cons (pv 2) pa_nil)) (pv 0) (nomark _)) (pv 2) pe_non)))))), ?_⟩
    have hst : start ["text", "digits", "number"] [.str z] = [some (.str z), none, none] := rfl
    rw [hst]
    walk_at "rd"
    rw [noprefix hd, strip_digs hd]
    have hl : (tl z).length = z.length := Array.length_toList
    refine ⟨sz_of hz, ?_⟩
    by_cases h0 : z = Str.ofString ""
    · rw [decide_eq_true h0]
      have : rint (tl z) = none := by rw [h0]; rfl
      rw [this] at q
      exact q
    rw [decide_eq_false h0]
    have hne : tl z ≠ [] := fun e => h0 (tl_inj e)
    have hpos : (tl z).length ≠ 0 := fun e => hne (List.eq_nil_of_length_eq_zero e)
    rw [if_neg (by decide), decide_eq_true rfl]
    refine ⟨sz_of hz, ?_⟩
    rw [if_neg (by decide)]
    refine ⟨sz_of hz, ?_⟩
    by_cases h60 : 60 < z.length
    · rw [decide_eq_true (by omega : (60 : Int) < (z.length : Int))]
      have : rint (tl z) = none := by unfold rint; rw [if_pos (by omega)]
      rw [this] at q
      exact q
    rw [decide_eq_false (by omega : ¬ (60 : Int) < (z.length : Int)), if_neg (by decide)]
    have ev : rint (tl z) = if digs (NumText.digitsVal (tl z)) = tl z then some (NumText.digitsVal (tl z)) else none := by
      unfold rint; rw [if_neg (by omega)]
    have hlog := digitsVal_log (digs_alldig hd) (by omega : (tl z).length ≤ 60)
    refine ⟨_, intText_digits (x := z) (digs_alldig hd) hne (by omega), by omega, ?_⟩
    generalize hn : NumText.digitsVal (tl z) = n at ev hlog
    refine ⟨by rw [Int.natAbs_natCast]; exact hlog, ?_⟩
    have e2 : tl (Str.ofString (toString (n : Int))) = digs n := PySem.W.KIN.signs_num n
    by_cases e : digs n = tl z
    · rw [decide_eq_true (tl_inj (e2.trans e)), if_pos rfl]
      rw [ev, if_pos e] at q
      exact q
    · rw [decide_eq_false (fun h => e (by rw [← e2, h])), if_neg (by decide)]
      rw [ev, if_neg e] at q
      exact q
/-! ### read_parts -/
theorem sg_eq (c : Nat) (z : String) (d : Nat) (h : Str.ofString z = ⟨#[d]⟩) : ((⟨#[c]⟩ : Str) = Str.ofString z) ↔ c = d := by
  rw [h]
  constructor
  · intro e
    injection e with e
    simpa using e
  · rintro rfl; rfl
theorem mem_digits : (fun c => decide (c ∈ (Str.ofString "0123456789").cps.toList)) = isDig := by
  funext c
  have e : (Str.ofString "0123456789").cps.toList = [48,49,50,51,52,53,54,55,56,57] := by decide +kernel
  rw [e, Bool.eq_iff_iff]
  simp only [isDig, decide_eq_true_eq, Bool.and_eq_true, List.mem_cons, List.not_mem_nil, or_false]
  omega
theorem mem_steps : (fun c => decide (c ∈ (Str.ofString "abcdefghijklmnopqrstuvwxyz-").cps.toList)) = isStep := by
  funext c
  have e : (Str.ofString "abcdefghijklmnopqrstuvwxyz-").cps.toList = [97,98,99,100,101,102,103,104,105,106,107,108,109,110,111,112,113,114,115,116,117,118,119,120,121,122,45] := by decide +kernel
  rw [e, Bool.eq_iff_iff]
  simp only [isStep, isLet, Bool.or_eq_true, decide_eq_true_eq, Bool.and_eq_true, List.mem_cons, List.not_mem_nil, or_false]
  omega
theorem take_run (p : Nat → Bool) (l : List Nat) (a : Nat) : (l.drop a).take (runE p l a - a) = (l.drop a).takeWhile p ∧ l.drop (runE p l a) = (l.drop a).dropWhile p := by
  have h := List.takeWhile_append_dropWhile (p := p) (l := l.drop a)
  have e : runE p l a - a = ((l.drop a).takeWhile p).length := by unfold runE; omega
  constructor
  · rw [e]
    conv => lhs; arg 2; rw [← h]
    exact List.take_left
  · have e2 : l.drop (runE p l a) = (l.drop a).drop ((l.drop a).takeWhile p).length := by rw [List.drop_drop]; rfl
    rw [e2]
    conv => lhs; arg 2; rw [← h]
    exact List.drop_left
theorem cut_run {t : Str} (p : Nat → Bool) {a : Nat} (h : a ≤ t.length) : tl (cutS t (some (a : Int)) (some (runE p t.cps.toList a : Nat))) = (t.cps.toList.drop a).takeWhile p := by
  have h2 : runE p t.cps.toList a ≤ t.length := by
    have := runE_le (p := p) (l := t.cps.toList) (a := a) (by rw [Array.length_toList]; exact h)
    rw [Array.length_toList] at this
    exact this
  have e1 : HT.sIx t.length 0 (some (a : Int)) = a := by
    simp only [HT.sIx]
    rw [if_neg (by omega)]; omega
  have e2 : HT.sIx t.length t.length (some (runE p t.cps.toList a : Nat)) = runE p t.cps.toList a := by
    simp only [HT.sIx]
    rw [if_neg (by omega)]; omega
  show ((t.cps.toList.drop (HT.sIx t.length 0 (some (a : Int)))).take (HT.sIx t.length t.length (some (runE p t.cps.toList a : Nat)) - HT.sIx t.length 0 (some (a : Int)))).toArray.toList = _
  rw [e1, e2]
  exact (take_run p _ a).1
theorem stp_close (os : List Parts) (ps : Parts) {c : Nat} (r : List Nat) (h : c = 41) : stp os ps c r = match rcount (r.takeWhile isDig), os with
            | some n, o :: os' => if os'.length ≤ 20 then some (os', o.app (.rep ps n .nil), r.dropWhile isDig) else none
            | _, _ => none := by
  unfold stp
  rw [if_neg (by omega), if_pos h]
  try (cases rcount (r.takeWhile isDig) <;> cases os <;> rfl)
def sp_read_parts : Sp := fun vs H Q _ => ∃ t : Str, vs = [.str t] ∧ t.length ≤ 100000 ∧ (rpt (tl t) = none → ∀ H1, Same H H1 → Q .non H1) ∧
  ∀ ps, rpt (tl t) = some ps → ∀ p H1, Same H H1 → H p = none → PartsAt H1 p ps → Q (.ref p) H1
def RIn (H0 : Hp) (t : Str) (m : Nat) (σ : L2.St) (H' : Hp) : Prop := ∃ (i k : Nat) (p q : Addr) (as : List Addr) (os : List Parts) (ps : Parts) (F : Hp) (x4 x5 x6 : Option V),
  σ = [some (.str t), some (.ref p), some (.ref q), some (.int i), x4, x5, x6] ∧ m = t.length - i ∧ i ≤ t.length ∧ rpF k os ps ((tl t).drop i) = rpt (tl t) ∧ t.length - i < k ∧ os.length ≤ 20 ∧
  Lay H0 F H' p q as os ps i
theorem ok_read_parts (T : Top K mg) : FnOk P w K mg base CX0 4 T.a_read_parts T.d_read_parts ["text"] sp_read_parts := by
  have G_end_of_run := ok_end_of_run (w := w) (base := base) T
  have G_read_integer := ok_read_integer (w := w) (base := base) T
  have G_is_count := ok_is_count (w := w) (base := base) T
  refine T.F_read_parts.ok sc_read_parts (fun vs H Q E h => ?_) (fun cdv A outer s H vs Q E hr h => ?_)
  · obtain ⟨t, rfl, _⟩ := h
    rfl
  · obtain ⟨t, rfl, ht, qn, qs⟩ := h
    refine ⟨_, (pss_cons (ps_set (i := 1) sc_read_parts.nd rfl (Or.inl rfl) (pe_lst pa_nil))
      (pss_cons (ps_set (i := 2) sc_read_parts.nd rfl (Or.inl rfl) (pe_lst pa_nil))
      (pss_cons (ps_set (i := 3) sc_read_parts.nd rfl (Or.inl rfl) pe_int)
      (pss_cons (ps_while PassesOwn.never (pt_cmpR op_lt (pv 3) (pe_callB call_len_str (by rfl) T.z_len (by decide +kernel) (pa_cons (pv 0) pa_nil)) (nomark _)) (pss_cons (ps_if (pt_cmpR op_eq (pe_ix ix_str (pv 0) (pv 3) (fun _ _ => rfl)) pe_str (nomark _)) (pss_cons (ps_expr (pe_bm PySem.F.plainAttrs_list PySem.F.slot_list_append PySem.F.type_list_append mt_append (pv 1) (pa_cons (pv 2) pa_nil)))
      (pss_cons (ps_set (i := 2) sc_read_parts.nd rfl (Or.inl rfl) (pe_lst pa_nil))
      (pss_one (ps_set (i := 4) sc_read_parts.nd rfl (Or.inl rfl) (pe_op op_add (pv 3) pe_int))))) (pss_one (ps_if (pt_cmpR op_eq (pe_ix ix_str (pv 0) (pv 3) (fun _ _ => rfl)) pe_str (nomark _)) (pss_cons (ps_set (i := 4) sc_read_parts.nd rfl (Or.inl rfl) (pe_call G_end_of_run (hr.mono (by first | decide | omega)) rfl T.m_end_of_run T.F_end_of_run.kp T.b_end_of_run .nil pass0 (pa_cons (pv 0) (pa_cons (pe_op op_add (pv 3) pe_int) (pa_cons (pe_glob (v := .str "0123456789") (by rfl) T.c_DIGITS ⟨_, rfl⟩) pa_nil)))))
      (pss_cons (ps_set (i := 5) sc_read_parts.nd rfl (Or.inl rfl) (pe_call G_read_integer (hr.mono (by first | decide | omega)) rfl T.m_read_integer T.F_read_integer.kp T.b_read_integer .nil pass0 (pa_cons (pe_slice sl_str (pv 0) (po_some (pe_op op_add (pv 3) pe_int)) (po_some (pv 4))) pa_nil)))
      (pss_cons (ps_if (PW.pt (pw_or (pt_not (pt_val (pe_call G_is_count (hr.mono (by first | decide | omega)) rfl T.m_is_count T.F_is_count.kp T.b_is_count .nil pass0 (pa_cons (pv 5) pa_nil)))) (pw_or1 (pt_cmpR op_eq (pe_callB call_len_seq (by rfl) T.z_len (by decide +kernel) (pa_cons (pv 1) pa_nil)) pe_int (nomark _))))) (pss_one (ps_ret pe_non)) pss_nil)
      (pss_cons (ps_set (i := 6) sc_read_parts.nd rfl (Or.inl rfl) (pe_tup (pa_cons (pv 2) (pa_cons (pv 5) pa_nil))))
      (pss_cons (ps_set (i := 2) sc_read_parts.nd rfl (Or.inl rfl) (pe_bm0 PySem.F.plainAttrs_list PySem.F.slot_list_pop PySem.F.type_list_pop mt_pop (pv 1)))
      (pss_one (ps_expr (pe_bm PySem.F.plainAttrs_list PySem.F.slot_list_append PySem.F.type_list_append mt_append (pv 2) (pa_cons (pv 6) pa_nil))))))))) (pss_cons (ps_set (i := 4) sc_read_parts.nd rfl (Or.inl rfl) (pe_call G_end_of_run (hr.mono (by first | decide | omega)) rfl T.m_end_of_run T.F_end_of_run.kp T.b_end_of_run .nil pass0 (pa_cons (pv 0) (pa_cons (pv 3) (pa_cons (pe_glob (v := .str "abcdefghijklmnopqrstuvwxyz-") (by rfl) T.c_STEPS ⟨_, rfl⟩) pa_nil)))))
      (pss_one (ps_expr (pe_bm PySem.F.plainAttrs_list PySem.F.slot_list_append PySem.F.type_list_append mt_append (pv 2) (pa_cons (pe_slice sl_str (pv 0) (po_some (pv 3)) (po_some (pv 4))) pa_nil))))))))
      (pss_cons (ps_if (PW.pt (pw_or (pt_cmpR op_eq (pv 4) (pv 3) (nomark _)) (pw_or1 (pt_cmpR op_gt (pe_callB call_len_seq (by rfl) T.z_len (by decide +kernel) (pa_cons (pv 1) pa_nil)) (pe_glob (v := .int 20) (by rfl) T.c_MOST_DEPTH ⟨_, rfl⟩) (nomark _))))) (pss_one (ps_ret pe_non)) pss_nil)
      (pss_one (ps_set (i := 3) sc_read_parts.nd rfl (Or.inl rfl) (pv 4))))))
      (pss_one (ps_ret (pe_ifExp (pt_cmpR op_eq (pe_callB call_len_seq (by rfl) T.z_len (by decide +kernel) (pa_cons (pv 1) pa_nil)) pe_int (nomark _)) (pv 2) pe_non))))))), ?_⟩
    have hst : start ["text", "outer", "parts", "at", "end", "count", "repetition"] [.str t] = [some (.str t), none, none, none, none, none, none] := rfl
    rw [hst]
    walk_at "rd"
    have hl : (tl t).length = t.length := Array.length_toList
    refine ⟨by walk_at "sz", fun p hp => ⟨by walk_at "sz", fun q hq => ?_⟩⟩
    refine ⟨RIn H t, ⟨_, 0, t.length + 1, p, q, [], [], .nil, H, none, none, none, rfl, rfl, Nat.zero_le _, by rw [← hl]; rfl, by omega, by decide, Lay.init hp hq⟩, ?_⟩
    rintro m σ H' ⟨i, k, p, q, as, os, ps, F, x4, x5, x6, rfl, rfl, hi, hrp, hk, h20, L⟩
    walk_at "rd"
    refine ⟨sz_of ht, ?_⟩
    have hao : as.length = os.length := L.op.len
    have hpl : SqL K H' p (as.reverse.map V.ref) := SqL.of L.hp
    by_cases hlt : i < t.length
    · rw [decide_eq_true (by omega : (i : Int) < (t.length : Int))]
      walk_at "rd"
      obtain ⟨c, hc⟩ : ∃ c, t.cps.toList[i]? = some c := ⟨_, List.getElem?_eq_getElem (by rw [Array.length_toList]; exact hlt)⟩
      have hdr : (tl t).drop i = c :: (tl t).drop (i + 1) := by
        obtain ⟨hi', e⟩ := List.getElem?_eq_some_iff.mp hc
        rw [List.drop_eq_getElem_cons (by omega)]
        congr 1
      obtain ⟨k, rfl⟩ : ∃ k', k = k' + 1 := ⟨k - 1, by omega⟩
      rw [hdr, rpF] at hrp
      refine ⟨fun σ' H'' => ∃ m', m' < t.length - i ∧ RIn H t m' σ' H'', fun _ _ h => h, ?_⟩
      refine ix_str_at ht (by omega) (by simpa using hc) ?_
      have e40 : decide (V.str ⟨#[c]⟩ = V.str (Str.ofString "(")) = decide (c = 40) := decide_eq_decide.mpr (by rw [V.str.injEq]; exact sg_eq c "(" 40 (by decide +kernel))
      have e41 : decide (V.str ⟨#[c]⟩ = V.str (Str.ofString ")")) = decide (c = 41) := decide_eq_decide.mpr (by rw [V.str.injEq]; exact sg_eq c ")" 41 (by decide +kernel))
      have fin : ∀ H1, Same F H1 → stp os ps c ((tl t).drop (i + 1)) = none → Q .non H1 := fun H1 s1 e => by
        rw [e] at hrp
        exact qn hrp.symm H1 (fun b u z => s1 b u (L.s0 b u z))
      refine ⟨rfl, ?_⟩
      rw [e40]
      by_cases c40 : c = 40
      · rw [decide_eq_true c40, if_pos rfl]
        refine ⟨.inl ⟨_, hpl⟩, _, _, _, rfl, rfl, L.hp, by simp only [List.length_map, List.length_reverse]; exact Nat.lt_of_le_of_lt (by omega : as.length ≤ 100000) (by decide), by walk_at "sz", fun r hr => ?_⟩
        rw [decide_eq_false (by omega), if_neg (by decide)]
        have L2 := L.opn hr
        have hpl2 : SqL K _ p (List.map V.ref (q :: as).reverse) := SqL.of (K := K) L2.hp
        refine ⟨_, .inl hpl2, ?_⟩
        simp only [List.length_map, List.length_reverse, List.length_cons]
        have es : stp os ps c ((tl t).drop (i + 1)) = if os.length + 1 ≤ 20 then some (ps :: os, .nil, (tl t).drop (i + 1)) else none := by unfold stp; rw [if_pos c40]
        by_cases hb : os.length + 1 ≤ 20
        · rw [decide_eq_false (by omega), if_neg (by decide)]
          rw [es, if_pos hb] at hrp
          refine ⟨t.length - (i + 1), by omega, i + 1, k, p, r, q :: as, ps :: os, .nil, F, some (.int (i + 1 : Nat)), x5, x6, rfl, rfl, by omega, hrp, by omega, hb, L2⟩
        · rw [decide_eq_true (by omega), if_pos rfl]
          exact fin _ L2.s1 (by rw [es, if_neg hb])
      rw [decide_eq_false c40, if_neg (by decide)]
      refine ix_str_at ht (by omega) (by simpa using hc) ⟨rfl, ?_⟩
      rw [e41]
      by_cases c41 : c = 41
      · rw [decide_eq_true c41, if_pos rfl]
        simp only [sp_end_of_run]
        have hii : i + 1 ≤ t.length := hlt
        have hle : runE isDig t.cps.toList (i + 1) ≤ t.length := by
          have := runE_le (p := isDig) (l := t.cps.toList) (a := i + 1) (by rw [Array.length_toList]; exact hii)
          rw [Array.length_toList] at this
          exact this
        have hge : i + 1 ≤ runE isDig t.cps.toList (i + 1) := Nat.le_add_right _ _
        refine ⟨t, Str.ofString "0123456789", i + 1, rfl, ht, by decide +kernel, hii, _, rfl, ?_⟩
        rw [mem_digits]
        refine ⟨t, rfl, sz_of ht, ?_⟩
        simp only [sp_read_integer]
        have hcut : tl (cutS t (some ((i : Int) + 1)) (some (runE isDig t.cps.toList (i + 1) : Nat))) = ((tl t).drop (i + 1)).takeWhile isDig := cut_run isDig hii
        refine ⟨_, rfl, Nat.le_trans (cutS_length _ _ _) ht, ?_, ?_⟩
        · rw [hcut]; exact List.all_takeWhile
        rw [hcut]
        have es := stp_close os ps ((tl t).drop (i + 1)) c41
        rw [rcount_rint] at es
        simp only [sp_has]
        cases ec : rint (((tl t).drop (i + 1)).takeWhile isDig) with
        | none =>
          rw [ec] at es
          refine ⟨_, rfl, .non, ?_⟩
          exact ⟨false, rfl, fin _ L.s1 es⟩
        | some n =>
          rw [ec] at es
          dsimp only at es
          refine ⟨_, rfl, .int _, ?_⟩
          have ei : isCountV (cntV (some n)) = decide (n ≤ 10 ^ 30) := by
            show (decide (0 ≤ (n : Int)) && decide ((n : Int) ≤ 10 ^ 30)) = _
            rw [decide_eq_true (by omega : (0 : Int) ≤ (n : Int)), Bool.true_and]
            exact decide_eq_decide.mpr (by omega)
          rw [ei]
          by_cases hc30 : n ≤ 10 ^ 30
          case neg =>
            rw [if_neg hc30] at es
            rw [decide_eq_false hc30]
            exact ⟨false, rfl, fin _ L.s1 es⟩
          rw [if_pos hc30] at es
          rw [decide_eq_true hc30]
          refine ⟨true, rfl, ?_⟩
          rw [Bool.not_true, if_neg (by decide)]
          refine ⟨_, .inl hpl, ?_⟩
          simp only [List.length_map, List.length_reverse]
          cases os with
          | nil =>
            rw [decide_eq_true (by rw [hao]; rfl), if_pos rfl]
            exact fin _ L.s1 es
          | cons o os =>
            cases as with
            | nil => cases hao
            | cons a as =>
              have h20' : os.length ≤ 20 := by rw [List.length_cons] at h20; omega
              simp only at es
              rw [if_pos h20'] at es
              rw [decide_eq_false (by rw [List.length_cons]; omega), if_neg (by decide)]
              refine ⟨by walk_at "sz", fun r hr => ?_⟩
              obtain ⟨vq, hq, _, _⟩ := L.hq
              obtain ⟨⟨va, ha, pa, la⟩, _⟩ := L.op
              have rp : p ≠ r := fun e => by rw [← e, L.hp] at hr; cases hr
              have ra : a ≠ r := fun e => by rw [← e, ha] at hr; cases hr
              have nd := L.nd
              simp only [List.nodup_cons, List.mem_cons, not_or] at nd
              have ap : a ≠ p := Ne.symm nd.1.2.1
              obtain ⟨F', L2⟩ := L.cls (r := r) (c := n) hr ha (by omega) (m := runE isDig t.cps.toList (i + 1)) hge
              have hp1 : upd H' r (.tup [.ref q, cntV (some n)]) p = some (.lst ((a :: as).reverse.map V.ref)) := by rw [upd_ne rp]; exact L.hp
              refine ⟨.inl ⟨_, SqL.of hp1⟩, p, _, .ref a, rfl, rfl, hp1, by simp, ?_⟩
              have ha2 : upd (upd H' r (.tup [.ref q, cntV (some n)])) p (.lst ((a :: as).reverse.map V.ref).dropLast) a = some (.lst va) := by rw [upd_ne ap, upd_ne ra]; exact ha
              refine ⟨.inl ⟨_, SqL.of ha2⟩, a, va, _, rfl, rfl, ha2, Nat.lt_of_le_of_lt (by omega : va.length ≤ 100000) (by decide), trivial, ?_⟩
              rw [decide_eq_false (by simp only [V.int.injEq]; omega), if_neg (by decide)]
              refine ⟨_, .inl (SqL.of L2.hp), ?_⟩
              have hao' : as.length = os.length := L2.op.len
              simp only [List.length_map, List.length_reverse]
              rw [decide_eq_false (by omega), if_neg (by decide)]
              rw [es] at hrp
              refine ⟨t.length - runE isDig t.cps.toList (i + 1), by omega, _, k, p, a, as, os, _, F', _, _, _, rfl, rfl, hle, ?_, by omega, h20', L2⟩
              rw [← hrp]
              exact congrArg _ (take_run isDig (tl t) (i + 1)).2
      · rw [decide_eq_false c41, if_neg (by decide)]
        simp only [sp_end_of_run]
        walk_at "rd"
        have hle : runE isStep t.cps.toList i ≤ t.length := by
          have := runE_le (p := isStep) (l := t.cps.toList) (a := i) (by rw [Array.length_toList]; exact hi)
          rw [Array.length_toList] at this
          exact this
        obtain ⟨vq, hq, _, lq⟩ := L.hq
        refine ⟨Str.ofString "abcdefghijklmnopqrstuvwxyz-", i, rfl, rfl, ht, by decide +kernel, hi, .inl ⟨_, SqL.of hq⟩, ?_⟩
        rw [mem_steps]
        refine ⟨t, rfl, sz_of ht, q, vq, _, rfl, rfl, hq, Nat.lt_of_le_of_lt (by omega : vq.length ≤ 100000) (by decide), ?_⟩
        have es : stp os ps c ((tl t).drop (i + 1)) = if isStep c then (if os.length ≤ 20 then some (os, ps.app (.seq ((c :: (tl t).drop (i + 1)).takeWhile isStep) .nil), (c :: (tl t).drop (i + 1)).dropWhile isStep) else none) else none := by
          conv => lhs; unfold stp
          rw [if_neg c40, if_neg c41]
        have hcut : tl (cutS t (some (i : Int)) (some (runE isStep t.cps.toList i : Nat))) = ((tl t).drop i).takeWhile isStep := cut_run isStep hi
        by_cases hsc : isStep c = true
        · have hgo : runE isStep t.cps.toList (i + 1) = runE isStep t.cps.toList i := runE_go hc hsc
          have hge : i + 1 ≤ runE isStep t.cps.toList i := by rw [← hgo]; exact Nat.le_add_right _ _
          have L2 := L.add (s := cutS t (some (i : Int)) (some (runE isStep t.cps.toList i : Nat))) hq hge
          rw [decide_eq_false (by omega)]
          refine ⟨_, .inl (SqL.of L2.hp), ?_⟩
          simp only [List.length_map, List.length_reverse]
          rw [decide_eq_false (by omega), if_neg (by decide)]
          rw [if_pos hsc, if_pos h20] at es
          rw [es] at hrp
          refine ⟨t.length - runE isStep t.cps.toList i, by omega, _, k, p, q, as, os, _, F, _, _, _, rfl, rfl, hle, ?_, by omega, h20, L2⟩
          rw [← hrp, hcut, hdr]
          have := (take_run isStep (tl t) i).2
          rw [hdr] at this
          exact congrArg _ this
        · have hst2 : runE isStep t.cps.toList i = i := runE_stop hc (by simpa using hsc)
          rw [decide_eq_true (by rw [hst2])]
          rw [if_neg hsc] at es
          exact fin _ (same_mut L.s1 (L.fr q (by simp))) es
    · rw [decide_eq_false (by omega : ¬ (i : Int) < (t.length : Int))]
      walk_at "rd"
      refine ⟨_, .inl hpl, ?_⟩
      simp only [List.length_map, List.length_reverse]
      have hdr : (tl t).drop i = [] := List.drop_eq_nil_of_le (by omega)
      obtain ⟨k, rfl⟩ : ∃ k', k = k' + 1 := ⟨k - 1, by omega⟩
      rw [hdr, rpF] at hrp
      have s1 : Same H H' := L.s0.trans L.s1
      by_cases h0 : os.length = 0
      · rw [decide_eq_true (by omega), if_pos rfl]
        rw [if_pos h0] at hrp
        obtain ⟨vq, hq, pq, lq⟩ := L.hq
        exact qs ps hrp.symm q H' s1 (L.free (by simp)) ⟨vq, hq, by omega, pq.mono L.s1⟩
      · rw [decide_eq_false (by omega), if_neg (by decide)]
        rw [if_neg h0] at hrp
        exact qn hrp.symm H' s1
/-! ### parts_of -/
def progV : V → Option Parts
  | .str t => rpt (tl t)
  | _ => none
def sp_parts_of (K : PySem.W.Frag) (C : Addr) : Sp := fun vs H Q E => ∃ x, vs = [x] ∧ Kd K H x ∧ (progV x = none → ∀ H1, Same H H1 → E (.ref C) none H1) ∧
  ∀ ps, progV x = some ps → ∀ p H1, Same H H1 → H p = none → PartsAt H1 p ps → Q (.ref p) H1
theorem ok_parts_of (T : Top K mg) : FnOk P w K mg base (L2.CX P w) 5 T.a_parts_of T.d_parts_of ["program"] (sp_parts_of K T.x_InvalidProgram) := by
  have G_read_parts := ok_read_parts (w := w) (base := base) T
  refine T.F_parts_of.okX sc_parts_of (fun vs H Q E h => ?_) (fun cdv A outer s H vs Q E hr h => ?_)
  · obtain ⟨x, rfl, _⟩ := h
    rfl
  · obtain ⟨x, rfl, kx, hE, q⟩ := h
    refine ⟨_, (pss_cons (ps_set (i := 1) sc_parts_of.nd rfl (Or.inl rfl) (pe_ifExp (pt_val (pe_callB call_isi (by rfl) T.z_isinstance (by decide +kernel) (pa_cons (pv 0) (pa_cons (pe_bltn (v := .ty "str") (by rfl) T.z_str (by decide +kernel) rfl) pa_nil)))) (pe_call G_read_parts (hr.mono (by first | decide | omega)) rfl T.m_read_parts T.F_read_parts.kp T.b_read_parts .nil pass0 (pa_cons (pv 0) pa_nil)) pe_non))
      (pss_cons (ps_if (pt_cmpR op_isN (pv 1) pe_non (nomark _)) (pss_one (ps_raise rfl (takes_of rfl rfl rfl rfl) (pmk_own PySem.F.excBase_ValueError T.q_InvalidProgram T.g_InvalidProgram T.k_InvalidProgram (raises_own T.b_InvalidProgram T.t_InvalidProgram) rfl))) pss_nil)
      (pss_one (ps_ret (pv 1))))), ?_⟩
    have hst : start ["program", "parts"] [x] = [some x, none] := rfl
    rw [hst]
    walk_at "rd"
    simp only [sp_read_parts]
    refine isi_str kx ⟨_, rfl, ?_⟩
    cases kx with
    | str z hz =>
      refine (if_pos rfl).mpr ⟨z, rfl, hz, fun e H1 s1 => ?_, fun ps e p H1 s1 hn hp => ?_⟩
      · walk_at "rd"
        exact hE e H1 s1
      · rw [decide_eq_false (by simp), if_neg (by decide)]
        exact q ps e p H1 s1 hn hp
    | _ => exact hE rfl H (fun _ _ h => h)

/-! ### how much is read -/
def volS : List Parts → Nat
  | [] => 0
  | o :: os => o.vol + volS os
theorem stp_vol {os ps c r os' ps' r'} (h : stp os ps c r = some (os', ps', r')) : volS os' + ps'.vol + r'.length ≤ volS os + ps.vol + (r.length + 1) := by
  unfold stp at h
  have d1 := len_dropWhile isDig r
  have d2 : ((c :: r).takeWhile isStep).length + ((c :: r).dropWhile isStep).length = r.length + 1 := by
    rw [← List.length_append, List.takeWhile_append_dropWhile]; rfl
  split at h
  · split at h
    · simp only [Option.some.injEq, Prod.mk.injEq] at h
      obtain ⟨rfl, rfl, rfl⟩ := h
      simp only [volS, Parts.vol]; omega
    · cases h
  · split at h
    · split at h
      · split at h
        · simp only [Option.some.injEq, Prod.mk.injEq] at h
          obtain ⟨rfl, rfl, rfl⟩ := h
          simp only [volS, Parts.vol_app, Parts.vol]; omega
        · cases h
      · cases h
    · split at h
      · split at h
        · simp only [Option.some.injEq, Prod.mk.injEq] at h
          obtain ⟨rfl, rfl, rfl⟩ := h
          simp only [Parts.vol_app, Parts.vol]; omega
        · cases h
      · cases h
theorem rpF_vol : ∀ {k os ps r q}, rpF k os ps r = some q → q.vol ≤ volS os + ps.vol + r.length
  | 0, _, _, _, _, h => by cases h
  | _ + 1, os, ps, [], q, h => by
    rw [rpF] at h
    split at h
    · cases h; omega
    · cases h
  | k + 1, os, ps, c :: r, q, h => by
    rw [rpF] at h
    split at h
    · cases h
    · rename_i os' ps' r' e
      have h1 := stp_vol e
      have h2 := rpF_vol h
      rw [List.length_cons]; omega
theorem rpt_vol {t : List Nat} {q : Parts} (h : rpt t = some q) : q.vol ≤ t.length := by
  have := rpF_vol h
  simpa [volS, Parts.vol] using this

def sp_depth (n : Nat) : Sp := fun vs H Q _ => ∃ (p : Addr) (ps : Parts), vs = [.ref p] ∧ PartsAt H p ps ∧ ps.dep < n ∧ ps.vol ≤ 100000 ∧ Q (.int (ps.dep : Nat)) H
theorem rec_depth (T : Top K mg) : ∀ n : Nat, FnOk P w K mg base CX0 (n + 1) T.a_depth_of T.d_depth_of ["parts"] (sp_depth n)
  | 0 => by
    refine T.F_depth_of.ok sc_depth_of (fun vs H Q E h => ?_) (fun cdv A outer s H vs Q E hr h => ?_)
    · obtain ⟨p, ps, rfl, _⟩ := h
      rfl
    · obtain ⟨p, ps, rfl, _, h, _⟩ := h
      exact absurd h (Nat.not_lt_zero _)
  | n + 1 => by
    have G_depth_of := rec_depth T n
    refine T.F_depth_of.ok sc_depth_of (fun vs H Q E h => ?_) (fun cdv A outer s H vs Q E hr h => ?_)
    · obtain ⟨p, ps, rfl, _⟩ := h
      rfl
    · obtain ⟨p, ps, rfl, ⟨xs, hp, hxs, hvs⟩, hd, hvol, q⟩ := h
      refine ⟨_, (pss_cons (ps_set (i := 1) sc_depth_of.nd rfl (Or.inl rfl) pe_int)
      (pss_cons (ps_for PassesOwn.never rfl (pi_list (pv 0)) (pg_name (i := 2) sc_depth_of.nd rfl (Or.inl rfl)) (pss_one (ps_if (pt_not (pt_val (pe_callB call_isi (by rfl) T.z_isinstance (by decide +kernel) (pa_cons (pv 2) (pa_cons (pe_bltn (v := .ty "str") (by rfl) T.z_str (by decide +kernel) rfl) pa_nil))))) (pss_cons (ps_asg (pv 2) (pg_tup (by rfl) (pgs_cons (pg_name (i := 3) sc_depth_of.nd rfl (Or.inl rfl)) (pgs_cons (pg_name (i := 4) sc_depth_of.nd rfl (Or.inl rfl)) pgs_nil))))
      (pss_one (ps_set (i := 1) sc_depth_of.nd rfl (Or.inl rfl) (pe_callB (call_max2 rfl) (by rfl) T.z_max (by decide +kernel) (pa_cons (pv 1) (pa_cons (pe_op op_add (pe_call G_depth_of (hr.mono (by first | decide | omega)) rfl T.m_depth_of T.F_depth_of.kp T.b_depth_of .nil pass0 (pa_cons (pv 3) pa_nil)) pe_int) pa_nil)))))) pss_nil)))
      (pss_one (ps_ret (pv 1))))), ?_⟩
      have hst : start ["parts", "depth", "part", "body", "_"] [.ref p] = [some (.ref p), none, none, none, none] := rfl
      rw [hst]
      walk_at "rd"
      refine forL fun R kR => ?_
      walk_at "rd"
      refine kR p xs (fun i σ H1 => H1 = H ∧ ∃ (sz : Nat) (ps' : Parts) (x2 x3 x4 : Option V), σ = [some (.ref p), some (.int sz), x2, x3, x4] ∧ PVs H (xs.drop i) ps' ∧ max sz ps'.dep = ps.dep ∧ ps'.vol ≤ 100000)
        H (SqL.of hp) ⟨rfl, 0, ps, _, _, _, rfl, hvs, by omega, hvol⟩ (fun i σ H1 _ h => by rw [h.1]; exact SqL.of hp) ?_ ?_
      · rintro i x σ H1 hx ⟨rfl, sz, ps', x2, x3, x4, rfl, pv', hsz, hvol'⟩
        obtain ⟨hi, ex⟩ := List.getElem?_eq_some_iff.mp hx
        rw [List.drop_eq_getElem_cons hi, ex] at pv'
        walk_at "rd"
        cases pv' with
        | seq pr =>
          rename_i s0 r0
          rw [Parts.vol] at hvol'
          rw [Parts.dep] at hsz
          have hs0 : (tl s0).length = s0.length := tl_len s0
          refine isi_str (.str _ (by omega)) ?_
          simp only [tStr]
          walk_at "rd"
          exact ⟨sz, rfl, ⟨_, rfl⟩, ⟨_, rfl⟩, ⟨_, rfl⟩, r0, pr, hsz, by omega⟩
        | rep h1 h2 h3 hb pr =>
          rename_i q0 p0 n0 vb b0 r0
          rw [Parts.dep] at hsz
          refine isi_str (kd_tup h1) ?_
          simp only [tStr]
          walk_at "rd"
          refine ⟨[.ref p0, .int n0], SqT.of h1, rfl, ?_⟩
          simp only [gCons, gNil]
          walk_at "rd"
          rw [Parts.vol] at hvol'
          simp only [sp_depth]
          refine ⟨p0, b0, rfl, ⟨vb, h2, h3, hb⟩, by omega, by omega, _, rfl, trivial, max sz (b0.dep + 1), ?_, ⟨_, rfl⟩, ⟨_, rfl⟩, ⟨_, rfl⟩, r0, pr, by omega, by omega⟩
          split <;> omega
      · rintro σ H1 ⟨rfl, sz, ps', x2, x3, x4, rfl, pv', hsz, hvol'⟩
        rw [List.drop_length] at pv'
        cases pv'
        walk_at "rd"
        rw [show ps.dep = sz from by rw [← hsz, Parts.dep]; omega] at q
        exact q
theorem ok_depth_of (T : Top K mg) : FnOk P w K mg base CX0 22 T.a_depth_of T.d_depth_of ["parts"] (sp_depth 21) := rec_depth T 21
def sp_check_count (K : PySem.W.Frag) (CI : Addr) : Sp := fun vs H Q E => ∃ c, vs = [c] ∧ Kd K H c ∧ (isCountV c = false → E (.ref CI) none H) ∧ (isCountV c = true → Q .non H)
theorem ok_check_count (T : Top K mg) : FnOk P w K mg base (L2.CX P w) 4 T.a_check_count T.d_check_count ["value"] (sp_check_count K T.x_InvalidInteger) := by
  have G_is_count := ok_is_count (w := w) (base := base) T
  refine T.F_check_count.okX sc_check_count (fun vs H Q E h => ?_) (fun cdv A outer s H vs Q E hr h => ?_)
  · obtain ⟨c, rfl, _⟩ := h
    rfl
  · obtain ⟨c, rfl, kc, e1, q⟩ := h
    refine ⟨_, (pss_one (ps_if (pt_not (pt_val (pe_call G_is_count (hr.mono (by first | decide | omega)) rfl T.m_is_count T.F_is_count.kp T.b_is_count .nil pass0 (pa_cons (pv 0) pa_nil)))) (pss_one (ps_raise rfl (takes_of rfl rfl rfl rfl) (pmk_own PySem.F.excBase_ValueError T.q_InvalidInteger T.g_InvalidInteger T.k_InvalidInteger (raises_own T.b_InvalidInteger T.t_InvalidInteger) rfl))) pss_nil)), ?_⟩
    have hst : start ["value"] [c] = [some c] := rfl
    rw [hst]
    walk_at "rd"
    simp only [sp_has]
    walk_at "rd"
    refine ⟨kc, ?_⟩
    cases hc : isCountV c with
    | false => exact e1 hc
    | true => exact q hc

def repS (t : Str) (n : Int) : Str := Str.ofString "(" ++ t ++ Str.ofString ")" ++ Str.ofString (toString n)
def sp_repeat (K : PySem.W.Frag) (CP CI CL : Addr) : Sp := fun vs H Q E => ∃ x c, vs = [x, c] ∧ Kd K H x ∧ Kd K H c ∧ (∀ t, x = .str t → t.length ≤ 10000) ∧
  (progV x = none → ∀ H1, Same H H1 → E (.ref CP) none H1) ∧
  (∀ ps, progV x = some ps → isCountV c = false → ∀ H1, Same H H1 → E (.ref CI) none H1) ∧
  (∀ ps, progV x = some ps → isCountV c = true → 20 < ps.dep + 1 → ∀ H1, Same H H1 → ∀ d, H1 d = none → E (.ref CL) (some d) (upd H1 d (.xd [("size", .int (ps.dep + 1 : Nat))]))) ∧
  (∀ t n ps, x = .str t → c = .int n → progV x = some ps → isCountV c = true → ps.dep + 1 ≤ 20 → ∀ H1, Same H H1 → Q (.str (repS t n)) H1)
theorem ok_repeat (T : Top K mg) : FnOk P w K mg base (L2.CX P w) 23 T.a_repeat T.d_repeat ["program", "count"] (sp_repeat K T.x_InvalidProgram T.x_InvalidInteger T.x_LimitExceeded) := by
  have G_parts_of := ok_parts_of (w := w) (base := base) T
  have G_check_count := ok_check_count (w := w) (base := base) T
  have G_depth_of := ok_depth_of (w := w) (base := base) T
  refine T.F_repeat.okX sc_repeat (fun vs H Q E h => ?_) (fun cdv A outer s H vs Q E hr h => ?_)
  · obtain ⟨x, c, rfl, _⟩ := h
    rfl
  · obtain ⟨x, c, rfl, kx, kc, hx, e1, e2, e3, q⟩ := h
    refine ⟨_, (pss_cons (ps_set (i := 2) sc_repeat.nd rfl (Or.inl rfl) (pe_callS G_parts_of (hr.mono (by first | decide | omega)) rfl T.m_parts_of T.F_parts_of.kp T.b_parts_of (fun σ => passAt (takes_of rfl rfl rfl rfl) σ) (pa_cons (pv 0) pa_nil)))
      (pss_cons (ps_expr (pe_callS G_check_count (hr.mono (by first | decide | omega)) rfl T.m_check_count T.F_check_count.kp T.b_check_count (fun σ => passAt (takes_of rfl rfl rfl rfl) σ) (pa_cons (pv 1) pa_nil)))
      (pss_cons (ps_set (i := 3) sc_repeat.nd rfl (Or.inl rfl) (pe_op op_add (pe_call G_depth_of (hr.mono (by first | decide | omega)) rfl T.m_depth_of T.F_depth_of.kp T.b_depth_of .nil pass0 (pa_cons (pv 2) pa_nil)) pe_int))
      (pss_cons (ps_if (pt_cmpR op_gt (pv 3) (pe_glob (v := .int 20) (by rfl) T.c_MOST_DEPTH ⟨_, rfl⟩) (nomark _)) (pss_one (ps_raise rfl (takes_of rfl rfl rfl rfl) (pmk_LimitExceeded PySem.F.excBase_OverflowError PySem.W.kxs_OverflowError PySem.F.store_OverflowError T.E_LimitExceeded htopP hr (by exact (pa_cons (pv 3) pa_nil)) rfl))) pss_nil)
      (pss_one (ps_ret (pe_joined (.cons pe_str (.cons (pe_fmt (pv 0)) (.cons pe_str (.cons (pe_fmt (pv 1)) .nil))))))))))), ?_⟩
    have hst : start ["program", "count", "parts", "depth"] [x, c] = [some x, some c, none, none] := rfl
    rw [hst]
    walk_at "rd"
    simp only [tCallS, sp_parts_of]
    walk_at "rd"
    refine ⟨kx, fun e H1 s1 => e1 e H1 s1, fun ps e p H1 s1 hn hp => ?_⟩
    simp only [sp_check_count]
    walk_at "rd"
    refine ⟨kd_mono s1 kc, fun hc => e2 ps e hc H1 s1, fun hc => ?_⟩
    walk_at "rd"
    obtain ⟨t, rfl⟩ : ∃ t, x = .str t := by
      cases x with
      | str t => exact ⟨t, rfl⟩
      | _ => cases e
    obtain ⟨n, rfl⟩ : ∃ n, c = .int n := by
      cases c with
      | int n => exact ⟨n, rfl⟩
      | _ => cases hc
    have hdk := rpt_deep (t := tl t) e
    have hvl := rpt_vol (t := tl t) e
    have ht := hx t rfl
    have htl := tl_len t
    simp only [sp_depth]
    refine ⟨p, ps, rfl, hp, by omega, by omega, _, rfl, ?_⟩
    by_cases hb : 20 < ps.dep + 1
    · rw [decide_eq_true (by omega), if_pos rfl]
      simp only [PySem.SupX.tMk1]
      walk_at "rd"
      exact e3 ps e hc hb H1 s1
    · rw [decide_eq_false (by omega), if_neg (by decide)]
      simp only [tJs, tFmt]
      walk_at "rd"
      have la : ∀ x y : Str, (x ++ y).length = x.length + y.length := fun x y => by rw [← tl_len, ← tl_len, ← tl_len, tl_app, List.length_append]
      have big : ∀ k : Nat, k ≤ 100000 → k ≤ sizeLine := fun k h => sz_of h
      have e0 : Str.empty ++ Str.ofString "(" = Str.ofString "(" := by decide +kernel
      have gD : (Str.ofString "(").length = 1 := by decide +kernel
      have gE : (Str.ofString ")").length = 1 := by decide +kernel
      simp only [isCountV, Bool.and_eq_true, decide_eq_true_eq] at hc
      obtain ⟨k, rfl⟩ : ∃ k : Nat, n = k := ⟨n.toNat, by omega⟩
      have hk : k ≤ 10 ^ 30 := by exact_mod_cast hc.2
      have lk : (Str.ofString (toString (k : Int))).length ≤ 31 := by
        rw [← tl_len, show tl (Str.ofString (toString (k : Int))) = digs k from PySem.W.KIN.signs_num k]
        exact digs_lt (by decide) (Nat.lt_of_le_of_lt hk (by decide))
      rw [e0]
      refine ⟨big _ (by omega), big _ (by omega), big _ (by rw [la]; omega), big _ (by rw [la, la]; omega), ?_, big _ (by rw [la, la, la]; omega), q t k ps rfl rfl e ?_ (by omega) H1 s1⟩
      · rw [Int.natAbs_natCast]
        by_cases hz0 : k = 0
        · rw [hz0]; decide
        · exact (Nat.log2_lt hz0).mpr (Nat.lt_of_le_of_lt hk (by decide +kernel))
      · simp only [isCountV, Bool.and_eq_true, decide_eq_true_eq]; exact hc

/-! ### profiles: the defs -/
def isNatV : V → Bool | .int i => decide (0 ≤ i) | _ => false
def isNonposV : V → Bool | .int i => decide (i ≤ 0) | _ => false
theorem ok_is_natural (T : Top K mg) : FnOk P w K mg base CX0 2 T.a_is_natural T.d_is_natural ["value"] (sp_has K isNatV) := by
  have G_is_int := ok_is_int (w := w) (base := base) T
  refine T.F_is_natural.ok sc_is_natural (fun vs H Q E h => ?_) (fun cdv A outer s H vs Q E hr h => ?_)
  · obtain ⟨x, rfl, _⟩ := h
    rfl
  · obtain ⟨x, rfl, kx, q⟩ := h
    refine ⟨_, (pss_one (ps_ret (pe_and (pe_call G_is_int (hr.mono (by first | decide | omega)) rfl T.m_is_int T.F_is_int.kp T.b_is_int .nil pass0 (pa_cons (pv 0) pa_nil)) (pe_one (pe_cmpR op_ge (pv 0) pe_int (nomark _)))))), ?_⟩
    have hst : start ["value"] [x] = [some x] := rfl
    rw [hst]
    walk_at "rd"
    simp only [sp_is_int]
    walk_at "rd"
    refine ⟨kx, ?_⟩
    cases x <;> simp only [isIntV] <;> walk_at "rd" <;> exact q
def sp_init (K : PySem.W.Frag) (C CI : Addr) : Sp := fun vs H Q E => ∃ (x : Addr) (a b l h f : V) (dx : Addr), vs = [.ref x, a, b, l, h, f] ∧ H x = some (.ins C dx []) ∧ Kd K H a ∧ Kd K H b ∧ Kd K H l ∧ Kd K H h ∧ Kd K H f ∧
  (∀ p : Prf, a = .int p.puts → b = .int p.takes → l = .int p.low → h = .int p.high → f = .int p.fall → (isNatV a && isNatV b && isNatV h && isNatV f && isNonposV l) = true → ∀ H1, (∀ c o, c ≠ x → H c = some o → H1 c = some o) → H1 x = some (.ins C dx (pfl p)) → Q .non H1) ∧
  ((isNatV a && isNatV b && isNatV h && isNatV f && isNonposV l) = false → ∀ H1, Same H H1 → E (.ref CI) none H1)
theorem ok_Profile_init (T : Top K mg) : FnOk P w K mg base (L2.CX P w) 3 T.a_Profile_init T.d_Profile_init ["self", "puts", "takes", "low", "high", "fall"] (sp_init K T.x_Profile T.x_InvalidInteger) := by
  have G_is_int := ok_is_int (w := w) (base := base) T
  have G_is_natural := ok_is_natural (w := w) (base := base) T
  refine T.F_Profile_init.okX sc_Profile_init (fun vs H Q E h => ?_) (fun cdv A outer s H vs Q E hr h => ?_)
  · obtain ⟨x, a, b, l, hh, f, dx, rfl, _⟩ := h
    rfl
  · obtain ⟨x, a, b, l, hh, f, dx, rfl, hx, ka, kb, kl, kh, kf, q, qe⟩ := h
    refine ⟨_, (pss_cons (ps_if (pt_not (pt_val (pe_callB (cr_all rfl) (by rfl) T.z_all (by decide +kernel) (pa_cons (pe_lc (own := [("number", 6)]) (g := gName 6) (tt := tYes) (by rfl) sc_Profile_init.nd (pi_tup (pe_tup (pa_cons (pv 1) (pa_cons (pv 2) (pa_cons (pv 4) (pa_cons (pv 5) pa_nil)))))) (blkOk_by (own := [("number", 6)]) (N := ["self", "puts", "takes", "low", "high", "fall", "number"]) (sc := defScope s_Profile_init) (by decide +kernel)) (fun _ _ _ _ _ => pg_name (i := 6) sc_Profile_init.nd rfl (Or.inl rfl)) (fun _ _ _ _ _ => pts_nil) (fun _ _ _ _ _ => (pe_call G_is_natural (hr.mono (by first | decide | omega)) rfl T.m_is_natural T.F_is_natural.kp T.b_is_natural .nil pass0 (pa_cons (pv 6) pa_nil)))) pa_nil)))) (pss_one (ps_raise rfl (takes_of rfl rfl rfl rfl) (pmk_own PySem.F.excBase_ValueError T.q_InvalidInteger T.g_InvalidInteger T.k_InvalidInteger (raises_own T.b_InvalidInteger T.t_InvalidInteger) rfl))) pss_nil)
      (pss_cons (ps_if (PW.pt (pw_or (pt_not (pt_val (pe_call G_is_int (hr.mono (by first | decide | omega)) rfl T.m_is_int T.F_is_int.kp T.b_is_int .nil pass0 (pa_cons (pv 3) pa_nil)))) (pw_or1 (pt_cmpR op_gt (pv 3) pe_int (nomark _))))) (pss_one (ps_raise rfl (takes_of rfl rfl rfl rfl) (pmk_own PySem.F.excBase_ValueError T.q_InvalidInteger T.g_InvalidInteger T.k_InvalidInteger (raises_own T.b_InvalidInteger T.t_InvalidInteger) rfl))) pss_nil)
      (pss_cons (ps_fld (pv 0) (pv 1) rfl)
      (pss_cons (ps_fld (pv 0) (pv 2) rfl)
      (pss_cons (ps_fld (pv 0) (pv 3) rfl)
      (pss_cons (ps_fld (pv 0) (pv 4) rfl)
      (pss_one (ps_fld (pv 0) (pv 5) rfl)))))))), ?_⟩
    have hst : start ["self", "puts", "takes", "low", "high", "fall", "number"] [.ref x, a, b, l, hh, f] = [some (.ref x), some a, some b, some l, some hh, some f, none] := rfl
    rw [hst]
    walk_at "rd"
    refine lcT fun R kR => ?_
    walk_at "rd"
    refine ⟨by walk_at "sz", fun p hp => ?_⟩
    have s0 : Same H (upd H p (.tup [a, b, hh, f])) := same_new hp _
    refine kR p [a, b, hh, f] _ (SqT.of upd_same) fun D hD => ⟨fun i H' => i ≤ 4 ∧ Same (upd H p (.tup [a, b, hh, f])) H' ∧ H' D = some (.lst (([a, b, hh, f].take i).map (fun v => V.bl (isNatV v)))), ⟨by decide, same_new hD _, by rw [upd_same]; rfl⟩, fun i H' _ h => SqT.of (h.2.1 _ _ upd_same), ?_, ?_⟩
    · rintro i y H' hy ⟨hi4, s1, hD1⟩
      have ky : Kd K H' y := kd_mono (s0.trans s1) (by
        have hm : y ∈ [a, b, hh, f] := List.mem_of_getElem? hy
        simp only [List.mem_cons, List.not_mem_nil, or_false] at hm
        rcases hm with rfl | rfl | rfl | rfl <;> assumption)
      have hi : i < 4 := (List.getElem?_eq_some_iff.mp hy).1
      walk_at "wp"
      walk_at "rd"
      simp only [sp_has]
      walk_at "rd"
      refine ⟨ky, _, hD1, ?_, by omega, same_mut s1 hD, ?_⟩
      · rw [List.length_map, List.length_take]
        exact Nat.lt_of_le_of_lt (Nat.min_le_left _ _) (Nat.lt_of_le_of_lt (by omega : i ≤ 100000) (by decide))
      · rw [upd_same, List.take_add_one, hy, List.map_append]; rfl
    · rintro H' ⟨_, s1, hD1⟩
      have sH : Same H H' := s0.trans s1
      refine ⟨D, [isNatV a, isNatV b, isNatV hh, isNatV f], rfl, SqL.of hD1, _, rfl, ?_⟩
      have eb : ([isNatV a, isNatV b, isNatV hh, isNatV f].all id) = (isNatV a && isNatV b && isNatV hh && isNatV f) := by simp [Bool.and_assoc]
      rw [eb]
      cases hn : (isNatV a && isNatV b && isNatV hh && isNatV f) with
      | false =>
        rw [Bool.not_false, if_pos rfl]
        exact qe (by rw [hn]; rfl) H' sH
      | true =>
        rw [Bool.not_true, if_neg (by decide)]
        simp only [sp_is_int]
        walk_at "rd"
        refine ⟨kd_mono sH kl, ?_⟩
        cases l with
        | int l0 =>
          simp only [isIntV]
          walk_at "rd"
          by_cases hl : 0 < l0
          · rw [decide_eq_true hl, if_pos rfl]
            exact qe (by rw [hn]; simp only [isNonposV]; rw [decide_eq_false (by omega)]; rfl) H' sH
          · rw [decide_eq_false hl, if_neg (by decide)]
            simp only [Bool.and_eq_true] at hn
            obtain ⟨⟨⟨na, nb⟩, nh⟩, nf⟩ := hn
            cases a with
            | int a0 =>
              cases b with
              | int b0 =>
                cases hh with
                | int h0 =>
                  cases f with
                  | int f0 =>
                    have hx1 := sH _ _ hx
                    refine ⟨_, _, _, hx1, T.cl_Profile, T.n_Profile_puts, by decide, _, _, _, upd_same, T.cl_Profile, T.n_Profile_takes, Nat.lt_of_le_of_lt (putF_len _ _ _) (by decide), _, _, _, upd_same, T.cl_Profile, T.n_Profile_low, Nat.lt_of_le_of_lt (putF_len _ _ _) (Nat.lt_of_le_of_lt (Nat.succ_le_succ (putF_len _ _ _)) (by decide)),
                      _, _, _, upd_same, T.cl_Profile, T.n_Profile_high, Nat.lt_of_le_of_lt (putF_len _ _ _) (Nat.lt_of_le_of_lt (Nat.succ_le_succ (Nat.le_trans (putF_len _ _ _) (Nat.succ_le_succ (putF_len _ _ _)))) (by decide)),
                      _, _, _, upd_same, T.cl_Profile, T.n_Profile_fall, Nat.lt_of_le_of_lt (putF_len _ _ _) (Nat.lt_of_le_of_lt (Nat.succ_le_succ (Nat.le_trans (putF_len _ _ _) (Nat.succ_le_succ (Nat.le_trans (putF_len _ _ _) (Nat.succ_le_succ (putF_len _ _ _)))))) (by decide)), ?_⟩
                    refine q ⟨a0, b0, l0, h0, f0⟩ rfl rfl rfl rfl rfl (by rw [na, nb, nh, nf]; simp only [isNonposV]; rw [decide_eq_true (by omega)]; rfl) _ (fun c o hc e => ?_) ?_
                    · rw [upd_ne hc, upd_ne hc, upd_ne hc, upd_ne hc, upd_ne hc]; exact sH _ _ e
                    · rw [upd_same, pfl_put]
                  | _ => cases nf
                | _ => cases nh
              | _ => cases nb
            | _ => cases na
        | _ =>
          simp only [isIntV]
          walk_at "rd"
          exact qe (by simp [isNonposV]) H' sH
theorem mkp0 {K : PySem.W.Frag} {C CI : Addr} {H : Hp} {Q : Addr → Hp → Prop} {E : XK} {a b l h f : Int} (p : Prf) (ha : a = p.puts) (hb : b = p.takes) (hl : l = p.low) (hh : h = p.high) (hf : f = p.fall) (ok : 0 ≤ p.puts ∧ 0 ≤ p.takes ∧ p.low ≤ 0 ∧ 0 ≤ p.high ∧ 0 ≤ p.fall)
    (q : ∀ x H1, Same H H1 → H x = none → ProfAt C H1 x p → Q x H1) :
    ∀ x dx, H x = none → H dx = none → dx ≠ x → sp_init K C CI [.ref x, .int a, .int b, .int l, .int h, .int f] (upd (upd H dx (.own x)) x (.ins C dx [])) (fun v H2 => v = .non ∧ Q x H2) E := by
  intro x dx hx hd _
  subst ha; subst hb; subst hl; subst hh; subst hf
  refine ⟨x, _, _, _, _, _, dx, rfl, upd_same, .int _, .int _, .int _, .int _, .int _, fun p' e1 e2 e3 e4 e5 _ H1 s1 hx1 => ⟨rfl, ?_⟩, fun hn => ?_⟩
  · have e : p' = p := Prf.ext (by injection e1 with e; exact e.symm) (by injection e2 with e; exact e.symm) (by injection e3 with e; exact e.symm) (by injection e4 with e; exact e.symm) (by injection e5 with e; exact e.symm)
    subst e
    refine q x H1 (fun c o e => s1 c o (ne_of_none e hx) (made hx hd c o e)) hx ⟨dx, hx1⟩
  · obtain ⟨p0, t0, l0, h0, f0⟩ := ok
    simp only [isNatV, isNonposV, decide_eq_true p0, decide_eq_true t0, decide_eq_true h0, decide_eq_true f0, decide_eq_true l0] at hn
    cases hn
theorem mkp {K : PySem.W.Frag} {C CI : Addr} {H : Hp} {Q : Addr → Hp → Prop} {E : XK} {a b l h f : Int} (p : Prf) (ha : a = p.puts) (hb : b = p.takes) (hl : l = p.low) (hh : h = p.high) (hf : f = p.fall) (ok : p.Ok) (q : ∀ x H1, Same H H1 → H x = none → ProfAt C H1 x p → Q x H1) :
    ∀ x dx, H x = none → H dx = none → dx ≠ x → sp_init K C CI [.ref x, .int a, .int b, .int l, .int h, .int f] (upd (upd H dx (.own x)) x (.ins C dx [])) (fun v H2 => v = .non ∧ Q x H2) E :=
  mkp0 p ha hb hl hh hf ⟨ok.p0, ok.t0, ok.l0, ok.h0, by have := ok.f2; have := ok.l0; omega⟩ q
/-! ### the properties -/
def sp_prop (C : Addr) (g : Prf → Int) : Sp := fun vs H Q _ => ∃ (x : Addr) (p : Prf), vs = [.ref x] ∧ ProfAt C H x p ∧ Q (.int (g p)) H
theorem ok_Profile_puts (T : Top K mg) : FnOk P w K mg base CX0 1 T.a_Profile_puts T.d_Profile_puts ["self"] (sp_prop T.x_Profile Prf.puts) := by
  refine T.F_Profile_puts.ok sc_Profile_puts (fun vs H Q E h => ?_) (fun cdv A outer s H vs Q E hr h => ?_)
  · obtain ⟨x, p, rfl, _⟩ := h
    rfl
  · obtain ⟨x, p, rfl, ⟨dx, hx⟩, q⟩ := h
    refine ⟨_, (pss_one (ps_ret (pe_fld (pv 0) rfl))), ?_⟩
    have hst : start ["self"] [.ref x] = [some (.ref x)] := rfl
    rw [hst]
    walk_at "rd"
    exact ⟨_, _, _, hx, T.cl_Profile, T.n_Profile_puts, _, pfl_puts p, q⟩
theorem ok_Profile_takes (T : Top K mg) : FnOk P w K mg base CX0 1 T.a_Profile_takes T.d_Profile_takes ["self"] (sp_prop T.x_Profile Prf.takes) := by
  refine T.F_Profile_takes.ok sc_Profile_takes (fun vs H Q E h => ?_) (fun cdv A outer s H vs Q E hr h => ?_)
  · obtain ⟨x, p, rfl, _⟩ := h
    rfl
  · obtain ⟨x, p, rfl, ⟨dx, hx⟩, q⟩ := h
    refine ⟨_, (pss_one (ps_ret (pe_fld (pv 0) rfl))), ?_⟩
    have hst : start ["self"] [.ref x] = [some (.ref x)] := rfl
    rw [hst]
    walk_at "rd"
    exact ⟨_, _, _, hx, T.cl_Profile, T.n_Profile_takes, _, pfl_takes p, q⟩
theorem ok_Profile_low (T : Top K mg) : FnOk P w K mg base CX0 1 T.a_Profile_low T.d_Profile_low ["self"] (sp_prop T.x_Profile Prf.low) := by
  refine T.F_Profile_low.ok sc_Profile_low (fun vs H Q E h => ?_) (fun cdv A outer s H vs Q E hr h => ?_)
  · obtain ⟨x, p, rfl, _⟩ := h
    rfl
  · obtain ⟨x, p, rfl, ⟨dx, hx⟩, q⟩ := h
    refine ⟨_, (pss_one (ps_ret (pe_fld (pv 0) rfl))), ?_⟩
    have hst : start ["self"] [.ref x] = [some (.ref x)] := rfl
    rw [hst]
    walk_at "rd"
    exact ⟨_, _, _, hx, T.cl_Profile, T.n_Profile_low, _, pfl_low p, q⟩
theorem ok_Profile_high (T : Top K mg) : FnOk P w K mg base CX0 1 T.a_Profile_high T.d_Profile_high ["self"] (sp_prop T.x_Profile Prf.high) := by
  refine T.F_Profile_high.ok sc_Profile_high (fun vs H Q E h => ?_) (fun cdv A outer s H vs Q E hr h => ?_)
  · obtain ⟨x, p, rfl, _⟩ := h
    rfl
  · obtain ⟨x, p, rfl, ⟨dx, hx⟩, q⟩ := h
    refine ⟨_, (pss_one (ps_ret (pe_fld (pv 0) rfl))), ?_⟩
    have hst : start ["self"] [.ref x] = [some (.ref x)] := rfl
    rw [hst]
    walk_at "rd"
    exact ⟨_, _, _, hx, T.cl_Profile, T.n_Profile_high, _, pfl_high p, q⟩
theorem ok_Profile_fall (T : Top K mg) : FnOk P w K mg base CX0 1 T.a_Profile_fall T.d_Profile_fall ["self"] (sp_prop T.x_Profile Prf.fall) := by
  refine T.F_Profile_fall.ok sc_Profile_fall (fun vs H Q E h => ?_) (fun cdv A outer s H vs Q E hr h => ?_)
  · obtain ⟨x, p, rfl, _⟩ := h
    rfl
  · obtain ⟨x, p, rfl, ⟨dx, hx⟩, q⟩ := h
    refine ⟨_, (pss_one (ps_ret (pe_fld (pv 0) rfl))), ?_⟩
    have hst : start ["self"] [.ref x] = [some (.ref x)] := rfl
    rw [hst]
    walk_at "rd"
    exact ⟨_, _, _, hx, T.cl_Profile, T.n_Profile_fall, _, pfl_fall p, q⟩
theorem ok_Profile_offset (T : Top K mg) : FnOk P w K mg base CX0 1 T.a_Profile_offset T.d_Profile_offset ["self"] (sp_prop T.x_Profile Prf.off) := by
  refine T.F_Profile_offset.ok sc_Profile_offset (fun vs H Q E h => ?_) (fun cdv A outer s H vs Q E hr h => ?_)
  · obtain ⟨x, p, rfl, _⟩ := h
    rfl
  · obtain ⟨x, p, rfl, ⟨dx, hx⟩, q⟩ := h
    refine ⟨_, (pss_one (ps_ret (pe_op op_sub (pe_fld (pv 0) rfl) (pe_fld (pv 0) rfl)))), ?_⟩
    have hst : start ["self"] [.ref x] = [some (.ref x)] := rfl
    rw [hst]
    walk_at "rd"
    refine rd_fld hx T.cl_Profile T.n_Profile_puts (pfl_puts p) ?_
    refine rd_fld hx T.cl_Profile T.n_Profile_takes (pfl_takes p) ?_
    walk_at "rd"
    exact q
/-! ### + -/
def sp_padd (C : Addr) : Sp := fun vs H Q _ => ∃ (x y : Addr) (p q : Prf), vs = [.ref x, .ref y] ∧ ProfAt C H x p ∧ ProfAt C H y q ∧ p.Ok ∧ q.Ok ∧ ∀ z H1, Same H H1 → H z = none → ProfAt C H1 z (p.add q) → Q (.ref z) H1
theorem ok_Profile_add (T : Top K mg) : FnOk P w K mg base CX0 5 T.a_Profile_add T.d_Profile_add ["self", "other"] (sp_padd T.x_Profile) := by
  have G_Profile_init := ok_Profile_init (w := w) (base := base) T
  have G_Profile_offset := ok_Profile_offset (w := w) (base := base) T
  refine T.F_Profile_add.ok sc_Profile_add (fun vs H Q E h => ?_) (fun cdv A outer s H vs Q E hr h => ?_)
  · obtain ⟨x, y, p, q, rfl, _⟩ := h
    rfl
  · obtain ⟨x, y, p, q', rfl, ⟨dx, hx⟩, ⟨dy, hy⟩, hp, hq, q⟩ := h
    refine ⟨_, (pss_cons (ps_if (pt_not (pt_val (pe_callB call_isi (by rfl) T.z_isinstance (by decide +kernel) (pa_cons (pv 1) (pa_cons (pe_glob (v := .ref T.x_Profile) (by rfl) T.g_Profile rfl) pa_nil))))) (pss_one ps_never) pss_nil)
      (pss_cons (ps_set (i := 2) sc_Profile_add.nd rfl (Or.inl rfl) (pe_op op_add (pe_prop (pv 0) T.cl_Profile T.pr_Profile_offset G_Profile_offset (hr.mono (by first | decide | omega)) T.b_Profile_offset .nil pass0 rfl) (pe_fld (pv 1) rfl)))
      (pss_cons (ps_set (i := 3) sc_Profile_add.nd rfl (Or.inl rfl) (pe_op op_add (pe_prop (pv 0) T.cl_Profile T.pr_Profile_offset G_Profile_offset (hr.mono (by first | decide | omega)) T.b_Profile_offset .nil pass0 rfl) (pe_fld (pv 1) rfl)))
      (pss_one (ps_ret (pe_make T.mk_Profile G_Profile_init (hr.mono (by first | decide | omega)) (by rfl) T.g_Profile T.b_Profile_init .nil passN (pa_cons (pe_op op_add (pe_fld (pv 0) rfl) (pe_fld (pv 1) rfl)) (pa_cons (pe_op op_add (pe_fld (pv 0) rfl) (pe_fld (pv 1) rfl)) (pa_cons (pe_callB (call_min2 rfl) (by rfl) T.z_min (by decide +kernel) (pa_cons (pe_fld (pv 0) rfl) (pa_cons (pv 2) pa_nil))) (pa_cons (pe_callB (call_max2 rfl) (by rfl) T.z_max (by decide +kernel) (pa_cons (pe_fld (pv 0) rfl) (pa_cons (pv 3) pa_nil))) (pa_cons (pe_callB (call_max3I rfl) (by rfl) T.z_max (by decide +kernel) (pa_cons (pe_fld (pv 0) rfl) (pa_cons (pe_fld (pv 1) rfl) (pa_cons (pe_op op_sub (pe_fld (pv 0) rfl) (pv 2)) pa_nil)))) pa_nil))))))))))), ?_⟩
    have hst : start ["self", "other", "other_low", "other_high"] [.ref x, .ref y] = [some (.ref x), some (.ref y), none, none] := rfl
    rw [hst]
    walk_at "rd"
    refine isi_own (.base (.ins hy T.cl_Profile T.ca_Profile T.cg_Profile T.ct_Profile T.cm_Profile)) kit_self ?_
    walk_at "rd"
    refine ⟨⟨_, _, hx⟩, x, p, rfl, ⟨_, hx⟩, rd_fld hy T.cl_Profile T.n_Profile_low (pfl_low q') ?_⟩
    walk_at "rd"
    refine ⟨⟨_, _, hx⟩, x, p, rfl, ⟨_, hx⟩, rd_fld hy T.cl_Profile T.n_Profile_high (pfl_high q') ?_⟩
    walk_at "rd"
    refine rd_fld hx T.cl_Profile T.n_Profile_puts (pfl_puts p) (rd_fld hy T.cl_Profile T.n_Profile_puts (pfl_puts q') ?_)
    walk_at "rd"
    refine rd_fld hx T.cl_Profile T.n_Profile_takes (pfl_takes p) (rd_fld hy T.cl_Profile T.n_Profile_takes (pfl_takes q') ?_)
    walk_at "rd"
    refine rd_fld hx T.cl_Profile T.n_Profile_low (pfl_low p) ?_
    walk_at "rd"
    refine rd_fld hx T.cl_Profile T.n_Profile_high (pfl_high p) ?_
    walk_at "rd"
    refine rd_fld hx T.cl_Profile T.n_Profile_fall (pfl_fall p) (rd_fld hy T.cl_Profile T.n_Profile_fall (pfl_fall q') (rd_fld hx T.cl_Profile T.n_Profile_high (pfl_high p) ?_))
    walk_at "rd"
    refine mkp (p.add q') rfl rfl ?_ ?_ rfl (Prf.ok_add hp hq) q
    · simp only [Prf.add]; split <;> omega
    · simp only [Prf.add]; split <;> omega
/-! ### * -/
theorem ok_Profile_repeated_fall (T : Top K mg) : FnOk P w K mg base CX0 3 T.a_Profile_repeated_fall T.d_Profile_repeated_fall ["self", "last_start"] (fun vs H Q _ => ∃ (x : Addr) (p : Prf) (ls : Int), vs = [.ref x, .int ls] ∧ ProfAt T.x_Profile H x p ∧
    Q (.int (max (max p.fall ((p.high - p.low) - p.off)) ((p.high - p.low) - ls))) H) := by
  have G_Profile_offset := ok_Profile_offset (w := w) (base := base) T
  refine T.F_Profile_repeated_fall.ok sc_Profile_repeated_fall (fun vs H Q E h => ?_) (fun cdv A outer s H vs Q E hr h => ?_)
  · obtain ⟨x, p, ls, rfl, _⟩ := h
    rfl
  · obtain ⟨x, p, ls, rfl, ⟨dx, hx⟩, q⟩ := h
    refine ⟨_, (pss_cons (ps_set (i := 2) sc_Profile_repeated_fall.nd rfl (Or.inl rfl) (pe_op op_sub (pe_fld (pv 0) rfl) (pe_fld (pv 0) rfl)))
      (pss_one (ps_ret (pe_callB (call_max3I rfl) (by rfl) T.z_max (by decide +kernel) (pa_cons (pe_fld (pv 0) rfl) (pa_cons (pe_op op_sub (pv 2) (pe_prop (pv 0) T.cl_Profile T.pr_Profile_offset G_Profile_offset (hr.mono (by first | decide | omega)) T.b_Profile_offset .nil pass0 rfl)) (pa_cons (pe_op op_sub (pv 2) (pv 1)) pa_nil))))))), ?_⟩
    have hst : start ["self", "last_start", "span"] [.ref x, .int ls] = [some (.ref x), some (.int ls), none] := rfl
    rw [hst]
    walk_at "rd"
    refine rd_fld hx T.cl_Profile T.n_Profile_high (pfl_high p) (rd_fld hx T.cl_Profile T.n_Profile_low (pfl_low p) ?_)
    walk_at "rd"
    refine rd_fld hx T.cl_Profile T.n_Profile_fall (pfl_fall p) ?_
    walk_at "rd"
    refine ⟨⟨_, _, hx⟩, x, p, rfl, ⟨_, hx⟩, ?_⟩
    walk_at "rd"
    exact q
def sp_pmul (K : PySem.W.Frag) (C CI : Addr) : Sp := fun vs H Q E => ∃ (x : Addr) (v : V) (p : Prf), vs = [.ref x, v] ∧ ProfAt C H x p ∧ p.Ok ∧ p.bnd 2300 ∧ Kd K H v ∧ (isCountV v = false → E (.ref CI) none H) ∧
  (∀ n : Nat, v = .int n → n ≤ 10 ^ 30 → ∀ z H1, Same H H1 → H z = none → ProfAt C H1 z (p.mul n) → Q (.ref z) H1)
theorem ok_Profile_mul (T : Top K mg) : FnOk P w K mg base (L2.CX P w) 5 T.a_Profile_mul T.d_Profile_mul ["self", "other"] (sp_pmul K T.x_Profile T.x_InvalidInteger) := by
  have G_check_count := ok_check_count (w := w) (base := base) T
  have G_Profile_init := ok_Profile_init (w := w) (base := base) T
  have G_Profile_offset := ok_Profile_offset (w := w) (base := base) T
  have G_Profile_repeated_fall := ok_Profile_repeated_fall (w := w) (base := base) T
  refine T.F_Profile_mul.okX sc_Profile_mul (fun vs H Q E h => ?_) (fun cdv A outer s H vs Q E hr h => ?_)
  · obtain ⟨x, v, p, rfl, _⟩ := h
    rfl
  · obtain ⟨x, v, p, rfl, ⟨dx, hx⟩, hp, hb, kv, qe, q⟩ := h
    refine ⟨_, (pss_cons (ps_expr (pe_callS G_check_count (hr.mono (by first | decide | omega)) rfl T.m_check_count T.F_check_count.kp T.b_check_count (fun σ => passAt (takes_of rfl rfl rfl rfl) σ) (pa_cons (pv 1) pa_nil)))
      (pss_cons (ps_if (pt_cmpR op_eq (pv 1) pe_int (nomark _)) (pss_one (ps_ret (pe_make T.mk_Profile G_Profile_init (hr.mono (by first | decide | omega)) (by rfl) T.g_Profile T.b_Profile_init .nil passN (pa_cons pe_int (pa_cons pe_int (pa_cons pe_int (pa_cons pe_int (pa_cons pe_int pa_nil)))))))) pss_nil)
      (pss_cons (ps_set (i := 2) sc_Profile_mul.nd rfl (Or.inl rfl) (pe_op op_mulW (pe_prop (pv 0) T.cl_Profile T.pr_Profile_offset G_Profile_offset (hr.mono (by first | decide | omega)) T.b_Profile_offset .nil pass0 rfl) (pe_op op_sub (pv 1) pe_int)))
      (pss_one (ps_ret (pe_make T.mk_Profile G_Profile_init (hr.mono (by first | decide | omega)) (by rfl) T.g_Profile T.b_Profile_init .nil passN (pa_cons (pe_op op_mulW (pe_fld (pv 0) rfl) (pv 1)) (pa_cons (pe_op op_mulW (pe_fld (pv 0) rfl) (pv 1)) (pa_cons (pe_op op_add (pe_fld (pv 0) rfl) (pe_callB (call_min2 rfl) (by rfl) T.z_min (by decide +kernel) (pa_cons pe_int (pa_cons (pv 2) pa_nil)))) (pa_cons (pe_op op_add (pe_fld (pv 0) rfl) (pe_callB (call_max2 rfl) (by rfl) T.z_max (by decide +kernel) (pa_cons pe_int (pa_cons (pv 2) pa_nil)))) (pa_cons (pe_ifExp (pt_cmpR op_eq (pv 1) pe_int (nomark _)) (pe_fld (pv 0) rfl) (pe_meth (pv 0) T.cl_Profile T.me_Profile_repeated_fall G_Profile_repeated_fall (hr.mono (by first | decide | omega)) T.b_Profile_repeated_fall .nil pass0 (pa_cons (pv 2) pa_nil))) pa_nil))))))))))), ?_⟩
    have hst : start ["self", "other", "last_start"] [.ref x, v] = [some (.ref x), some v, none] := rfl
    rw [hst]
    walk_at "rd"
    simp only [tCallS, sp_check_count]
    walk_at "rd"
    refine ⟨kv, fun hc => qe hc, fun hc => ?_⟩
    obtain ⟨n, rfl, hn⟩ : ∃ n : Nat, v = .int n ∧ n ≤ 10 ^ 30 := by
      cases v with
      | int i =>
        simp only [isCountV, Bool.and_eq_true, decide_eq_true_eq] at hc
        exact ⟨i.toNat, by rw [Int.toNat_of_nonneg hc.1], by have := hc.2; omega⟩
      | _ => cases hc
    have q := q n rfl hn
    refine ⟨rfl, ?_⟩
    by_cases h0 : n = 0
    · subst h0
      rw [decide_eq_true (by rfl), if_pos rfl]
      exact mkp Prf.zero rfl rfl rfl rfl rfl Prf.ok_zero q
    · rw [decide_eq_false (by rw [V.int.injEq]; omega), if_neg (by decide)]
      have hw : ∀ a : Int, a.natAbs < 2 ^ 2301 → CMulW a (n : Int) ∧ CMulW a ((n : Int) - 1) := fun a ha =>
        ⟨wide_mul (a := 2301) (b := 100) ha (by rw [Int.natAbs_natCast]; exact Nat.lt_of_le_of_lt hn (by decide)) (by decide) (by decide) (by decide),
         wide_mul (a := 2301) (b := 100) ha (by have : ((n : Int) - 1).natAbs = n - 1 := by omega
                                                rw [this]; exact Nat.lt_of_le_of_lt (Nat.sub_le _ _) (Nat.lt_of_le_of_lt hn (by decide))) (by decide) (by decide) (by decide)⟩
      have up : ∀ a : Int, a.natAbs < 2 ^ 2300 → a.natAbs < 2 ^ 2301 := fun a h => Nat.lt_of_lt_of_le h (Nat.pow_le_pow_right (by decide) (by decide))
      refine ⟨⟨_, _, hx⟩, x, p, rfl, ⟨_, hx⟩, ?_⟩
      walk_at "rd"
      refine ⟨(hw _ (Prf.bnd_off hb)).2, rd_fld hx T.cl_Profile T.n_Profile_puts (pfl_puts p) ?_⟩
      walk_at "rd"
      refine ⟨(hw _ (up _ hb.1)).1, rd_fld hx T.cl_Profile T.n_Profile_takes (pfl_takes p) ?_⟩
      walk_at "rd"
      refine ⟨(hw _ (up _ hb.2.1)).1, rd_fld hx T.cl_Profile T.n_Profile_low (pfl_low p) ?_⟩
      walk_at "rd"
      refine rd_fld hx T.cl_Profile T.n_Profile_high (pfl_high p) ?_
      walk_at "rd"
      have hmul : p.mul (n : Int) = ⟨p.puts * n, p.takes * n, p.low + min 0 (p.off * ((n : Int) - 1)), p.high + max 0 (p.off * ((n : Int) - 1)), if (n : Int) = 1 then p.fall else max (max p.fall ((p.high - p.low) - p.off)) ((p.high - p.low) - p.off * ((n : Int) - 1))⟩ := by
        unfold Prf.mul; rw [if_neg (by omega)]
      have okm : (p.mul (n : Int)).Ok := Prf.ok_mul hp n
      rw [hmul] at q okm
      by_cases h1 : (n : Int) = 1
      · rw [decide_eq_true h1, if_pos rfl]
        refine rd_fld hx T.cl_Profile T.n_Profile_fall (pfl_fall p) ?_
        rw [if_pos h1] at q okm
        refine mkp ⟨p.puts * n, p.takes * n, p.low + min 0 (p.off * ((n : Int) - 1)), p.high + max 0 (p.off * ((n : Int) - 1)), p.fall⟩ rfl rfl ?_ ?_ rfl okm q
        · simp only; split <;> omega
        · simp only; split <;> omega
      · rw [decide_eq_false h1, if_neg (by decide)]
        rw [if_neg h1] at q okm
        refine ⟨_, _, hx, pfl_no p (by decide +kernel) (by decide +kernel) (by decide +kernel) (by decide +kernel) (by decide +kernel), p, ⟨_, hx⟩, ?_⟩
        refine mkp ⟨p.puts * n, p.takes * n, p.low + min 0 (p.off * ((n : Int) - 1)), p.high + max 0 (p.off * ((n : Int) - 1)), max (max p.fall ((p.high - p.low) - p.off)) ((p.high - p.low) - p.off * ((n : Int) - 1))⟩ rfl rfl ?_ ?_ rfl okm q
        · simp only; split <;> omega
        · simp only; split <;> omega
/-! ### == -/
def sp_peq (K : PySem.W.Frag) (C : Addr) : Sp := fun vs H Q _ => ∃ (x : Addr) (y : V) (p : Prf), vs = [.ref x, y] ∧ ProfAt C H x p ∧ ((∃ z q, y = .ref z ∧ ProfAt C H z q ∧ Q (.bl (decide (p = q))) H) ∨ (TyX K H y (.type "list") ∧ Q (.bl false) H))
theorem ok_Profile_eq (T : Top K mg) : FnOk P w K mg base CX0 1 T.a_Profile_eq T.d_Profile_eq ["self", "other"] (sp_peq K T.x_Profile) := by

  refine T.F_Profile_eq.ok sc_Profile_eq (fun vs H Q E h => ?_) (fun cdv A outer s H vs Q E hr h => ?_)
  · obtain ⟨x, y, p, rfl, _⟩ := h
    rfl
  · obtain ⟨x, y, p, rfl, ⟨dx, hx⟩, h⟩ := h
    refine ⟨_, (pss_one (ps_ret (pe_and (pe_callB call_isi (by rfl) T.z_isinstance (by decide +kernel) (pa_cons (pv 1) (pa_cons (pe_glob (v := .ref T.x_Profile) (by rfl) T.g_Profile rfl) pa_nil))) (pe_and (pe_cmpR op_eq (pe_fld (pv 0) rfl) (pe_fld (pv 1) rfl) (nomark _)) (pe_and (pe_cmpR op_eq (pe_fld (pv 0) rfl) (pe_fld (pv 1) rfl) (nomark _)) (pe_and (pe_cmpR op_eq (pe_fld (pv 0) rfl) (pe_fld (pv 1) rfl) (nomark _)) (pe_and (pe_cmpR op_eq (pe_fld (pv 0) rfl) (pe_fld (pv 1) rfl) (nomark _)) (pe_one (pe_cmpR op_eq (pe_fld (pv 0) rfl) (pe_fld (pv 1) rfl) (nomark _)))))))))), ?_⟩
    have hst : start ["self", "other"] [.ref x, y] = [some (.ref x), some y] := rfl
    rw [hst]
    walk_at "rd"
    rcases h with ⟨z, q', rfl, ⟨dz, hz⟩, q⟩ | ⟨ty, q⟩
    · refine isi_own (.base (.ins hz T.cl_Profile T.ca_Profile T.cg_Profile T.ct_Profile T.cm_Profile)) kit_self ?_
      walk_at "rd"
      refine rd_fld hx T.cl_Profile T.n_Profile_puts (pfl_puts p) (rd_fld hz T.cl_Profile T.n_Profile_puts (pfl_puts q') ?_)
      walk_at "rd"
      have no : ¬ p = q' → Q (.bl false) H := fun h => by rw [decide_eq_false h] at q; exact q
      by_cases e1 : p.puts = q'.puts
      · rw [decide_eq_true e1, if_pos rfl]
        refine rd_fld hx T.cl_Profile T.n_Profile_takes (pfl_takes p) (rd_fld hz T.cl_Profile T.n_Profile_takes (pfl_takes q') ?_)
        walk_at "rd"
        by_cases e2 : p.takes = q'.takes
        · rw [decide_eq_true e2, if_pos rfl]
          refine rd_fld hx T.cl_Profile T.n_Profile_low (pfl_low p) (rd_fld hz T.cl_Profile T.n_Profile_low (pfl_low q') ?_)
          walk_at "rd"
          by_cases e3 : p.low = q'.low
          · rw [decide_eq_true e3, if_pos rfl]
            refine rd_fld hx T.cl_Profile T.n_Profile_high (pfl_high p) (rd_fld hz T.cl_Profile T.n_Profile_high (pfl_high q') ?_)
            walk_at "rd"
            by_cases e4 : p.high = q'.high
            · rw [decide_eq_true e4, if_pos rfl]
              refine rd_fld hx T.cl_Profile T.n_Profile_fall (pfl_fall p) (rd_fld hz T.cl_Profile T.n_Profile_fall (pfl_fall q') ?_)
              walk_at "rd"
              have e : decide (p.fall = q'.fall) = decide (p = q') := decide_eq_decide.mpr ⟨fun e5 => Prf.ext e1 e2 e3 e4 e5, fun h => by rw [h]⟩
              rw [e]
              exact q
            · rw [decide_eq_false e4, if_neg (by decide)]
              exact no fun h => e4 (by rw [h])
          · rw [decide_eq_false e3, if_neg (by decide)]
            exact no fun h => e3 (by rw [h])
        · rw [decide_eq_false e2, if_neg (by decide)]
          exact no fun h => e2 (by rw [h])
      · rw [decide_eq_false e1, if_neg (by decide)]
        exact no fun h => e1 (by rw [h])
    · refine isi_own ty (kit_not T.cs_Profile T.cy_Profile T.su_Profile_list) ?_
      walk_at "rd"
      exact q
/-! ### of a sequence -/
theorem ok_Profile_of_sequence (T : Top K mg) : FnOk P w K mg base CX0 5 T.a_Profile_of_sequence T.d_Profile_of_sequence ["cls", "sequence"] (fun vs H Q _ => ∃ z : Str, vs = [.ref T.x_Profile, .str z] ∧ z.length ≤ 100000 ∧
    ∀ x H1, Same H H1 → H x = none → ProfAt T.x_Profile H1 x (prof (tl z)) → Q (.ref x) H1) := by
  have G_Profile_init := ok_Profile_init (w := w) (base := base) T
  refine T.F_Profile_of_sequence.ok sc_Profile_of_sequence (fun vs H Q E h => ?_) (fun cdv A outer s H vs Q E hr h => ?_)
  · obtain ⟨z, rfl, _⟩ := h
    rfl
  · obtain ⟨z, rfl, hz, q⟩ := h
    refine ⟨_, (pss_cons (ps_asg4 pe_int (pg_name (i := 2) sc_Profile_of_sequence.nd rfl (Or.inl rfl)) (pg_name (i := 3) sc_Profile_of_sequence.nd rfl (Or.inl rfl)) (pg_name (i := 4) sc_Profile_of_sequence.nd rfl (Or.inl rfl)) (pg_name (i := 5) sc_Profile_of_sequence.nd rfl (Or.inl rfl)))
      (pss_cons (ps_for PassesOwn.never rfl (pi_str (pv 1)) (pg_name (i := 6) sc_Profile_of_sequence.nd rfl (Or.inl rfl)) (pss_cons (ps_aug (i := 2) sc_Profile_of_sequence.nd rfl (Or.inl rfl) (pe_ifExp (pt_cmpR op_eq (pv 6) (pe_glob (v := .str "-") (by rfl) T.c_TAKE ⟨_, rfl⟩) (nomark _)) (pe_un un_neg pe_int) pe_int) ip_add)
      (pss_cons (ps_set (i := 3) sc_Profile_of_sequence.nd rfl (Or.inl rfl) (pe_callB (call_min2 rfl) (by rfl) T.z_min (by decide +kernel) (pa_cons (pv 3) (pa_cons (pv 2) pa_nil))))
      (pss_cons (ps_set (i := 4) sc_Profile_of_sequence.nd rfl (Or.inl rfl) (pe_callB (call_max2 rfl) (by rfl) T.z_max (by decide +kernel) (pa_cons (pv 4) (pa_cons (pv 2) pa_nil))))
      (pss_one (ps_set (i := 5) sc_Profile_of_sequence.nd rfl (Or.inl rfl) (pe_callB (call_max2 rfl) (by rfl) T.z_max (by decide +kernel) (pa_cons (pv 5) (pa_cons (pe_op op_sub (pv 4) (pv 2)) pa_nil)))))))))
      (pss_cons (ps_set (i := 7) sc_Profile_of_sequence.nd rfl (Or.inl rfl) (pe_bm PySem.F.plainAttrs_str PySem.F.slot_str_count PySem.F.type_str_count mt_count (pv 1) (pa_cons (pe_glob (v := .str "-") (by rfl) T.c_TAKE ⟨_, rfl⟩) pa_nil)))
      (pss_one (ps_ret (pe_makeL (i := 0) T.mk_Profile G_Profile_init (hr.mono (by first | decide | omega)) rfl (Or.inl rfl) T.b_Profile_init .nil passN (pa_cons (pe_op op_sub (pe_callB call_len_str (by rfl) T.z_len (by decide +kernel) (pa_cons (pv 1) pa_nil)) (pv 7)) (pa_cons (pv 7) (pa_cons (pv 3) (pa_cons (pv 4) (pa_cons (pv 5) pa_nil))))))))))), ?_⟩
    have hst : start ["cls", "sequence", "offset", "low", "high", "fall", "step", "takes"] [.ref T.x_Profile, .str z] = [some (.ref T.x_Profile), some (.str z), none, none, none, none, none, none] := rfl
    rw [hst]
    walk_at "rd"
    refine forS fun R kR => ?_
    walk_at "rd"
    have e0 : Prf.zero = prof ((tl z).take 0) := rfl
    refine kR z (fun i σ H' => H' = H ∧ i ≤ (tl z).length ∧ ∃ x6 : Option V, σ = [some (.ref T.x_Profile), some (.str z), some (.int (prof ((tl z).take i)).off), some (.int (prof ((tl z).take i)).low), some (.int (prof ((tl z).take i)).high), some (.int (prof ((tl z).take i)).fall), x6, none]) H ⟨rfl, Nat.zero_le _, _, rfl⟩ ?_ ?_
    · rintro i c σ H' hc ⟨rfl, hi, x6, rfl⟩
      have hlt : i < (tl z).length := (List.getElem?_eq_some_iff.mp hc).1
      have ep := prof_take (tl z) i c hc
      rw [ep]
      generalize prof ((tl z).take i) = p
      walk_at "rd"
      have ec : decide ((⟨#[c]⟩ : Str) = Str.ofString "-") = decide (c = 45) := decide_eq_decide.mpr (sg_eq c "-" 45 (by decide +kernel))
      rw [ec]
      have key : ∀ d : Int, (if c = 45 then (-1 : Int) else 1) = d → (p.pstp c).off = p.off + d ∧ (p.pstp c).low = min p.low (p.off + d) ∧ (p.pstp c).high = max p.high (p.off + d) ∧ (p.pstp c).fall = max p.fall (max p.high (p.off + d) - (p.off + d)) := fun d hd => by
        subst hd
        refine ⟨?_, rfl, rfl, rfl⟩
        simp only [Prf.pstp, Prf.off]; split <;> omega
      by_cases h : c = 45
      · obtain ⟨k1, k2, k3, k4⟩ := key (-1) (if_pos h)
        rw [decide_eq_true h, if_pos rfl, k1, k2, k3, k4]
        refine ⟨_, _, rfl, rfl, _, rfl, _, rfl, _, rfl, rfl, by omega, rfl, ?_, ?_, ?_, _, rfl⟩
        · dsimp only; split <;> omega
        · dsimp only; split <;> omega
        · dsimp only; split <;> split <;> omega
      · obtain ⟨k1, k2, k3, k4⟩ := key 1 (if_neg h)
        rw [decide_eq_false h, if_neg (by decide), k1, k2, k3, k4]
        refine ⟨_, _, rfl, rfl, _, rfl, _, rfl, _, rfl, rfl, by omega, rfl, ?_, ?_, ?_, _, rfl⟩
        · dsimp only; split <;> omega
        · dsimp only; split <;> omega
        · dsimp only; split <;> split <;> omega
    · rintro σ H' ⟨rfl, _, x6, rfl⟩
      rw [List.take_length]
      walk_at "rd"
      refine ⟨sz_of hz, ?_⟩
      have ecnt : Txt.count z (Str.ofString "-") = ((tl z).count 45 : Nat) := count_one z
      obtain ⟨ht, hp⟩ := prof_takes (tl z)
      refine mkp (prof (tl z)) ?_ ?_ rfl rfl rfl (prof_ok _) q
      · rw [ecnt, hp, tl_len]
      · rw [ecnt, ht]
/-! ### of parts -/
def sp_pof (C : Addr) (n : Nat) : Sp := fun vs H Q _ => ∃ (p : Addr) (ps : Parts), vs = [.ref C, .ref p] ∧ PartsAt H p ps ∧ ps.dep < n ∧ n ≤ 21 ∧ ps.ok ∧ ps.vol ≤ 100000 ∧ ∀ x H1, Same H H1 → H x = none → ProfAt C H1 x (prof ps.den) → Q (.ref x) H1
theorem bnd_den {ps : Parts} (h : ps.ok) (hv : ps.vol ≤ 100000) (hd : ps.dep ≤ 20) : (prof ps.den).bnd 2300 := by
  have hl := den_lt h hv hd
  obtain ⟨h1, h2, h3, h4, h5⟩ := prof_bound ps.den _ (Nat.le_refl _)
  have ok := prof_ok ps.den
  have p0 := ok.p0; have t0 := ok.t0; have l0 := ok.l0; have h0 := ok.h0; have f2 := ok.f2
  have big : 2 * ps.den.length < 2 ^ 2300 := by
    refine Nat.lt_of_lt_of_le (Nat.mul_lt_mul_of_pos_left hl (by decide)) ?_
    rw [← Nat.pow_succ']
    exact Nat.pow_le_pow_right (by decide) (by decide)
  generalize 2 ^ 2300 = N at *
  generalize ps.den.length = L at *
  refine ⟨?_, ?_, ?_, ?_, ?_⟩ <;> omega
theorem rec_pof (T : Top K mg) : ∀ n : Nat, FnOk P w K mg base CX0 (n + 12) T.a_Profile_of_parts T.d_Profile_of_parts ["cls", "parts"] (sp_pof T.x_Profile n)
  | 0 => by
    refine T.F_Profile_of_parts.ok sc_Profile_of_parts (fun vs H Q E h => ?_) (fun cdv A outer s H vs Q E hr h => ?_)
    · obtain ⟨p, ps, rfl, _⟩ := h
      rfl
    · obtain ⟨p, ps, rfl, _, h, _⟩ := h
      exact absurd h (Nat.not_lt_zero _)
  | n + 1 => by
    have G_Profile_of_parts := rec_pof T n
    have G_Profile_init := ok_Profile_init (w := w) (base := base) T
    have G_Profile_of_sequence := ok_Profile_of_sequence (w := w) (base := base) T
    have G_Profile_add := ok_Profile_add (w := w) (base := base) T
    have G_Profile_mul := ok_Profile_mul (w := w) (base := base) T
    refine T.F_Profile_of_parts.ok sc_Profile_of_parts (fun vs H Q E h => ?_) (fun cdv A outer s H vs Q E hr h => ?_)
    · obtain ⟨p, ps, rfl, _⟩ := h
      rfl
    · obtain ⟨p, ps, rfl, ⟨xs, hp, hxs, hvs⟩, hd, hn, hok, hvol, q⟩ := h
      refine ⟨_, (pss_cons (ps_set (i := 2) sc_Profile_of_parts.nd rfl (Or.inl rfl) (pe_makeL (i := 0) T.mk_Profile G_Profile_init (hr.mono (by first | decide | omega)) rfl (Or.inl rfl) T.b_Profile_init .nil passN (pa_cons pe_int (pa_cons pe_int (pa_cons pe_int (pa_cons pe_int (pa_cons pe_int pa_nil)))))))
      (pss_cons (ps_for PassesOwn.never rfl (pi_list (pv 1)) (pg_name (i := 3) sc_Profile_of_parts.nd rfl (Or.inl rfl)) (pss_one (ps_if (pt_val (pe_callB call_isi (by rfl) T.z_isinstance (by decide +kernel) (pa_cons (pv 3) (pa_cons (pe_bltn (v := .ty "str") (by rfl) T.z_str (by decide +kernel) rfl) pa_nil)))) (pss_one (ps_set (i := 2) sc_Profile_of_parts.nd rfl (Or.inl rfl) (pe_op (op_own G_Profile_add (hr.mono (by first | decide | omega)) T.b_Profile_add pass0 T.sf_Profile T.ba_Profile_add T.bi_Profile_add) (pv 2) (ClX.pe_cmeth (pv 0) T.rd_Profile T.cm_Profile_of_sequence (FnOk.raw G_Profile_of_sequence T.b_Profile_of_sequence .nil) (hr.mono (by first | decide | omega)) pass0 (pa_cons (pv 3) pa_nil))))) (pss_cons (ps_asg (pv 3) (pg_tup (by rfl) (pgs_cons (pg_name (i := 4) sc_Profile_of_parts.nd rfl (Or.inl rfl)) (pgs_cons (pg_name (i := 5) sc_Profile_of_parts.nd rfl (Or.inl rfl)) pgs_nil))))
      (pss_one (ps_set (i := 2) sc_Profile_of_parts.nd rfl (Or.inl rfl) (pe_op (op_own G_Profile_add (hr.mono (by first | decide | omega)) T.b_Profile_add pass0 T.sf_Profile T.ba_Profile_add T.bi_Profile_add) (pv 2) (pe_op (op_ownT G_Profile_mul (hr.mono (by first | decide | omega)) T.b_Profile_mul passN T.sf_Profile T.ba_Profile_mul T.bi_Profile_mul T.br_Profile_mul T.rt_Profile_mul) (ClX.pe_cmeth (pv 0) T.rd_Profile T.cm_Profile_of_parts (FnOk.raw G_Profile_of_parts T.b_Profile_of_parts .nil) (hr.mono (by first | decide | omega)) pass0 (pa_cons (pv 4) pa_nil)) (pv 5)))))))))
      (pss_one (ps_ret (pv 2))))), ?_⟩
      have hst : start ["cls", "parts", "total", "part", "body", "count"] [.ref T.x_Profile, .ref p] = [some (.ref T.x_Profile), some (.ref p), none, none, none, none] := rfl
      rw [hst]
      walk_at "rd"
      refine mkp Prf.zero rfl rfl rfl rfl rfl Prf.ok_zero fun x0 H0 s0 hx0 hp0 => ?_
      refine forL fun R kR => ?_
      walk_at "rd"
      refine kR p xs (fun i σ H1 => Same H H1 ∧ ∃ (tot : Addr) (d : List Nat) (rest : Parts) (x3 x4 x5 : Option V), σ = [some (.ref T.x_Profile), some (.ref p), some (.ref tot), x3, x4, x5] ∧ ProfAt T.x_Profile H1 tot (prof d) ∧ H tot = none ∧ PVs H (xs.drop i) rest ∧ ps.den = d ++ rest.den ∧ rest.dep < n + 1 ∧ rest.ok ∧ rest.vol ≤ 100000)
        H0 (SqL.of (s0 _ _ hp)) ⟨s0, x0, [], ps, _, _, _, rfl, hp0, hx0, hvs, rfl, hd, hok, hvol⟩ (fun i σ H1 _ h => SqL.of (h.1 _ _ hp)) ?_ ?_
      · rintro i x σ H1 hx ⟨s1, tot, d, rest, x3, x4, x5, rfl, ⟨dt, htot⟩, htn, pv', hden, hdr, hokr, hvr⟩
        obtain ⟨hi, ex⟩ := List.getElem?_eq_some_iff.mp hx
        rw [List.drop_eq_getElem_cons hi, ex] at pv'
        walk_at "rd"
        cases pv' with
        | seq pr =>
          rename_i z0 r0
          rw [Parts.vol] at hvr
          rw [Parts.den] at hden
          rw [Parts.dep] at hdr
          have hz0 : (tl z0).length = z0.length := tl_len z0
          refine isi_str (.str _ (by omega)) ?_
          simp only [tStr]
          walk_at "rd"
          refine ⟨by omega, fun y H2 s2 hy2 ⟨dy, hpy⟩ => ?_⟩
          refine ⟨_, _, _, _, _, _, rfl, rfl, s2 _ _ htot, hpy, tot, y, prof d, prof (tl z0), rfl, ⟨_, s2 _ _ htot⟩, ⟨_, hpy⟩, prof_ok _, prof_ok _, fun z H3 s3 hz3 hpz => ?_⟩
          refine ⟨fun b o e => s3 _ _ (s2 _ _ (s1 _ _ e)), z, rfl, ⟨_, rfl⟩, ⟨_, rfl⟩, ⟨_, rfl⟩, d ++ tl z0, by rw [prof_app]; exact hpz, (s1.trans s2).free hz3, r0, pr, by rw [hden, List.append_assoc], hdr, hokr.2.2, by omega⟩
        | rep h1 h2 h3 hb pr =>
          rename_i q0 p0 n0 vb b0 r0
          rw [Parts.vol] at hvr
          rw [Parts.den] at hden
          rw [Parts.dep] at hdr
          refine isi_str (kd_tup (s1 _ _ h1)) ?_
          simp only [tStr]
          walk_at "rd"
          refine ⟨[.ref p0, .int n0], SqT.of (s1 _ _ h1), rfl, ?_⟩
          simp only [gCons, gNil]
          walk_at "rd"
          simp only [sp_pof]
          refine ⟨p0, b0, rfl, ⟨vb, s1 _ _ h2, h3, hb.mono s1⟩, by omega, by omega, hokr.1, by omega, fun y H2 s2 hy2 ⟨dy, hpy⟩ => ?_⟩
          refine ⟨_, _, _, "int", rfl, hpy, rfl, List.mem_cons_self, y, .int n0, prof b0.den, rfl, ⟨_, hpy⟩, prof_ok _, bnd_den hokr.1 (by omega) (by omega), .int _, fun hc => ?_, fun n1 e1 hn1 m H3 s3 hm3 hpm => ?_⟩
          · simp only [isCountV] at hc
            rw [decide_eq_true (by omega : (0 : Int) ≤ (n0 : Int)), decide_eq_true (by have := hokr.2.1; omega : (n0 : Int) ≤ 10 ^ 30)] at hc
            cases hc
          · have e2 : n0 = n1 := by injection e1 with e1; omega
            subst e2
            have s23 : Same H1 H3 := s2.trans s3
            obtain ⟨dm, hpm'⟩ := id hpm
            refine ⟨_, _, _, _, _, _, rfl, rfl, s23 _ _ htot, hpm', tot, m, prof d, (prof b0.den).mul n0, rfl, ⟨_, s23 _ _ htot⟩, hpm, prof_ok _, Prf.ok_mul (prof_ok _) _, fun z H4 s4 hz4 hpz => ?_⟩
            refine ⟨fun b o e => s4 _ _ (s23 _ _ (s1 _ _ e)), z, rfl, ⟨_, rfl⟩, ⟨_, rfl⟩, ⟨_, rfl⟩, d ++ (List.replicate n0 b0.den).flatten, by rw [prof_app, prof_rep]; exact hpz, (s1.trans s23).free hz4, r0, pr, by rw [hden, List.append_assoc], by omega, hokr.2.2, by omega⟩
      · rintro σ H1 ⟨s1, tot, d, rest, x3, x4, x5, rfl, hptot, htn, pv', hden, hdr, hokr, hvr⟩
        rw [List.drop_length] at pv'
        cases pv'
        walk_at "rd"
        rw [show ps.den = d from by rw [hden]; exact List.append_nil _] at q
        exact q tot H1 s1 htn hptot
theorem ok_Profile_of_parts (T : Top K mg) : FnOk P w K mg base CX0 33 T.a_Profile_of_parts T.d_Profile_of_parts ["cls", "parts"] (sp_pof T.x_Profile 21) := rec_pof T 21
/-! ### Profile.of -/
def sp_pofx (K : PySem.W.Frag) (C CI : Addr) : Sp := fun vs H Q E => ∃ x, vs = [.ref C, x] ∧ Kd K H x ∧ (progV x = none → ∀ H1, Same H H1 → E (.ref CI) none H1) ∧
  (∀ ps, progV x = some ps → ∀ y H1, Same H H1 → H y = none → ProfAt C H1 y (prof ps.den) → Q (.ref y) H1)
theorem ok_Profile_of (T : Top K mg) : FnOk P w K mg base (L2.CX P w) 34 T.a_Profile_of T.d_Profile_of ["cls", "program"] (sp_pofx K T.x_Profile T.x_InvalidProgram) := by
  have G_Profile_of_parts := ok_Profile_of_parts (w := w) (base := base) T
  have G_parts_of := ok_parts_of (w := w) (base := base) T
  refine T.F_Profile_of.okX sc_Profile_of (fun vs H Q E h => ?_) (fun cdv A outer s H vs Q E hr h => ?_)
  · obtain ⟨x, rfl, _⟩ := h
    rfl
  · obtain ⟨x, rfl, kx, qe, q⟩ := h
    refine ⟨_, (pss_one (ps_ret (ClX.pe_cmeth (pv 0) T.rd_Profile T.cm_Profile_of_parts (FnOk.raw G_Profile_of_parts T.b_Profile_of_parts .nil) (hr.mono (by first | decide | omega)) pass0 (pa_cons (pe_callS G_parts_of (hr.mono (by first | decide | omega)) rfl T.m_parts_of T.F_parts_of.kp T.b_parts_of (fun σ => passAt (takes_of rfl rfl rfl rfl) σ) (pa_cons (pv 1) pa_nil)) pa_nil)))), ?_⟩
    have hst : start ["cls", "program"] [.ref T.x_Profile, x] = [some (.ref T.x_Profile), some x] := rfl
    rw [hst]
    walk_at "rd"
    simp only [tCallS, sp_parts_of]
    walk_at "rd"
    refine ⟨kx, fun e H1 s1 => qe e H1 s1, fun ps e p H1 s1 hn hp => ?_⟩
    obtain ⟨t, rfl⟩ : ∃ t, x = .str t := by
      cases x with
      | str t => exact ⟨t, rfl⟩
      | _ => cases e
    have hdk := rpt_deep (t := tl t) e
    have hvl := rpt_vol (t := tl t) e
    have ht : t.length ≤ 100000 := by cases kx; assumption
    have htl := tl_len t
    exact ⟨p, ps, rfl, hp, by omega, by decide, hdk.2, by omega, fun y H2 s2 hy hpy => q ps e y H2 (s1.trans s2) (s1.free hy) hpy⟩
theorem ownEq_prof (T : Top K mg) {H' : Hp} {a b : Addr} {p q : Prf} {Q' : VK} {neg : Bool} {E : XK} (h1 : ProfAt T.x_Profile H' a p) (h2 : ProfAt T.x_Profile H' b q) (hq : Q' (.bl (decide (p = q) != neg)) H') : rOwnEq K T.x_Profile (sp_peq K T.x_Profile) E neg (.ref a) (.ref b) H' Q' := by
  obtain ⟨dx, h1⟩ := h1
  obtain ⟨dy, h2⟩ := h2
  exact ⟨a, dx, _, rfl, h1, ⟨_, .base (.ins h2 T.cl_Profile T.ca_Profile T.cg_Profile T.ct_Profile T.cm_Profile), notf_self⟩, a, .ref b, p, rfl, ⟨_, h1⟩, .inl ⟨b, q, rfl, ⟨_, h2⟩, _, rfl, hq⟩⟩
theorem ownEq_list (T : Top K mg) {H' : Hp} {a b : Addr} {p : Prf} {xs : List V} {Q' : VK} {neg : Bool} {E : XK} (h1 : ProfAt T.x_Profile H' a p) (h2 : H' b = some (.lst xs)) (hq : Q' (.bl (false != neg)) H') : rOwnEq K T.x_Profile (sp_peq K T.x_Profile) E neg (.ref a) (.ref b) H' Q' := by
  obtain ⟨dx, h1⟩ := h1
  exact ⟨a, dx, _, rfl, h1, ⟨_, .base (.lst h2), notf_ty T.su_Profile_list⟩, a, .ref b, p, rfl, ⟨_, h1⟩, .inr ⟨.base (.lst h2), _, rfl, hq⟩⟩

theorem emod_lt {a b : Int} (h : 0 < b) : 0 ≤ a % b ∧ a % b < b := ⟨Int.emod_nonneg _ (by omega), Int.emod_lt_of_pos _ h⟩
theorem ok__law_draw (T : Top K mg) : FnOk P w K mg base CX0 1 T.a__law_draw T.d__law_draw ["_law_draws_here", "_law_upto"] sp_draw := by

  refine T.F__law_draw.ok sc__law_draw (fun vs H Q E h => ?_) (fun cdv A outer s H vs Q E hr h => ?_)
  · obtain ⟨p, d, u, rfl, _⟩ := h
    rfl
  · obtain ⟨p, ⟨a, b⟩, u, rfl, hp, ⟨ha, hb, hb2⟩, hu0, hu1, q⟩ := h
    refine ⟨_, (pss_cons (ps_if (pt_cmpR op_gt (pe_ix ix_list (pv 0) pe_int (fun _ _ => rfl)) pe_int (nomark _)) (pss_cons (ps_set (i := 2) sc__law_draw.nd rfl (Or.inl rfl) (pe_op op_mod (pe_ix ix_list (pv 0) pe_int (fun _ _ => rfl)) (pv 1)))
      (pss_cons (ps_asg (pe_op op_fdiv (pe_ix ix_list (pv 0) pe_int (fun _ _ => rfl)) (pv 1)) (pg_sub (pv 0) pe_int set_list))
      (pss_one (ps_ret (pv 2))))) pss_nil)
      (pss_cons (ps_asg (pe_op op_mod (pe_op op_add (pe_op op_mul (pe_ix ix_list (pv 0) pe_int (fun _ _ => rfl)) pe_int) pe_int) pe_int) (pg_sub (pv 0) pe_int set_list))
      (pss_one (ps_ret (pe_op op_mod (pe_op op_fdiv (pe_op op_mod (pe_op op_mul (pe_ix ix_list (pv 0) pe_int (fun _ _ => rfl)) (pe_ix ix_list (pv 0) pe_int (fun _ _ => rfl))) pe_int) pe_int) (pv 1)))))), ?_⟩
    have hst : start ["_law_draws_here", "_law_upto", "_law_digit"] [.ref p, .int u] = [some (.ref p), some (.int u), none] := rfl
    rw [hst]
    walk_at "rd"
    simp only at ha hb hb2
    have h0 : SqL K H p [.int a, .int b] := SqL.of hp
    refine ix_at h0 (by decide) rfl ?_
    walk_at "rd"
    refine ite2 (fun c => ?_) (fun c => ?_)
    · have c' : 0 < a := of_decide_eq_true c
      refine ix_at h0 (by decide) rfl ?_
      walk_at "rd"
      refine ⟨hu0, ix_at h0 (by decide) rfl ?_⟩
      walk_at "rd"
      refine ⟨⟨hu0, by omega⟩, set_at (xs := [.int a, .int b]) hp (by decide) (by simp) ?_⟩
      walk_at "rd"
      have e1 := emod_lt (a := a) hu0
      exact q (a % u) (a / u, b) _ e1.1 e1.2 ⟨Int.ediv_nonneg ha (by omega), hb, hb2⟩ upd_same (fun q o hq e => by rw [upd_ne hq]; exact e)
    · refine ix_at h0 (by decide) rfl ?_
      walk_at "rd"
      have e1 := emod_lt (a := b * 48271 + 11) (b := 2147483647) (by decide)
      generalize hy : (b * 48271 + 11) % 2147483647 = y at e1 ⊢
      have h2 : SqL K (upd H p (.lst [.int a, .int y])) p [.int a, .int y] := SqL.of upd_same
      refine ⟨.inr (by decide), by decide, set_at (xs := [.int a, .int b]) hp (by decide) (by simp) ?_⟩
      walk_at "rd"
      refine ix_at h2 (by decide) rfl (ix_at h2 (by decide) rfl ?_)
      walk_at "rd"
      refine ⟨.inl (by omega), by decide, ⟨by decide, by decide⟩, hu0, ?_⟩
      have e2 := emod_lt (a := y * y % 2147483629 / 64) hu0
      exact q _ (a, y) _ e2.1 e2.2 ⟨ha, e1.1, e1.2⟩ upd_same (fun q o hq e => by rw [upd_ne hq]; exact e)
theorem mem_map_int {ns : List Int} {i : Nat} (h : i < ns.length) : (ns.map V.int)[i]? = some (.int ns[i]) := by
  rw [List.getElem?_map, List.getElem?_eq_getElem h] <;> rfl
theorem ok__law_draws (T : Top K mg) : FnOk P w K mg base CX0 1 T.a__law_draws T.d__law_draws ["_law_script", "_law_k"] (sp_draws K) := by

  refine T.F__law_draws.ok sc__law_draws (fun vs H Q E h => ?_) (fun cdv A outer s H vs Q E hr h => ?_)
  · obtain ⟨a, ns, k, rfl, _⟩ := h
    rfl
  · obtain ⟨a, ns, k, rfl, hS, hl, hk0, hk1, q⟩ := h
    refine ⟨_, (pss_cons (ps_set (i := 2) sc__law_draws.nd rfl (Or.inl rfl) pe_int)
      (pss_cons (ps_if (pt_cmpR (op_neD hr.units) (pv 0) (pe_lst pa_nil) (nomark _)) (pss_one (ps_set (i := 2) sc__law_draws.nd rfl (Or.inl rfl) (pe_ix ix_list (pv 0) (pe_op op_mod (pv 1) (pe_callB call_len_seq (by rfl) T.z_len (by decide +kernel) (pa_cons (pv 0) pa_nil))) (fun _ _ => rfl)))) pss_nil)
      (pss_cons (ps_if (pt_cmpR op_ge (pv 1) (pe_callB call_len_seq (by rfl) T.z_len (by decide +kernel) (pa_cons (pv 0) pa_nil)) (nomark _)) (pss_one (ps_set (i := 2) sc__law_draws.nd rfl (Or.inl rfl) (pe_op op_mod (pv 2) pe_int))) pss_nil)
      (pss_cons (ps_set (i := 3) sc__law_draws.nd rfl (Or.inl rfl) (pe_op op_mod (pe_op op_mul (pe_op op_add (pe_op op_add (pe_op op_mod (pv 2) pe_int) (pe_op op_mul pe_int (pv 1))) pe_int) pe_int) pe_int))
      (pss_one (ps_ret (pe_lst (pa_cons (pe_op op_mul (pv 2) (pe_callTy call_int1 (by rfl) T.z_int (by decide +kernel) (pa_cons (pe_cmpR op_ge (pv 2) (pe_op op_pow pe_int pe_int) (nomark _)) pa_nil))) (pa_cons (pv 3) pa_nil))))))))), ?_⟩
    have hst : start ["_law_script", "_law_k", "_law_cell", "_law_seed"] [.ref a, .int k] = [some (.ref a), some (.int k), none, none] := rfl
    rw [hst]
    walk_at "rd"
    refine ⟨by show 0 ≤ sizeLine; decide, fun p0 hp0 => ?_⟩
    have s0 : Same H (upd H p0 (.lst [])) := same_new hp0 _
    have hn : SqL K (upd H p0 (.lst [])) p0 [] := SqL.of upd_same
    refine ne_lists (s0.seq hS) hn (ok_ints ns) rfl ?_
    rw [eqL_nil]
    -- the end, from any cell
    have fin : ∀ c : Int, CMul 104729 k ∧ CMul (c % 2147483629 + 104729 * k + 11) 48271 ∧ (0 : Int) < 2147483647 ∧ CPow 10 18 ∧ CMul c (if decide (10 ^ Int.toNat 18 ≤ c) = true then 1 else 0) ∧
        [V.int (c * if decide (10 ^ Int.toNat 18 ≤ c) = true then 1 else 0), V.int ((c % 2147483629 + 104729 * k + 11) * 48271 % 2147483647)].length ≤ sizeLine ∧
        ∀ p, upd H p0 (.lst []) p = none → Q (.ref p) (upd (upd H p0 (.lst [])) p (.lst [V.int (c * if decide (10 ^ Int.toNat 18 ≤ c) = true then 1 else 0), V.int ((c % 2147483629 + 104729 * k + 11) * 48271 % 2147483647)])) := fun c => by
      have e1 := emod_lt (a := c) (b := 2147483629) (by decide)
      have e2 := emod_lt (a := (c % 2147483629 + 104729 * k + 11) * 48271) (b := 2147483647) (by decide)
      refine ⟨.inl (by decide), .inr (by decide), by decide, ⟨by decide, by decide, by decide⟩, .inr (by split <;> decide), by show 2 ≤ sizeLine; decide, fun p hp => ?_⟩
      refine q p (c * if decide (10 ^ Int.toNat 18 ≤ c) = true then 1 else 0, (c % 2147483629 + 104729 * k + 11) * 48271 % 2147483647) _ (s0.trans (same_new hp _)) (s0.free hp) ⟨?_, e2.1, e2.2⟩ upd_same
      show 0 ≤ c * if decide (10 ^ Int.toNat 18 ≤ c) = true then 1 else 0
      split
      · rename_i h
        have h' := of_decide_eq_true h
        have : (0 : Int) ≤ 10 ^ Int.toNat 18 := by decide
        omega
      · omega
    cases hns : ns with
    | nil =>
      simp only [List.map_nil, List.isEmpty_nil]
      walk_at "rd"
      refine ⟨_, .inl (s0.seq hS), ?_⟩
      refine ite2 (fun c => ⟨by decide, by decide, ?_⟩) (fun c => ⟨by decide, ?_⟩)
      · exact fin _
      · exact fin _
    | cons n ms =>
      simp only [List.map_cons, List.isEmpty_cons]
      walk_at "rd"
      have hlen : 0 < ns.length := by rw [hns]; exact Nat.succ_pos _
      have e1 := emod_lt (a := k) (b := ns.length) (by omega)
      have hi : (k % (ns.length : Int)).toNat < ns.length := by omega
      refine ⟨_, .inl (s0.seq hS), ?_⟩
      rw [List.length_map]
      refine ⟨by omega, ix_at (s0.seq hS) e1.1 (mem_map_int hi) ?_⟩
      walk_at "rd"
      refine ⟨_, .inl (s0.seq hS), ?_⟩
      refine ite2 (fun c => ⟨by decide, by decide, ?_⟩) (fun c => ⟨by decide, ?_⟩)
      · exact fin _
      · exact fin _

def But (p : Addr) (H H' : Hp) : Prop := ∀ q o, q ≠ p → H q = some o → H' q = some o
theorem But.refl (p : Addr) (H : Hp) : But p H H := fun _ _ _ h => h
theorem But.trans {p : Addr} {H H1 H2 : Hp} (a : But p H H1) (b : But p H1 H2) : But p H H2 := fun q o hq h => b q o hq (a q o hq h)
theorem But.new {p q : Addr} {H H1 : Hp} (a : But p H H1) (h : H1 q = none) (o : HO) : But p H (upd H1 q o) := fun b u hb e => by
  have := a b u hb e
  rw [upd_ne (ne_of_none this h)]; exact this
theorem But.mut {p q : Addr} {H H1 : Hp} (a : But p H H1) (h : H q = none) (o : HO) : But p H (upd H1 q o) := fun b u hb e => by
  rw [upd_ne (ne_of_none e h)]; exact a b u hb e
theorem ok__law_letter (T : Top K mg) : FnOk P w K mg base CX0 2 T.a__law_letter T.d__law_letter ["_law_draws_here"] (fun vs H Q _ => ∃ (p : Addr) (d : Int × Int), vs = [.ref p] ∧ H p = some (dw d) ∧ okD d ∧
    ∀ (c : Nat) (d' : Int × Int) (H' : Hp), isLet c = true → okD d' → H' p = some (dw d') → But p H H' → Q (.str (sg c)) H') := by
  have G__law_draw := ok__law_draw (w := w) (base := base) T
  refine T.F__law_letter.ok sc__law_letter (fun vs H Q E h => ?_) (fun cdv A outer s H vs Q E hr h => ?_)
  · obtain ⟨p, d, rfl, _⟩ := h
    rfl
  · obtain ⟨p, d, rfl, hp, hd, q⟩ := h
    refine ⟨_, (pss_one (ps_ret (pe_ix ix_str pe_str (pe_call G__law_draw (hr.mono (by first | decide | omega)) rfl T.m__law_draw T.F__law_draw.kp T.b__law_draw .nil pass0 (pa_cons (pv 0) (pa_cons pe_int pa_nil))) (fun _ _ => rfl)))), ?_⟩
    have hst : start ["_law_draws_here"] [.ref p] = [some (.ref p)] := rfl
    rw [hst]
    walk_at "rd"
    simp only [sp_draw]
    refine ⟨p, d, 6, rfl, hp, hd, by decide, by decide, fun v d' H' h0 h1 hd' hp' k => ?_⟩
    have hc : v = 0 ∨ v = 1 ∨ v = 2 ∨ v = 3 ∨ v = 4 ∨ v = 5 := by omega
    rcases hc with rfl | rfl | rfl | rfl | rfl | rfl
    all_goals (refine ix_str_at (by decide) (by decide) (by first | rfl | decide) ?_; exact q _ d' H' (by decide) hd' hp' k)
def sp_seq : Sp := fun vs H Q _ => ∃ (p : Addr) (d : Int × Int) (m : Nat), vs = [.ref p, .int (m : Int)] ∧ H p = some (dw d) ∧ okD d ∧ m ≤ 1000 ∧
    ∀ (z : Str) (d' : Int × Int) (H' : Hp), (tl z).all isStep = true → z.length ≤ m → okD d' → H' p = some (dw d') → But p H H' → Q (.str z) H'
theorem ok__law_sequence (T : Top K mg) : FnOk P w K mg base CX0 3 T.a__law_sequence T.d__law_sequence ["_law_draws_here", "_law_most"] sp_seq := by
  have G__law_draw := ok__law_draw (w := w) (base := base) T
  have G__law_letter := ok__law_letter (w := w) (base := base) T
  refine T.F__law_sequence.ok sc__law_sequence (fun vs H Q E h => ?_) (fun cdv A outer s H vs Q E hr h => ?_)
  · obtain ⟨p, d, m, rfl, _⟩ := h
    rfl
  · obtain ⟨p, d, m, rfl, hp, hd, hm, q⟩ := h
    refine ⟨_, (pss_cons (ps_set (i := 2) sc__law_sequence.nd rfl (Or.inl rfl) (pe_lst pa_nil))
      (pss_cons (ps_set (i := 3) sc__law_sequence.nd rfl (Or.inl rfl) (pe_op op_add pe_int (pe_call G__law_draw (hr.mono (by first | decide | omega)) rfl T.m__law_draw T.F__law_draw.kp T.b__law_draw .nil pass0 (pa_cons (pv 0) (pa_cons pe_int pa_nil)))))
      (pss_cons (ps_for PassesOwn.never rfl (pi_range1 (by rfl) T.z_range (pa_cons (pe_call G__law_draw (hr.mono (by first | decide | omega)) rfl T.m__law_draw T.F__law_draw.kp T.b__law_draw .nil pass0 (pa_cons (pv 0) (pa_cons (pe_op op_add (pv 1) pe_int) pa_nil))) pa_nil)) (pg_name (i := 4) sc__law_sequence.nd rfl (Or.inl rfl)) (pss_one (ps_expr (pe_bm PySem.F.plainAttrs_list PySem.F.slot_list_append PySem.F.type_list_append mt_append (pv 2) (pa_cons (pe_ix ix_list (pe_lst (pa_cons (pe_call G__law_letter (hr.mono (by first | decide | omega)) rfl T.m__law_letter T.F__law_letter.kp T.b__law_letter .nil pass0 (pa_cons (pv 0) pa_nil)) (pa_cons pe_str pa_nil))) (pe_callTy call_int1 (by rfl) T.z_int (by decide +kernel) (pa_cons (pe_cmpR op_lt (pe_call G__law_draw (hr.mono (by first | decide | omega)) rfl T.m__law_draw T.F__law_draw.kp T.b__law_draw .nil pass0 (pa_cons (pv 0) (pa_cons pe_int pa_nil))) (pv 3) (nomark _)) pa_nil)) (fun _ _ => rfl)) pa_nil)))))
      (pss_one (ps_ret (pe_join pe_str (pv 2))))))), ?_⟩
    have hst : start ["_law_draws_here", "_law_most", "_law_some", "_law_way", "_law_turn"] [.ref p, .int m] = [some (.ref p), some (.int m), none, none, none] := rfl
    rw [hst]
    walk_at "rd"
    refine ⟨by walk_at "sz", fun l hl => ?_⟩
    simp only [sp_draw]
    have lp : l ≠ p := fun e => by rw [e, hp] at hl; cases hl
    have hp1 : upd H l (.lst []) p = some (dw d) := by rw [upd_ne (Ne.symm lp)]; exact hp
    refine ⟨p, d, 4, rfl, hp1, hd, by decide, by decide, fun way d1 H1 w0 w1 hd1 hp2 k1 => ?_⟩
    have hl1 : H1 l = some (.lst []) := k1 l _ lp upd_same
    have B1 : But p H H1 := fun q o hq e => k1 q o hq (by rw [upd_ne (ne_of_none e hl)]; exact e)
    clear hp1 k1
    refine ⟨_, rfl, ?_⟩
    refine forR fun R kR => ?_
    walk_at "rd"
    simp only [sp_draw]
    refine ⟨p, d1, (m : Int) + 1, rfl, hp2, hd1, by omega, by omega, fun n d2 H2 n0 n1 hd2 hp3 k2 => ?_⟩
    have hl2 : H2 l = some (.lst []) := k2 l _ lp hl1
    have B2 : But p H H2 := B1.trans k2
    refine kR n (fun i σ H' => ∃ (cs : List Nat) (dd : Int × Int) (x4 : Option V), σ = [some (.ref p), some (.int m), some (.ref l), some (.int (1 + way)), x4] ∧ cs.length = i ∧ cs.all isStep = true ∧ okD dd ∧ H' p = some (dw dd) ∧ H' l = some (.lst ((cs.map sg).map V.str)) ∧ But p H H')
      H2 (by omega) (by omega) ⟨[], d2, _, rfl, rfl, rfl, hd2, hp3, hl2, B2⟩ ?_ ?_
    · rintro i σ H' hi ⟨cs, dd, x4, rfl, hcl, hcs, hdd, hpp, hll, BB⟩
      walk_at "rd"
      refine ⟨.inl ⟨_, SqL.of hll⟩, dd, hpp, hdd, fun c d3 H3 hc hd3 hp3' k3 => ⟨by walk_at "sz", fun r hr => ?_⟩⟩
      have rp : r ≠ p := fun e => by rw [e, hp3'] at hr; cases hr
      have hl3 := k3 l _ lp hll
      have rl : r ≠ l := fun e => by rw [e, hl3] at hr; cases hr
      simp only [sp_draw]
      refine ⟨p, d3, 5, rfl, by rw [upd_ne (Ne.symm rp)]; exact hp3', hd3, by decide, by decide, fun v d4 H4 v0 v1 hd4 hp4 k4 => ⟨_, rfl, ?_⟩⟩
      have hr4 := k4 r _ rp upd_same
      have hl4 := k4 l _ lp (by rw [upd_ne (Ne.symm rl)]; exact hl3)
      have B4 : But p H H4 := ((BB.trans k3).new hr _).trans k4
      have hsz : ((cs.map sg).map V.str).length < sizeLine := by
        rw [List.length_map, List.length_map, hcl]
        exact Nat.lt_of_le_of_lt (by omega : i ≤ 100000) (by decide)
      have fin : ∀ x : Nat, isStep x = true → rAppend (V.ref l) [.str (sg x)] H4 fun x H1 =>
          (∃ x, some (V.int (0 + ↑i)) = x) ∧ ∃ x, x.length = i + 1 ∧ x.all isStep = true ∧ ∃ x_1, okD x_1 ∧ H1 p = some (dw x_1) ∧ H1 l = some (HO.lst (List.map V.str (List.map sg x))) ∧ But p H H1 := fun x hx => by
        refine ⟨l, _, _, rfl, rfl, hl4, hsz, ⟨_, rfl⟩, cs ++ [x], by rw [List.length_append, hcl]; rfl, by rw [List.all_append, hcs]; simp [hx], d4, hd4, by rw [upd_ne (Ne.symm lp)]; exact hp4, by rw [upd_same]; simp, B4.mut hl _⟩
      by_cases hv : v < 1 + way
      · rw [decide_eq_true hv]
        exact ix_at (SqL.of hr4) (by decide) rfl (fin 45 (by decide))
      · rw [decide_eq_false hv]
        exact ix_at (SqL.of hr4) (by decide) rfl (fin c (by unfold isStep; rw [hc]; rfl))
    · rintro σ H' ⟨cs, dd, x4, rfl, hcl, hcs, hdd, hpp, hll, BB⟩
      walk_at "rd"
      have hj : tl (Txt.join (Str.ofString "") (cs.map sg)) = cs := by
        show tl (Txt.join ("" : Str) (cs.map sg)) = _
        rw [tl_join0, flat_sg]
      refine ⟨⟨_, rfl⟩, cs.map sg, .inl (SqL.of hll), ?_, q _ dd H' (by rw [hj]; exact hcs) (by rw [← tl_len, hj]; omega) hdd hpp BB⟩
      rw [len_sg, show (Str.ofString "").length = 0 from rfl, Nat.mul_zero]
      exact Nat.le_trans (by omega : _ ≤ 100000) (by decide)
/-! ### _law_program -/
def Lt : Nat → Nat
  | 0 => 0
  | n + 1 => 3 * (6 + Lt n)
def Lf : Nat → Nat
  | 0 => 0
  | n + 1 => 3 * (3 + 4 * Lf n)
def sp_prog (n : Nat) : Sp := fun vs H Q _ => ∃ (p : Addr) (d : Int × Int) (m : Nat), vs = [.ref p, .int (m : Int)] ∧ H p = some (dw d) ∧ okD d ∧ m < n ∧ n ≤ 4 ∧
    ∀ (r : Addr) (zt zf : Str) (d' : Int × Int) (H' : Hp), Pr m (tl zt) (tl zf) → zt.length ≤ Lt (m + 1) → zf.length ≤ Lf (m + 1) → okD d' → H' p = some (dw d') → But p H H' → H r = none → H' r = some (.tup [.str zt, .str zf]) → Q (.ref r) H'
theorem rec_prog (T : Top K mg) : ∀ n : Nat, FnOk P w K mg base CX0 (n + 4) T.a__law_program T.d__law_program ["_law_draws_here", "_law_depth"] (sp_prog n)
  | 0 => by
    refine T.F__law_program.ok sc__law_program (fun vs H Q E h => ?_) (fun cdv A outer s H vs Q E hr h => ?_)
    · obtain ⟨p, d, m, rfl, _⟩ := h
      rfl
    · obtain ⟨p, d, m, rfl, _, _, h, _⟩ := h
      exact absurd h (Nat.not_lt_zero _)
  | n + 1 => by
    have G__law_program := rec_prog T n
    have G__law_draw := ok__law_draw (w := w) (base := base) T
    have G__law_sequence := ok__law_sequence (w := w) (base := base) T
    refine T.F__law_program.ok sc__law_program (fun vs H Q E h => ?_) (fun cdv A outer s H vs Q E hr h => ?_)
    · obtain ⟨p, d, m, rfl, _⟩ := h
      rfl
    · obtain ⟨p, d, m, rfl, hp, hd, hm, hn, q⟩ := h
      refine ⟨_, (pss_cons (ps_asg (pe_tup (pa_cons pe_str (pa_cons pe_str pa_nil))) (pg_tup (by rfl) (pgs_cons (pg_name (i := 2) sc__law_program.nd rfl (Or.inl rfl)) (pgs_cons (pg_name (i := 3) sc__law_program.nd rfl (Or.inl rfl)) pgs_nil))))
      (pss_cons (ps_for PassesOwn.never rfl (pi_range1 (by rfl) T.z_range (pa_cons (pe_op op_add pe_int (pe_call G__law_draw (hr.mono (by first | decide | omega)) rfl T.m__law_draw T.F__law_draw.kp T.b__law_draw .nil pass0 (pa_cons (pv 0) (pa_cons pe_int pa_nil)))) pa_nil)) (pg_name (i := 4) sc__law_program.nd rfl (Or.inl rfl)) (pss_cons (ps_set (i := 5) sc__law_program.nd rfl (Or.inl rfl) (pe_call G__law_sequence (hr.mono (by first | decide | omega)) rfl T.m__law_sequence T.F__law_sequence.kp T.b__law_sequence .nil pass0 (pa_cons (pv 0) (pa_cons pe_int pa_nil))))
      (pss_cons (ps_par (i := 2) (j := 3) (by rfl) sc__law_program.nd rfl rfl (by decide) rfl rfl (pa_cons (pe_op op_add_str (pv 2) (pv 5)) (pa_cons (pe_op op_add_str (pv 3) (pv 5)) pa_nil)) (by rfl))
      (pss_one (ps_if (PW.pt (pw_and (pt_cmpR op_gt (pv 1) pe_int (nomark _)) (pw_and1 (pt_cmpR op_eq (pe_call G__law_draw (hr.mono (by first | decide | omega)) rfl T.m__law_draw T.F__law_draw.kp T.b__law_draw .nil pass0 (pa_cons (pv 0) (pa_cons pe_int pa_nil))) pe_int (nomark _))))) (pss_cons (ps_asg (pe_call G__law_program (hr.mono (by first | decide | omega)) rfl T.m__law_program T.F__law_program.kp T.b__law_program .nil pass0 (pa_cons (pv 0) (pa_cons (pe_op op_sub (pv 1) pe_int) pa_nil))) (pg_tup (by rfl) (pgs_cons (pg_name (i := 6) sc__law_program.nd rfl (Or.inl rfl)) (pgs_cons (pg_name (i := 7) sc__law_program.nd rfl (Or.inl rfl)) pgs_nil))))
      (pss_cons (ps_set (i := 8) sc__law_program.nd rfl (Or.inl rfl) (pe_call G__law_draw (hr.mono (by first | decide | omega)) rfl T.m__law_draw T.F__law_draw.kp T.b__law_draw .nil pass0 (pa_cons (pv 0) (pa_cons pe_int pa_nil))))
      (pss_cons (ps_set (i := 2) sc__law_program.nd rfl (Or.inl rfl) (pe_op op_add_str (pe_op op_add_str (pe_op op_add_str (pe_op op_add_str (pv 2) pe_str) (pv 6)) pe_str) (pe_callTy call_str_int (by rfl) T.z_str (by decide +kernel) (pa_cons (pv 8) pa_nil))))
      (pss_one (ps_set (i := 3) sc__law_program.nd rfl (Or.inl rfl) (pe_op op_add_str (pv 3) (pe_op op_rep_str (pv 7) (pv 8)))))))) pss_nil)))))
      (pss_one (ps_ret (pe_tup (pa_cons (pv 2) (pa_cons (pv 3) pa_nil))))))), ?_⟩
      have hst : start ["_law_draws_here", "_law_depth", "_law_text", "_law_full", "_law_turn", "_law_stretch", "_law_inner", "_law_spelled", "_law_count"] [.ref p, .int m] = [some (.ref p), some (.int m), none, none, none, none, none, none, none] := rfl
      rw [hst]
      walk_at "rd"
      refine ⟨by walk_at "sz", fun t0 ht0 => ⟨[.str "", .str ""], SqT.of upd_same, rfl, ?_⟩⟩
      simp only [gCons, gNil]
      walk_at "rd"
      have hp0 : upd H t0 (.tup [.str "", .str ""]) p = some (dw d) := by rw [upd_ne (ne_of_none hp ht0)]; exact hp
      have B0 : But p H (upd H t0 (.tup [.str "", .str ""])) := (But.refl p H).new ht0 _
      generalize upd H t0 (.tup [.str "", .str ""]) = H0 at hp0 B0 ⊢
      refine forR fun R kR => ?_
      walk_at "rd"
      simp only [sp_draw]
      refine ⟨p, d, 3, rfl, hp0, hd, by decide, by decide, fun nn d1 H1 n0 n1 hd1 hp1 k1 => ?_⟩
      have hb : Lt m ≤ 234 ∧ Lf m ≤ 1413 := by
        have hm4 : m < 4 := by omega
        rcases (by omega : m = 0 ∨ m = 1 ∨ m = 2 ∨ m = 3) with rfl | rfl | rfl | rfl <;> decide
      obtain ⟨hb1, hb2⟩ := hb
      refine ⟨nn, rfl, ?_⟩
      refine kR (1 + nn) (fun i σ H' => ∃ (zt zf : Str) (dd : Int × Int) (x4 x5 x6 x7 x8 : Option V), σ = [some (.ref p), some (.int m), some (.str zt), some (.str zf), x4, x5, x6, x7, x8] ∧ Pr m (tl zt) (tl zf) ∧
        zt.length ≤ i * (6 + Lt m) ∧ zf.length ≤ i * (3 + 4 * Lf m) ∧ okD dd ∧ H' p = some (dw dd) ∧ But p H H')
        H1 (by omega) (by omega) ⟨"", "", d1, _, _, _, _, _, rfl, .nil m, by rw [show (Str.ofString "").length = 0 from rfl]; exact Nat.zero_le _, by rw [show (Str.ofString "").length = 0 from rfl]; exact Nat.zero_le _, hd1, hp1, B0.trans k1⟩ ?_ ?_
      · rintro i σ H' hi ⟨zt, zf, dd, x4, x5, x6, x7, x8, rfl, hPr, hlt, hlf, hdd, hpp, BB⟩
        have hi3 : i ≤ 2 := by omega
        have hi1 : i * (6 + Lt m) ≤ 2 * (6 + Lt m) := Nat.mul_le_mul_right _ hi3
        have hi2 : i * (3 + 4 * Lf m) ≤ 2 * (3 + 4 * Lf m) := Nat.mul_le_mul_right _ hi3
        rw [Nat.succ_mul, Nat.succ_mul]
        walk_at "rd"
        simp only [sp_seq]
        refine ⟨p, dd, 3, rfl, hpp, hdd, by decide, fun z d2 H2 hz hz3 hd2 hp2 k2 => ?_⟩
        walk_at "rd"
        have la : ∀ x y : Str, (x ++ y).length = x.length + y.length := fun x y => by rw [← tl_len, ← tl_len, ← tl_len, tl_app, List.length_append]
        have hPr2 : Pr m (tl (zt ++ z)) (tl (zf ++ z)) := by rw [tl_app, tl_app]; exact hPr.app (.steps hz)
        have hl1 := la zt z
        have hl2 := la zf z
        have big : ∀ k : Nat, k ≤ 100000 → k ≤ sizeLine := fun k h => sz_of h
        refine ⟨big _ (by omega), big _ (by omega), ?_⟩
        have B2 := BB.trans k2
        have done : ∀ (dd' : Int × Int) (H3 : Hp), okD dd' → H3 p = some (dw dd') → But p H H3 → (∃ x, some (V.int (0 + ↑i)) = x) ∧ (∃ x, some (V.str z) = x) ∧ (∃ x, x6 = x) ∧ (∃ x, x7 = x) ∧ (∃ x, x8 = x) ∧
            Pr m (tl (zt ++ z)) (tl (zf ++ z)) ∧ (zt ++ z).length ≤ i * (6 + Lt m) + (6 + Lt m) ∧ (zf ++ z).length ≤ i * (3 + 4 * Lf m) + (3 + 4 * Lf m) ∧ ∃ x, okD x ∧ H3 p = some (dw x) ∧ But p H H3 :=
          fun dd' H3 a1 a2 a3 => ⟨⟨_, rfl⟩, ⟨_, rfl⟩, ⟨_, rfl⟩, ⟨_, rfl⟩, ⟨_, rfl⟩, hPr2, by omega, by omega, dd', a1, a2, a3⟩
        by_cases hm0 : (0 : Int) < (m : Int)
        · rw [decide_eq_true hm0, if_pos rfl]
          simp only [sp_draw]
          refine ⟨p, d2, 2, rfl, hp2, hd2, by decide, by decide, fun v d3 H3 v0 v1 hd3 hp3 k3 => ⟨trivial, ?_⟩⟩
          by_cases hv : v = 0
          · subst hv
            rw [decide_eq_true rfl, if_pos rfl]
            obtain ⟨m', rfl⟩ : ∃ m', m = m' + 1 := ⟨m - 1, by omega⟩
            simp only [sp_prog]
            refine ⟨p, d3, m', by simp, hp3, hd3, by omega, by omega, fun r zt2 zf2 d4 H4 hPr3 hlt3 hlf3 hd4 hp4 k4 hr3 hr4 => ⟨r, rfl, [.str zt2, .str zf2], SqT.of hr4, rfl, ?_⟩⟩
            simp only [gCons, gNil]
            walk_at "rd"
            simp only [sp_draw]
            refine ⟨p, d4, 5, rfl, hp4, hd4, by decide, by decide, fun c d5 H5 c0 c1 hd5 hp5 k5 => ?_⟩
            walk_at "rd"
            obtain ⟨k, rfl⟩ : ∃ k : Nat, c = k := ⟨c.toNat, by omega⟩
            have hk5 : k < 5 := by omega
            have hdg : tl (Str.ofString (toString (k : Int))) = digs k := PySem.W.KIN.signs_num k
            have hdl : (Str.ofString (toString (k : Int))).length ≤ 1 := by
              rw [← tl_len, hdg]; exact digs_lt (by decide) (by omega)
            have hop : (Str.ofString "(").length = 1 := by decide +kernel
            have hcl : (Str.ofString ")").length = 1 := by decide +kernel
            have hto : tl (Str.ofString "(") = [40] := by decide +kernel
            have htc : tl (Str.ofString ")") = [41] := by decide +kernel
            have B5 := (B2.trans k3).trans (k4.trans k5)
            have hrep : (srep zf2 k).length = k * zf2.length := by rw [← tl_len, tl_srep, len_flat_rep, tl_len]
            have hrl : k * zf2.length ≤ 4 * zf2.length := Nat.mul_le_mul_right _ (by omega)
            have e1 : tl (zt ++ z ++ Str.ofString "(" ++ zt2 ++ Str.ofString ")" ++ Str.ofString (toString (k : Int))) = tl (zt ++ z) ++ 40 :: (tl zt2 ++ 41 :: digs k) := by
              rw [tl_app, tl_app, tl_app, tl_app, hdg, hto, htc]; simp
            have e2 : tl (zf ++ z ++ srep zf2 k) = tl (zf ++ z) ++ (List.replicate k (tl zf2)).flatten := by rw [tl_app, tl_srep]
            have ez : (k : Int).toNat = k := Int.toNat_natCast k
            refine ⟨big _ (by omega), big _ (by rw [la]; omega), big _ (by rw [la, la]; omega), ?_, big _ (by rw [la, la, la]; omega), zf2, k, rfl, rfl, by omega, by omega, by rw [ez, Nat.mul_comm]; omega, ?_⟩
            · rw [Int.natAbs_natCast]
              by_cases hk0 : k = 0
              · rw [hk0]; decide
              · exact (Nat.log2_lt hk0).mpr (Nat.lt_of_lt_of_le hk5 (Nat.le_trans (by decide : 5 ≤ 2 ^ 3) (Nat.pow_le_pow_right (by decide) (by decide))))
            · rw [ez]
              refine ⟨_, rfl, big _ (by rw [hrep]; omega), ⟨_, rfl⟩, ⟨_, rfl⟩, ⟨_, rfl⟩, ⟨_, rfl⟩, ⟨_, rfl⟩, ?_, ?_, ?_, d5, hd5, hp5, B5⟩
              · rw [e1, e2]
                exact hPr2.app (Pr.one hPr3 (by omega))
              · rw [la, la, la, la]; omega
              · rw [la, hrep]; omega
          · rw [decide_eq_false (fun e => hv (by injection e)), if_neg (by decide)]
            exact done d3 H3 hd3 hp3 (B2.trans k3)
        · rw [decide_eq_false hm0, if_neg (by decide)]
          exact done d2 H2 hd2 hp2 B2
      · rintro σ H' ⟨zt, zf, dd, x4, x5, x6, x7, x8, rfl, hPr, hlt, hlf, hdd, hpp, BB⟩
        have hi3 : (1 + nn).toNat ≤ 3 := by omega
        have hi1 : (1 + nn).toNat * (6 + Lt m) ≤ 3 * (6 + Lt m) := Nat.mul_le_mul_right _ hi3
        have hi2 : (1 + nn).toNat * (3 + 4 * Lf m) ≤ 3 * (3 + 4 * Lf m) := Nat.mul_le_mul_right _ hi3
        walk_at "rd"
        refine ⟨by walk_at "sz", fun r hr => q r zt zf dd _ hPr (by rw [Lt]; omega) (by rw [Lf]; omega) hdd ?_ (BB.new hr _) ?_ upd_same⟩
        · rw [upd_ne (ne_of_none hpp hr)]; exact hpp
        · cases e : H r with
          | none => rfl
          | some u =>
            have := BB r u (ne_of_none hpp hr |>.symm) e
            rw [hr] at this; cases this
theorem ok__law_program (T : Top K mg) : FnOk P w K mg base CX0 8 T.a__law_program T.d__law_program ["_law_draws_here", "_law_depth"] (sp_prog 4) := rec_prog T 4

/-! ### capacities -/
def isModeV : V → Bool | .str s => decide (s = "oldest") || (decide (s = "newest") || decide (s = "strict")) | _ => false
theorem ok_is_mode (T : Top K mg) : FnOk P w K mg base CX0 1 T.a_is_mode T.d_is_mode ["value"] (sp_has K isModeV) := by

  refine T.F_is_mode.ok sc_is_mode (fun vs H Q E h => ?_) (fun cdv A outer s H vs Q E hr h => ?_)
  · obtain ⟨x, rfl, _⟩ := h
    rfl
  · obtain ⟨x, rfl, kx, q⟩ := h
    refine ⟨_, (pss_one (ps_ret (pe_and (pe_callB call_isi (by rfl) T.z_isinstance (by decide +kernel) (pa_cons (pv 0) (pa_cons (pe_bltn (v := .ty "str") (by rfl) T.z_str (by decide +kernel) rfl) pa_nil))) (pe_one (pe_cmpR op_in_seq (pv 0) (pe_glob (v := .ref T.p_MODES) (by rfl) T.c_MODES rfl) (by rfl)))))), ?_⟩
    have hst : start ["value"] [x] = [some x] := rfl
    rw [hst]
    walk_at "rd"
    refine isi_str kx ?_
    cases kx with
    | str z hz =>
      simp only [tStr]
      walk_at "rd"
      refine ⟨_, _, rfl, .inr (T.t_MODES H), rfl, rfl, ?_⟩
      have e : isModeV (.str z) = inV (.str z) [.str "oldest", .str "newest", .str "strict"] := by
        simp only [isModeV, inV, List.any_cons, List.any_nil, eqV, Bool.or_false]
        simp only [eq_comm (a := z)]
        rfl
      rw [e] at q
      exact q
    | _ => simp only [tStr]; walk_at "rd"; exact q
theorem ok_check_mode (T : Top K mg) : FnOk P w K mg base (L2.CX P w) 2 T.a_check_mode T.d_check_mode ["value"] (fun vs H Q E => ∃ x, vs = [x] ∧ Kd K H x ∧ (isModeV x = false → E (.ref T.x_InvalidMode) none H) ∧ (isModeV x = true → Q .non H)) := by
  have G_is_mode := ok_is_mode (w := w) (base := base) T
  refine T.F_check_mode.okX sc_check_mode (fun vs H Q E h => ?_) (fun cdv A outer s H vs Q E hr h => ?_)
  · obtain ⟨x, rfl, _⟩ := h
    rfl
  · obtain ⟨x, rfl, kx, e1, q⟩ := h
    refine ⟨_, (pss_one (ps_if (pt_not (pt_val (pe_call G_is_mode (hr.mono (by first | decide | omega)) rfl T.m_is_mode T.F_is_mode.kp T.b_is_mode .nil pass0 (pa_cons (pv 0) pa_nil)))) (pss_one (ps_raise rfl (takes_of rfl rfl rfl rfl) (pmk_own PySem.F.excBase_ValueError T.q_InvalidMode T.g_InvalidMode T.k_InvalidMode (raises_own T.b_InvalidMode T.t_InvalidMode) rfl))) pss_nil)), ?_⟩
    have hst : start ["value"] [x] = [some x] := rfl
    rw [hst]
    walk_at "rd"
    simp only [sp_has]
    walk_at "rd"
    refine ⟨kx, ?_⟩
    cases hc : isModeV x with
    | false => exact e1 hc
    | true => exact q hc
def strictB (m : Str) : Bool := decide (m = "strict")
theorem ok_check_any_length (T : Top K mg) : FnOk P w K mg base (L2.CX P w) 3 T.a_check_any_length T.d_check_any_length ["value"] (fun vs H Q E => ∃ x, vs = [x] ∧ Kd K H x ∧ (isNatV x = false → E (.ref T.x_InvalidInteger) none H) ∧ (isNatV x = true → Q .non H)) := by
  have G_is_natural := ok_is_natural (w := w) (base := base) T
  refine T.F_check_any_length.okX sc_check_any_length (fun vs H Q E h => ?_) (fun cdv A outer s H vs Q E hr h => ?_)
  · obtain ⟨x, rfl, _⟩ := h
    rfl
  · obtain ⟨x, rfl, kx, e1, q⟩ := h
    refine ⟨_, (pss_one (ps_if (pt_not (pt_val (pe_call G_is_natural (hr.mono (by first | decide | omega)) rfl T.m_is_natural T.F_is_natural.kp T.b_is_natural .nil pass0 (pa_cons (pv 0) pa_nil)))) (pss_one (ps_raise rfl (takes_of rfl rfl rfl rfl) (pmk_own PySem.F.excBase_ValueError T.q_InvalidInteger T.g_InvalidInteger T.k_InvalidInteger (raises_own T.b_InvalidInteger T.t_InvalidInteger) rfl))) pss_nil)), ?_⟩
    have hst : start ["value"] [x] = [some x] := rfl
    rw [hst]
    walk_at "rd"
    simp only [sp_has]
    walk_at "rd"
    refine ⟨kx, ?_⟩
    cases hc : isNatV x with
    | false => exact e1 hc
    | true => exact q hc
def roomV (p : Prf) (n : Int) : V := if -p.low ≤ n then .int (max 1 (n + p.high)) else .non
def leastV (p : Prf) (m : Str) (n : Int) : V := if m = "strict" then roomV p n else if -p.low ≤ n then .int (max (max 1 n) p.fall) else .non
theorem ok_roomy_capacity (T : Top K mg) : FnOk P w K mg base CX0 3 T.a_roomy_capacity T.d_roomy_capacity ["profile", "length"] (fun vs H Q _ => ∃ (x : Addr) (p : Prf) (n : Int), vs = [.ref x, .int n] ∧ ProfAt T.x_Profile H x p ∧ Q (roomV p n) H) := by
  have G_Profile_low := ok_Profile_low (w := w) (base := base) T
  have G_Profile_high := ok_Profile_high (w := w) (base := base) T
  refine T.F_roomy_capacity.ok sc_roomy_capacity (fun vs H Q E h => ?_) (fun cdv A outer s H vs Q E hr h => ?_)
  · obtain ⟨x, p, n, rfl, _⟩ := h
    rfl
  · obtain ⟨x, p, n, rfl, ⟨dx, hx⟩, q⟩ := h
    refine ⟨_, (pss_one (ps_ret (pe_ifExp (pt_cmpR op_ge (pv 1) (pe_un un_neg (pe_prop (pv 0) T.cl_Profile T.pr_Profile_low G_Profile_low (hr.mono (by first | decide | omega)) T.b_Profile_low .nil pass0 rfl)) (nomark _)) (pe_callB (call_max2 rfl) (by rfl) T.z_max (by decide +kernel) (pa_cons pe_int (pa_cons (pe_op op_add (pv 1) (pe_prop (pv 0) T.cl_Profile T.pr_Profile_high G_Profile_high (hr.mono (by first | decide | omega)) T.b_Profile_high .nil pass0 rfl)) pa_nil))) pe_non))), ?_⟩
    have hst : start ["profile", "length"] [.ref x, .int n] = [some (.ref x), some (.int n)] := rfl
    rw [hst]
    walk_at "rd"
    refine ⟨⟨_, _, hx⟩, x, p, rfl, ⟨_, hx⟩, _, rfl, ?_⟩
    unfold roomV at q
    by_cases h : -p.low ≤ n
    · rw [if_pos h] at q
      rw [decide_eq_true h, if_pos rfl]
      refine ⟨⟨_, _, hx⟩, x, p, rfl, ⟨_, hx⟩, _, rfl, ?_⟩
      have e : (if n + p.high > 1 then n + p.high else 1) = max 1 (n + p.high) := by split <;> omega
      rw [e]
      exact q
    · rw [if_neg h] at q
      rw [decide_eq_false h, if_neg (by decide)]
      exact q
def sp_least (K : PySem.W.Frag) (Cp Cm Ci : Addr) : Sp := fun vs H Q E => ∃ x m n, vs = [x, m, n] ∧ Kd K H x ∧ Kd K H m ∧ Kd K H n ∧
  (progV x = none → ∀ H1, Same H H1 → E (.ref Cp) none H1) ∧ (∀ ps, progV x = some ps → isModeV m = false → ∀ H1, Same H H1 → E (.ref Cm) none H1) ∧
  (∀ ps, progV x = some ps → isModeV m = true → isNatV n = false → ∀ H1, Same H H1 → E (.ref Ci) none H1) ∧
  (∀ ps s k, progV x = some ps → m = .str s → n = .int k → isModeV m = true → 0 ≤ k → ∀ H1, Same H H1 → Q (leastV (prof ps.den) s k) H1)
theorem ok_least_capacity (T : Top K mg) : FnOk P w K mg base (L2.CX P w) 35 T.a_least_capacity T.d_least_capacity ["program", "mode", "length"] (sp_least K T.x_InvalidProgram T.x_InvalidMode T.x_InvalidInteger) := by
  have G_Profile_of := ok_Profile_of (w := w) (base := base) T
  have G_check_mode := ok_check_mode (w := w) (base := base) T
  have G_check_any_length := ok_check_any_length (w := w) (base := base) T
  have G_roomy_capacity := ok_roomy_capacity (w := w) (base := base) T
  have G_Profile_fall := ok_Profile_fall (w := w) (base := base) T
  have G_Profile_low := ok_Profile_low (w := w) (base := base) T
  refine T.F_least_capacity.okX sc_least_capacity (fun vs H Q E h => ?_) (fun cdv A outer s H vs Q E hr h => ?_)
  · obtain ⟨x, m, n, rfl, _⟩ := h
    rfl
  · obtain ⟨x, m, n, rfl, kx, km, kn, e1, e2, e3, q⟩ := h
    refine ⟨_, (pss_cons (ps_set (i := 3) sc_least_capacity.nd rfl (Or.inl rfl) (ClX.pe_cmeth (pe_glob (v := .ref T.x_Profile) (by rfl) T.g_Profile rfl) T.rd_Profile T.cm_Profile_of (FnOk.raw G_Profile_of T.b_Profile_of .nil) (hr.mono (by first | decide | omega)) (passAll (takes_of rfl rfl rfl rfl)) (pa_cons (pv 0) pa_nil)))
      (pss_cons (ps_expr (pe_call G_check_mode (hr.mono (by first | decide | omega)) rfl T.m_check_mode T.F_check_mode.kp T.b_check_mode .nil (passAll (takes_of rfl rfl rfl rfl)) (pa_cons (pv 1) pa_nil)))
      (pss_cons (ps_expr (pe_call G_check_any_length (hr.mono (by first | decide | omega)) rfl T.m_check_any_length T.F_check_any_length.kp T.b_check_any_length .nil (passAll (takes_of rfl rfl rfl rfl)) (pa_cons (pv 2) pa_nil)))
      (pss_cons (ps_if (pt_cmpR op_eq (pv 1) pe_str (nomark _)) (pss_one (ps_ret (pe_call G_roomy_capacity (hr.mono (by first | decide | omega)) rfl T.m_roomy_capacity T.F_roomy_capacity.kp T.b_roomy_capacity .nil pass0 (pa_cons (pv 3) (pa_cons (pv 2) pa_nil))))) pss_nil)
      (pss_one (ps_ret (pe_ifExp (pt_cmpR op_ge (pv 2) (pe_un un_neg (pe_prop (pv 3) T.cl_Profile T.pr_Profile_low G_Profile_low (hr.mono (by first | decide | omega)) T.b_Profile_low .nil pass0 rfl)) (nomark _)) (pe_callB (call_max3I rfl) (by rfl) T.z_max (by decide +kernel) (pa_cons pe_int (pa_cons (pv 2) (pa_cons (pe_prop (pv 3) T.cl_Profile T.pr_Profile_fall G_Profile_fall (hr.mono (by first | decide | omega)) T.b_Profile_fall .nil pass0 rfl) pa_nil)))) pe_non))))))), ?_⟩
    have hst : start ["program", "mode", "length", "profile"] [x, m, n] = [some x, some m, some n, none] := rfl
    rw [hst]
    walk_at "rd"
    refine ⟨x, rfl, kx, fun e H1 s1 _ => e1 e H1 s1, fun ps e y H1 s1 hy hpy => ⟨kd_mono s1 km, fun hm _ => e2 ps e hm H1 s1, fun hm => ⟨kd_mono s1 kn, fun hn _ => e3 ps e hm hn H1 s1, fun hn => ?_⟩⟩⟩
    cases m with
    | str s =>
      cases n with
      | int k =>
        have hk : 0 ≤ k := of_decide_eq_true hn
        have q := q ps s k e rfl rfl hm hk H1 s1
        unfold leastV at q
        obtain ⟨dy, ey⟩ := id hpy
        refine ⟨rfl, ?_⟩
        by_cases hs : s = "strict"
        · have hs' : V.str s = V.str (Str.ofString "strict") := congrArg V.str hs
          rw [if_pos hs] at q
          rw [decide_eq_true hs', if_pos rfl]
          exact ⟨y, rfl, _, k, rfl, hpy, q⟩
        · have hs' : ¬ V.str s = V.str (Str.ofString "strict") := fun z => hs (by injection z)
          rw [if_neg hs] at q
          rw [decide_eq_false hs', if_neg (by decide)]
          refine ⟨y, rfl, ⟨_, _, ey⟩, y, _, rfl, ⟨_, ey⟩, _, rfl, k, rfl, ?_⟩
          by_cases h : -(prof ps.den).low ≤ k
          · rw [if_pos h] at q
            rw [decide_eq_true h, if_pos rfl]
            exact ⟨y, rfl, ⟨_, _, ey⟩, y, _, rfl, ⟨_, ey⟩, k, rfl, _, rfl, q⟩
          · rw [if_neg h] at q
            rw [decide_eq_false h, if_neg (by decide)]
            exact q
      | _ => cases hn
    | _ => cases hm
def sp_lossless (K : PySem.W.Frag) (Cp Ci : Addr) : Sp := fun vs H Q E => ∃ x n, vs = [x, n] ∧ Kd K H x ∧ Kd K H n ∧
  (progV x = none → ∀ H1, Same H H1 → E (.ref Cp) none H1) ∧
  (∀ ps, progV x = some ps → isNatV n = false → ∀ H1, Same H H1 → E (.ref Ci) none H1) ∧
  (∀ ps k, progV x = some ps → n = .int k → 0 ≤ k → ∀ H1, Same H H1 → Q (roomV (prof ps.den) k) H1)
theorem ok_lossless_capacity (T : Top K mg) : FnOk P w K mg base (L2.CX P w) 35 T.a_lossless_capacity T.d_lossless_capacity ["program", "length"] (sp_lossless K T.x_InvalidProgram T.x_InvalidInteger) := by
  have G_Profile_of := ok_Profile_of (w := w) (base := base) T
  have G_check_any_length := ok_check_any_length (w := w) (base := base) T
  have G_roomy_capacity := ok_roomy_capacity (w := w) (base := base) T
  refine T.F_lossless_capacity.okX sc_lossless_capacity (fun vs H Q E h => ?_) (fun cdv A outer s H vs Q E hr h => ?_)
  · obtain ⟨x, n, rfl, _⟩ := h
    rfl
  · obtain ⟨x, n, rfl, kx, kn, e1, e3, q⟩ := h
    refine ⟨_, (pss_cons (ps_set (i := 2) sc_lossless_capacity.nd rfl (Or.inl rfl) (ClX.pe_cmeth (pe_glob (v := .ref T.x_Profile) (by rfl) T.g_Profile rfl) T.rd_Profile T.cm_Profile_of (FnOk.raw G_Profile_of T.b_Profile_of .nil) (hr.mono (by first | decide | omega)) (passAll (takes_of rfl rfl rfl rfl)) (pa_cons (pv 0) pa_nil)))
      (pss_cons (ps_expr (pe_call G_check_any_length (hr.mono (by first | decide | omega)) rfl T.m_check_any_length T.F_check_any_length.kp T.b_check_any_length .nil (passAll (takes_of rfl rfl rfl rfl)) (pa_cons (pv 1) pa_nil)))
      (pss_one (ps_ret (pe_call G_roomy_capacity (hr.mono (by first | decide | omega)) rfl T.m_roomy_capacity T.F_roomy_capacity.kp T.b_roomy_capacity .nil pass0 (pa_cons (pv 2) (pa_cons (pv 1) pa_nil))))))), ?_⟩
    have hst : start ["program", "length", "profile"] [x, n] = [some x, some n, none] := rfl
    rw [hst]
    walk_at "rd"
    refine ⟨x, rfl, kx, fun e H1 s1 _ => e1 e H1 s1, fun ps e y H1 s1 hy hpy => ⟨kd_mono s1 kn, fun hn _ => e3 ps e hn H1 s1, fun hn => ?_⟩⟩
    cases n with
    | int k => exact ⟨y, rfl, _, k, rfl, hpy, q ps k e rfl (of_decide_eq_true hn) H1 s1⟩
    | _ => cases hn

theorem cut1_len {t : Str} (h : 1 ≤ t.length) : (cutS t (some 1) none).length = t.length - 1 := by
  have e1 : HT.sIx t.length 0 (some 1) = 1 := by
    simp only [HT.sIx]
    rw [if_neg (by omega)]; omega
  have e2 : HT.sIx t.length t.length none = t.length := rfl
  rw [← tl_len]
  show ((t.cps.toList.drop (HT.sIx t.length 0 (some 1))).take (HT.sIx t.length t.length none - HT.sIx t.length 0 (some 1))).toArray.toList.length = _
  rw [e1, e2]
  have := tl_len t
  show _ = _
  simp only [List.length_take, List.length_drop]
  have e3 : t.cps.toList.length = t.length := Array.length_toList
  omega
theorem str_nil {y : Str} : y = Str.ofString "" ↔ y.length = 0 := by
  constructor
  · rintro rfl; decide +kernel
  · intro h
    obtain ⟨c⟩ := y
    have : c = #[] := Array.eq_empty_of_size_eq_zero h
    rw [this]
    decide +kernel
theorem one_dash {c : Nat} : (⟨#[c]⟩ : Str) = Str.ofString "-" ↔ c = 45 := by
  have e : Str.ofString "-" = (⟨#[45]⟩ : Str) := by decide +kernel
  rw [e]
  constructor
  · intro h
    injection h with h
    injection h with h
    injection h with h
  · rintro rfl; rfl
theorem slen_app (x y : Str) : (x ++ y).length = x.length + y.length := by rw [← tl_len, ← tl_len, ← tl_len, tl_app, List.length_append]
def sp_run (K : PySem.W.Frag) : Sp := fun vs H Q _ => ∃ (z s m : Str) (C : Int), vs = [.str z, .str s, .int C, .str m] ∧ 1 ≤ C ∧ (z.length : Int) ≤ C ∧ C ≤ 1000 ∧ s.length ≤ 20000 ∧ isModeV (.str m) = true ∧
  (∀ t (i : Nat) H1, Same H H1 → H t = none → H1 t = some (.lst [.str (Str.ofString "failed"), .int (i : Nat)]) → rrun C (strictB m) (z.length : Int) (tl s) = none → Q (.ref t) H1) ∧
  (∀ t (y k l : Str) H1, Same H H1 → H t = none → H1 t = some (.lst [.str (Str.ofString "done"), .str y, .str k, .str l]) → rrun C (strictB m) (z.length : Int) (tl s) = some ((y.length : Int), (l.length : Int)) → (y.length : Int) ≤ C → l.length ≤ 20000 → Q (.ref t) H1)
theorem ok__law_run (T : Top K mg) : FnOk P w K mg base CX0 1 T.a__law_run T.d__law_run ["_law_queue", "_law_sequence_here", "_law_capacity", "_law_mode"] (sp_run K) := by

  refine T.F__law_run.ok sc__law_run (fun vs H Q E h => ?_) (fun cdv A outer s H vs Q E hr h => ?_)
  · obtain ⟨z, s, m, C, rfl, _⟩ := h
    rfl
  · obtain ⟨z, sq, m, C, rfl, c1, hz, c2, hsl, hm, q1, q2⟩ := h
    refine ⟨_, (pss_cons (ps_asg (pe_tup (pa_cons pe_str (pa_cons pe_str pa_nil))) (pg_tup (by rfl) (pgs_cons (pg_name (i := 4) sc__law_run.nd rfl (Or.inl rfl)) (pgs_cons (pg_name (i := 5) sc__law_run.nd rfl (Or.inl rfl)) pgs_nil))))
      (pss_cons (ps_for PassesOwn.never rfl (pi_enumS (by rfl) T.z_enumerate (pa_cons (pv 1) pa_nil)) (pg_tup (by rfl) (pgs_cons (pg_name (i := 6) sc__law_run.nd rfl (Or.inl rfl)) (pgs_cons (pg_name (i := 7) sc__law_run.nd rfl (Or.inl rfl)) pgs_nil))) (pss_one (ps_if (pt_cmpR op_eq (pv 7) pe_str (nomark _)) (pss_cons (ps_if (pt_cmpR op_eq (pv 0) pe_str (nomark _)) (pss_one (ps_ret (pe_lst (pa_cons pe_str (pa_cons (pv 6) pa_nil))))) pss_nil)
      (pss_one (ps_par (i := 4) (j := 0) (by rfl) sc__law_run.nd rfl rfl (by decide) rfl rfl (pa_cons (pe_op op_add_str (pv 4) (pe_ix ix_str (pv 0) pe_int (fun _ _ => rfl))) (pa_cons (pe_slice sl_str (pv 0) (po_some pe_int) po_none) pa_nil)) (by rfl)))) (pss_one (ps_if (pt_cmpR op_lt (pe_callB call_len_str (by rfl) T.z_len (by decide +kernel) (pa_cons (pv 0) pa_nil)) (pv 2) (nomark _)) (pss_one (ps_set (i := 0) sc__law_run.nd rfl (Or.inl rfl) (pe_op op_add_str (pv 0) (pv 7)))) (pss_one (ps_if (pt_cmpR op_eq (pv 3) pe_str (nomark _)) (pss_one (ps_par (i := 5) (j := 0) (by rfl) sc__law_run.nd rfl rfl (by decide) rfl rfl (pa_cons (pe_op op_add_str (pv 5) (pe_ix ix_str (pv 0) pe_int (fun _ _ => rfl))) (pa_cons (pe_op op_add_str (pe_slice sl_str (pv 0) (po_some pe_int) po_none) (pv 7)) pa_nil)) (by rfl))) (pss_one (ps_if (pt_cmpR op_eq (pv 3) pe_str (nomark _)) (pss_one (ps_set (i := 5) sc__law_run.nd rfl (Or.inl rfl) (pe_op op_add_str (pv 5) (pv 7)))) (pss_one (ps_ret (pe_lst (pa_cons pe_str (pa_cons (pv 6) pa_nil))))))))))))))
      (pss_one (ps_ret (pe_lst (pa_cons pe_str (pa_cons (pv 0) (pa_cons (pv 4) (pa_cons (pv 5) pa_nil))))))))), ?_⟩
    have hst : start ["_law_queue", "_law_sequence_here", "_law_capacity", "_law_mode", "_law_taken", "_law_lost", "_law_at", "_law_step"] [.str z, .str sq, .int C, .str m] = [some (.str z), some (.str sq), some (.int C), some (.str m), none, none, none, none] := rfl
    rw [hst]
    walk_at "rd"
    refine ⟨by walk_at "sz", fun pt hpt => ?_⟩
    refine ⟨_, SqT.of upd_same, rfl, ?_⟩
    simp only [gCons, gNil]
    walk_at "rd"
    refine forES fun R kR => ?_
    walk_at "rd"
    refine kR sq (fun i σ H' => Same H H' ∧ i ≤ (tl sq).length ∧ ∃ (y k l : Str) (x6 x7 : Option V), σ = [some (.str y), some (.str sq), some (.int C), some (.str m), some (.str k), some (.str l), x6, x7] ∧ rrun C (strictB m) (z.length : Int) ((tl sq).take i) = some ((y.length : Int), (l.length : Int)) ∧ k.length ≤ i ∧ l.length ≤ i ∧ (y.length : Int) ≤ C) _ ⟨same_new hpt _, Nat.zero_le _, z, _, _, _, _, rfl, ?_, by decide, by decide, hz⟩ ?_ ?_
    · rw [List.take_zero]; rfl
    · rintro i c σ H' Tp hc ⟨s1, hi, y, k, l, x6, x7, rfl, hrun, hk, hl, hy⟩ hT
      have hstep := rrun_take C (strictB m) (z.length : Int) (tl sq) i c hc
      rw [hrun] at hstep
      have hlt : i < (tl sq).length := (List.getElem?_eq_some_iff.mp hc).1
      have hsq := tl_len sq
      walk_at "rd"
      refine ⟨_, SqT.of upd_same, rfl, ?_⟩
      simp only [gCons, gNil]
      walk_at "rd"
      have s2 : Same H (upd H' Tp (.tup [.int (i : Nat), .str ⟨#[c]⟩])) := s1.trans (same_new hT _)
      have one : (⟨#[c]⟩ : Str).length = 1 := rfl
      have cons1 : ∀ a : Str, a.length ≤ 100000 - 1 → a.length + (⟨#[c]⟩ : Str).length ≤ sizeLine := fun a h => by rw [one]; exact sz_of (by omega)
      have fail : rstp C (strictB m) (some ((y.length : Int), (l.length : Int))) c = none → ∀ p, upd H' Tp (.tup [.int (i : Nat), .str ⟨#[c]⟩]) p = none → Q (.ref p) (upd (upd H' Tp (.tup [.int (i : Nat), .str ⟨#[c]⟩])) p (.lst [.str (Str.ofString "failed"), .int (i : Nat)])) := fun e p hp => by
        rw [e] at hstep
        exact q1 p i _ (s2.trans (same_new hp _)) (s2.free hp) upd_same (rrun_none hstep)
      have head : 1 ≤ y.length → ∀ {H2 : Hp} {Q2 : VK}, (∀ a : Nat, Q2 (.str ⟨#[a]⟩) H2) → rIxS (.str y) (.int 0) H2 Q2 := fun h H2 Q2 k => by
        have hl := tl_len y
        have : (0 : Nat) < (tl y).length := by omega
        exact ix_str_at (by omega) (by decide) (List.getElem?_eq_getElem this) (k _)
      by_cases hc45 : c = 45
      · rw [decide_eq_true (one_dash.mpr hc45), if_pos rfl]
        by_cases hy0 : y.length = 0
        · rw [decide_eq_true (str_nil.mpr hy0), if_pos rfl]
          refine ⟨by walk_at "sz", fail ?_⟩
          simp only [rstp, if_pos hc45]
          rw [if_pos (by omega)]
        · rw [decide_eq_false (fun h => hy0 (str_nil.mp h)), if_neg (by decide)]
          refine head (by omega) fun a => ⟨_, rfl, cons1 k (by omega), ?_⟩
          refine ⟨y, rfl, sz_of (by omega), s2, by omega, _, rfl, ⟨_, rfl⟩, ⟨_, rfl⟩, ?_, ?_, by omega, ?_⟩
          · rw [hstep, cut1_len (by omega)]
            simp only [rstp, if_pos hc45]
            rw [if_neg (by omega)]
            congr 2
            omega
          · rw [slen_app]
            show k.length + 1 ≤ _
            omega
          · rw [cut1_len (by omega)]
            omega
      · rw [decide_eq_false (fun h => hc45 (one_dash.mp h)), if_neg (by decide)]
        refine ⟨sz_of (by omega), ?_⟩
        by_cases hf : (y.length : Int) < C
        · rw [decide_eq_true hf, if_pos rfl]
          refine ⟨cons1 y (by omega), s2, by omega, ⟨_, rfl⟩, ⟨_, rfl⟩, ?_, by omega, by omega, ?_⟩
          · rw [hstep, slen_app, one]
            simp only [rstp, if_neg hc45, if_pos hf]
            congr 2
          · rw [slen_app, one]
            omega
        · rw [decide_eq_false hf, if_neg (by decide)]
          by_cases hm1 : m = Str.ofString "oldest"
          · rw [decide_eq_true hm1, if_pos rfl]
            have hs : strictB m = false := by rw [hm1]; decide +kernel
            refine head (by omega) fun a => ⟨_, rfl, cons1 l (by omega), ?_⟩
            refine ⟨y, rfl, sz_of (by omega), _, rfl, cons1 _ (by rw [cut1_len (by omega)]; omega), s2, by omega, ⟨_, rfl⟩, ⟨_, rfl⟩, ?_, by omega, ?_, ?_⟩
            · rw [hstep, slen_app, slen_app, cut1_len (by omega), one]
              simp only [rstp, if_neg hc45, if_neg hf, hs]
              rw [if_neg (by decide)]
              show some ((y.length : Int), (l.length : Int) + 1) = some (((y.length - 1 + 1 : Nat) : Int), ((l.length + 1 : Nat) : Int))
              congr 2
              omega
            · rw [slen_app]
              show l.length + 1 ≤ _
              omega
            · rw [slen_app, cut1_len (by omega), one]
              omega
          · rw [decide_eq_false hm1, if_neg (by decide)]
            by_cases hm2 : m = Str.ofString "newest"
            · rw [decide_eq_true hm2, if_pos rfl]
              have hs : strictB m = false := by rw [hm2]; decide +kernel
              refine ⟨cons1 l (by omega), s2, by omega, ⟨_, rfl⟩, ⟨_, rfl⟩, ?_, by omega, ?_, hy⟩
              · rw [hstep, slen_app, one]
                simp only [rstp, if_neg hc45, if_neg hf, hs]
                rw [if_neg (by decide)]
                congr 2
              · rw [slen_app, one]
                omega
            · rw [decide_eq_false hm2, if_neg (by decide)]
              have hs : strictB m = true := by
                simp only [isModeV, Bool.or_eq_true, decide_eq_true_eq] at hm
                rcases hm with h | h | h
                · exact absurd h hm1
                · exact absurd h hm2
                · unfold strictB; exact decide_eq_true h
              refine ⟨by walk_at "sz", fail ?_⟩
              simp only [rstp, if_neg hc45, if_neg hf, hs]
              rfl
    · rintro σ H' ⟨s1, _, y, k, l, x6, x7, rfl, hrun, _, hl, hy⟩
      rw [List.take_length] at hrun
      walk_at "rd"
      refine ⟨by walk_at "sz", fun p hp => q2 p y k l _ (s1.trans (same_new hp _)) (s1.free hp) upd_same hrun hy (by have := tl_len sq; omega)⟩

theorem forR2 {ta : TA} {g : TG} {tb : TS} {D : Ends} {σ : L2.St} {H : Hp}
    (h : ∀ R : List V → Hp → Prop, (∀ (i j : Int) (Pv : Nat → L2.St → Hp → Prop) (H1 : Hp), -(2 ^ 62) ≤ i → i < 2 ^ 62 → -(2 ^ 62) ≤ j → j < 2 ^ 62 → Pv 0 σ H1 →
      (∀ k σ H, k < (j - i).toNat → Pv k σ H → g (.int (i + (k : Int))) σ H fun σ2 H2 => tb { D with nx := Pv (k + 1), ct := Pv (k + 1), bk := D.nx } σ2 H2) → (∀ σ H, Pv (j - i).toNat σ H → D.nx σ H) → R [.int i, .int j] H1) → ta σ H R) : tFor (iRng2 ta) g tb D σ H :=
  h _ fun i j Pv H1 h1 h2 h3 h4 h0 hst hd => ⟨i, j, rfl, ⟨h1, h2, h3, h4⟩, for_range (lo := i) (n := (j - i).toNat) Pv h0 hst hd⟩
/-! ### _law_error, _law_trials -/
def sp_err (K : PySem.W.Frag) : Sp := fun vs H Q _ => ∃ (f : Int) (x m n : V), vs = [.int f, x, m, n] ∧ Kd K H x ∧ Kd K H m ∧ Kd K H n ∧ isNatV n = false ∧
  ∀ H1, Same H H1 → Q (if progV x = none then .str "program" else if f = 0 ∧ isModeV m = false then .str "mode" else .str "integer") H1
theorem ok__law_error (T : Top K mg) : FnOk P w K mg base CX0 36 T.a__law_error T.d__law_error ["_law_function", "_law_program_here", "_law_mode", "_law_length"] (sp_err K) := by
  have G_least_capacity := ok_least_capacity (w := w) (base := base) T
  have G_lossless_capacity := ok_lossless_capacity (w := w) (base := base) T
  refine T.F__law_error.ok sc__law_error (fun vs H Q E h => ?_) (fun cdv A outer s H vs Q E hr h => ?_)
  · obtain ⟨f, x, m, n, rfl, _⟩ := h
    rfl
  · obtain ⟨f, x, m, n, rfl, kx, km, kn, hn, q⟩ := h
    refine ⟨_, (pss_cons (ps_try_mix (tb := fun W => tIfS (tTest (tOp rEq (tVar 0) (tC (.int 0)))) (tDrop (tCall (sp_least K T.x_InvalidProgram T.x_InvalidMode T.x_InvalidInteger) [] (WA W) (tCons (tVar 1) (tCons (tVar 2) (tCons (tVar 3) tNil))))) (tDrop (tCall (sp_lossless K T.x_InvalidProgram T.x_InvalidInteger) [] (WA W) (tCons (tVar 1) (tCons (tVar 3) tNil))))) (l := [⟨.ref T.x_InvalidProgram, none, fun _ _ _ => tRet (tC (.str "program"))⟩, ⟨.ref T.x_InvalidMode, none, fun _ _ _ => tRet (tC (.str "mode"))⟩, ⟨.ref T.x_InvalidInteger, none, fun _ _ _ => tRet (tC (.str "integer"))⟩]) rfl rfl sc__law_error.nd (by simp) (fun W pn xe tk _ => by exact (pss_one (ps_if (pt_cmpR op_eq (pv 0) pe_int (nomark _)) (pss_one (ps_expr (pe_call G_least_capacity (hr.mono (by first | decide | omega)) rfl T.m_least_capacity T.F_least_capacity.kp T.b_least_capacity .nil (passAll tk) (pa_cons (pv 1) (pa_cons (pv 2) (pa_cons (pv 3) pa_nil)))))) (pss_one (ps_expr (pe_call G_lossless_capacity (hr.mono (by first | decide | omega)) rfl T.m_lossless_capacity T.F_lossless_capacity.kp T.b_lossless_capacity .nil (passAll tk) (pa_cons (pv 1) (pa_cons (pv 3) pa_nil)))))))) (.plain ⟨rfl, by decide, .inl T.g_InvalidProgram⟩ (fun a oe cls d pn _ _ => pss_one (ps_ret pe_str)) (.plain ⟨rfl, by decide, .inl T.g_InvalidMode⟩ (fun a oe cls d pn _ _ => pss_one (ps_ret pe_str)) (.plain ⟨rfl, by decide, .inl T.g_InvalidInteger⟩ (fun a oe cls d pn _ _ => pss_one (ps_ret pe_str)) .nil))))
      (pss_one (ps_ret pe_str))), ?_⟩
    have hst : start ["_law_function", "_law_program_here", "_law_mode", "_law_length"] [.int f, x, m, n] = [some (.int f), some x, some m, some n] := rfl
    rw [hst]
    walk_at "rd"
    by_cases hf : f = 0
    · rw [decide_eq_true hf, if_pos rfl]
      refine ⟨x, m, n, rfl, kx, km, kn, fun e H1 s1 σ => ⟨true, T.e_InvalidProgram, fun _ a _ => ?_, fun h => by cases h⟩,
        fun ps e hm H1 s1 σ => ⟨false, T.ne_InvalidMode_InvalidProgram, (fun h => by cases h), fun _ => ⟨true, T.e_InvalidMode, fun _ a _ => ?_, fun h => by cases h⟩⟩,
        fun ps e hm hn H1 s1 σ => ⟨false, T.ne_InvalidInteger_InvalidProgram, (fun h => by cases h), fun _ => ⟨false, T.ne_InvalidInteger_InvalidMode, (fun h => by cases h), fun _ => ⟨true, T.e_InvalidInteger, fun _ a _ => ?_, fun h => by cases h⟩⟩⟩,
        fun ps s k e hm hk hmm h0 => ?_⟩
      · simp only [Cls1.ends, Cls1.at]
        walk_at "rd"
        have := q H1 s1
        rwa [if_pos e] at this
      · simp only [Cls1.ends, Cls1.at]
        walk_at "rd"
        have := q H1 s1
        rwa [if_neg (by rw [e]; simp), if_pos ⟨hf, hm⟩] at this
      · simp only [Cls1.ends, Cls1.at]
        walk_at "rd"
        have := q H1 s1
        rwa [if_neg (by rw [e]; simp), if_neg (by rw [hm]; simp)] at this
      · rw [hk] at hn
        exact absurd h0 (of_decide_eq_false hn)
    · rw [decide_eq_false hf, if_neg (by decide)]
      refine ⟨x, n, rfl, kx, kn, fun e H1 s1 σ => ⟨true, T.e_InvalidProgram, fun _ a _ => ?_, fun h => by cases h⟩,
        fun ps e hn H1 s1 σ => ⟨false, T.ne_InvalidInteger_InvalidProgram, (fun h => by cases h), fun _ => ⟨false, T.ne_InvalidInteger_InvalidMode, (fun h => by cases h), fun _ => ⟨true, T.e_InvalidInteger, fun _ a _ => ?_, fun h => by cases h⟩⟩⟩,
        fun ps k e hk h0 => ?_⟩
      · simp only [Cls1.ends, Cls1.at]
        walk_at "rd"
        have := q H1 s1
        rwa [if_pos e] at this
      · simp only [Cls1.ends, Cls1.at]
        walk_at "rd"
        have := q H1 s1
        rwa [if_neg (by rw [e]; simp), if_neg (fun h => hf h.1)] at this
      · rw [hk] at hn
        exact absurd h0 (of_decide_eq_false hn)
def optV (good : Bool) (lo T : Int) (k : Nat) : V := if good = true ∧ max lo T < lo + (k : Nat) then .int (max lo T) else .non
theorem optV_succ (g : Bool) (lo T : Int) (k : Nat) : optV g lo T (k + 1) = if (decide (optV g lo T k = .non) && (g && decide (T ≤ lo + (k : Nat)))) = true then .int (lo + (k : Nat)) else optV g lo T k := by
  unfold optV
  cases g with
  | false => simp
  | true =>
    simp only [true_and]
    by_cases h1 : max lo T < lo + (k : Nat)
    · rw [if_pos h1, if_pos (by omega), if_neg (by rw [decide_eq_false (by intro h; cases h)]; simp)]
    · rw [if_neg h1]
      by_cases h2 : T ≤ lo + (k : Nat)
      · rw [if_pos (by omega), if_pos (by rw [decide_eq_true rfl, decide_eq_true h2]; rfl)]
        congr 1
        omega
      · rw [if_neg (by omega), if_neg (by rw [decide_eq_false h2]; simp)]
theorem optV_zero (g : Bool) (lo T : Int) : optV g lo T 0 = .non := by
  unfold optV
  rw [if_neg (by omega)]
def thr (st : Bool) (p : Prf) (n : Int) : Int := if st = true then n + p.high else p.fall
theorem rgood_thr {C n : Int} {st : Bool} {p : Prf} (ok : p.Ok) : rgood C st n p = (decide (-p.low ≤ n) && decide (thr st p n ≤ C)) := by
  have := ok.f3
  unfold rgood thr
  cases st with
  | true =>
    rw [if_pos rfl, Bool.eq_iff_iff]
    simp only [Bool.and_eq_true, decide_eq_true_eq, Bool.not_true, Bool.false_or]
    omega
  | false =>
    rw [if_neg (by decide), Bool.eq_iff_iff]
    simp only [Bool.and_eq_true, decide_eq_true_eq, Bool.not_false, Bool.true_or, and_true]
    omega
theorem fall_takes_from : ∀ (s : List Nat) (p : Prf), p.Ok → p.fall ≤ p.takes → (s.foldl Prf.pstp p).fall ≤ (s.foldl Prf.pstp p).takes
  | [], _, _, h => h
  | c :: s, p, ok, h => by
    rw [List.foldl_cons]
    refine fall_takes_from s _ (Prf.ok_pstp ok c) ?_
    have f1 := ok.f1
    have oh := ok.oh
    have l0 := ok.l0
    have f2 := ok.f2
    simp only [Prf.pstp]
    generalize p.off = o at *
    split <;> omega
theorem fall_takes (s : List Nat) : (prof s).fall ≤ (prof s).takes := fall_takes_from s _ Prf.ok_zero (by decide)
def sp_trials (K : PySem.W.Frag) : Sp := fun vs H Q _ => ∃ (s m : Str) (n : Int), vs = [.str s, .str m, .int n] ∧ 0 ≤ n ∧ n ≤ 20 ∧ s.length ≤ 200 ∧ isModeV (.str m) = true ∧
  ∀ t H1, Same H H1 → H t = none → H1 t = some (.lst [leastV (prof (tl s)) m n, roomV (prof (tl s)) n]) → Q (.ref t) H1
theorem ok__law_trials (T : Top K mg) : FnOk P w K mg base CX0 2 T.a__law_trials T.d__law_trials ["_law_full", "_law_mode", "_law_length"] (sp_trials K) := by
  have G__law_run := ok__law_run (w := w) (base := base) T
  refine T.F__law_trials.ok sc__law_trials (fun vs H Q E h => ?_) (fun cdv A outer s H vs Q E hr h => ?_)
  · obtain ⟨s, m, n, rfl, _⟩ := h
    rfl
  · obtain ⟨sq, m, n, rfl, n0, n1, hsl, hm, q⟩ := h
    refine ⟨_, (pss_cons (ps_asg (pe_tup (pa_cons pe_non (pa_cons pe_non pa_nil))) (pg_tup (by rfl) (pgs_cons (pg_name (i := 3) sc__law_trials.nd rfl (Or.inl rfl)) (pgs_cons (pg_name (i := 4) sc__law_trials.nd rfl (Or.inl rfl)) pgs_nil))))
      (pss_cons (ps_for PassesOwn.never rfl (pi_range2 (by rfl) T.z_range (pa_cons (pe_callB (call_max2 rfl) (by rfl) T.z_max (by decide +kernel) (pa_cons pe_int (pa_cons (pv 2) pa_nil))) (pa_cons (pe_op op_add (pe_op op_add (pv 2) (pe_callB call_len_str (by rfl) T.z_len (by decide +kernel) (pa_cons (pv 0) pa_nil))) pe_int) pa_nil))) (pg_name (i := 5) sc__law_trials.nd rfl (Or.inl rfl)) (pss_cons (ps_set (i := 6) sc__law_trials.nd rfl (Or.inl rfl) (pe_call G__law_run (hr.mono (by first | decide | omega)) rfl T.m__law_run T.F__law_run.kp T.b__law_run .nil pass0 (pa_cons (pe_op op_rep_str pe_str (pv 2)) (pa_cons (pv 0) (pa_cons (pv 5) (pa_cons (pv 1) pa_nil))))))
      (pss_cons (ps_if (PW.pt (pw_and (pt_cmpR op_eq (pe_ix ix_list (pv 6) pe_int (fun _ _ => rfl)) pe_str (nomark _)) (pw_and1 (pt_cmpR op_isN (pv 3) pe_non (nomark _))))) (pss_one (ps_set (i := 3) sc__law_trials.nd rfl (Or.inl rfl) (pv 5))) pss_nil)
      (pss_one (ps_if (PW.pt (pw_and (pt_cmpR op_eq (pe_ix ix_list (pv 6) pe_int (fun _ _ => rfl)) pe_str (nomark _)) (pw_and (pt_cmpR op_eq (pe_ix ix_list (pv 6) pe_int (fun _ _ => rfl)) pe_str (nomark _)) (pw_and1 (pt_cmpR op_isN (pv 4) pe_non (nomark _)))))) (pss_one (ps_set (i := 4) sc__law_trials.nd rfl (Or.inl rfl) (pv 5))) pss_nil)))))
      (pss_one (ps_ret (pe_lst (pa_cons (pv 3) (pa_cons (pv 4) pa_nil))))))), ?_⟩
    have hst : start ["_law_full", "_law_mode", "_law_length", "_law_least", "_law_lossless", "_law_capacity", "_law_found"] [.str sq, .str m, .int n] = (some (.str sq) :: some (.str m) :: some (.int n) :: List.replicate (["_law_full", "_law_mode", "_law_length", "_law_least", "_law_lossless", "_law_capacity", "_law_found"].length - 3) none) := rfl
    rw [hst]
    walk_at "rd"
    refine ⟨by walk_at "sz", fun pt hpt => ⟨_, SqT.of upd_same, rfl, ?_⟩⟩
    simp only [gCons, gNil, List.length_cons, List.length_nil, Nat.reduceAdd, Nat.reduceSub, List.replicate]
    walk_at "rd"
    refine forR2 fun R kR => ?_
    walk_at "rd"
    have hlen := tl_len sq
    have ok := prof_ok (tl sq)
    have pb := prof_bound (tl sq) _ (Nat.le_refl _)
    have ftk := fall_takes (tl sq)
    generalize hp : prof (tl sq) = p at *
    have elo : (if n > 1 then n else 1) = max 1 n := by split <;> omega
    refine ⟨sz_of (by omega), ?_⟩
    rw [elo]
    have hlo1 : 1 ≤ max 1 n := by omega
    have hlon : n ≤ max 1 n := by omega
    have hlo20 : max 1 n ≤ 20 := by omega
    refine kR _ _ (fun k σ H' => Same H H' ∧ ∃ x5 x6 : Option V, σ = [some (.str sq), some (.str m), some (.int n), some (optV (decide (-p.low ≤ n)) (max 1 n) (thr (strictB m) p n) k), some (optV (decide (-p.low ≤ n)) (max 1 n) (n + p.high) k), x5, x6]) _ (by omega) (by omega) (by omega) (by omega) ⟨same_new hpt _, _, _, by rw [optV_zero, optV_zero]⟩ ?_ ?_
    · rintro k σ H' hk ⟨s1, x5, x6, rfl⟩
      walk_at "rd"
      have hC1 : 1 ≤ max 1 n + (k : Int) := by omega
      have hnC : n ≤ max 1 n + (k : Int) := by omega
      have hC1000 : max 1 n + (k : Int) ≤ 1000 := by omega
      have hr0 := rrun_is (C := max 1 n + (k : Int)) (n := n) (strict := strictB m) n0 hnC (tl sq)
      rw [hp] at hr0
      have hgt := rgood_thr (C := max 1 n + (k : Int)) (n := n) (st := strictB m) ok
      have E1 := optV_succ (decide (-p.low ≤ n)) (max 1 n) (thr (strictB m) p n) k
      have E2 := optV_succ (decide (-p.low ≤ n)) (max 1 n) (n + p.high) k
      have f3 := ok.f3
      have hsr : (srep (Str.ofString "a") n.toNat).length = n.toNat := by
        rw [← tl_len, tl_srep, show tl (Str.ofString "a") = [97] from by decide +kernel]
        simp
      refine ⟨_, _, rfl, rfl, n0, by omega, ?_, ?_⟩
      · rw [show (Str.ofString "a").length = 1 from by decide +kernel]; omega
      have hnn : ((n.toNat : Nat) : Int) = n := by omega
      refine ⟨_, sq, m, _, rfl, hC1, by rw [hsr, hnn]; exact hnC, hC1000, by omega, hm, fun t at_ H10 s10 ht htv hno => ?_, fun t y kk l H10 s10 ht htv hyes hy hl => ?_⟩
      · rw [hsr, hnn, hr0] at hno
        have hg0 : rgood (max 1 n + (k : Int)) (strictB m) n p = false := by
          cases h : rgood (max 1 n + (k : Int)) (strictB m) n p with
          | false => rfl
          | true => rw [if_pos h] at hno; cases hno
        rw [hg0] at hgt
        have G2 : (decide (-p.low ≤ n) && decide (n + p.high ≤ max 1 n + (k : Int))) = false := by
          have := hgt.symm
          unfold thr at this
          rw [Bool.and_eq_false_iff, decide_eq_false_iff_not, decide_eq_false_iff_not] at this ⊢
          rcases this with h | h
          · exact .inl h
          · by_cases z : -p.low ≤ n
            · refine .inr fun h2 => h ?_
              split <;> omega
            · exact .inl z
        rw [← hgt, Bool.and_false, if_neg (by decide)] at E1
        rw [G2, Bool.and_false, if_neg (by decide)] at E2
        have nd : ¬ V.str (Str.ofString "failed") = V.str (Str.ofString "done") := by intro h; injection h with h; exact absurd h (by decide +kernel)
        refine ix_at (SqL.of htv) (by decide) rfl ⟨rfl, ?_⟩
        rw [decide_eq_false nd, if_neg (by decide)]
        refine ix_at (SqL.of htv) (by decide) rfl ⟨rfl, ?_⟩
        rw [if_neg (by decide)]
        exact ⟨s1.trans s10, E1.symm, E2.symm, ⟨_, rfl⟩, _, rfl⟩
      · rw [hsr, hnn, hr0] at hyes
        have hg0 : rgood (max 1 n + (k : Int)) (strictB m) n p = true := by
          cases h : rgood (max 1 n + (k : Int)) (strictB m) n p with
          | true => rfl
          | false => rw [if_neg (by rw [h]; decide)] at hyes; cases hyes
        rw [if_pos hg0] at hyes
        injection hyes with hyes
        have v2 : max 0 (n + p.high - (max 1 n + (k : Int))) = (l.length : Int) := congrArg Prod.snd hyes
        rw [hg0] at hgt
        have g0 : decide (-p.low ≤ n) = true := by
          have := hgt.symm
          rw [Bool.and_eq_true] at this
          exact this.1
        rw [← hgt, Bool.and_true] at E1
        rw [g0, Bool.true_and] at E2
        rw [g0] at E1 ⊢
        generalize optV true (max 1 n) (thr (strictB m) p n) k = A at *
        generalize optV true (max 1 n) (n + p.high) k = B at *
        refine ix_at (SqL.of htv) (by decide) rfl ⟨rfl, ?_⟩
        rw [decide_eq_true (rfl : V.str (Str.ofString "done") = V.str (Str.ofString "done")), if_pos rfl]
        have S := s1.trans s10
        cases hA : decide (A = V.non) with
        | true =>
          rw [hA, if_pos rfl] at E1
          rw [if_pos rfl]
          refine ix_at (SqL.of htv) (by decide) rfl ⟨rfl, ?_⟩
          rw [decide_eq_true (rfl : V.str (Str.ofString "done") = V.str (Str.ofString "done")), if_pos rfl]
          refine ix_at (SqL.of htv) (by decide) rfl ⟨rfl, ?_⟩
          by_cases hl0 : n + p.high ≤ max 1 n + (k : Int)
          · have : V.str l = V.str (Str.ofString "") := congrArg V.str (str_nil.mpr (by omega))
            rw [decide_eq_true this, if_pos rfl]
            rw [decide_eq_true hl0, Bool.and_true] at E2
            cases hB : decide (B = V.non) with
            | true =>
              rw [hB, if_pos rfl] at E2
              rw [if_pos rfl]
              exact ⟨S, E1.symm, E2.symm, ⟨_, rfl⟩, _, rfl⟩
            | false =>
              rw [hB, if_neg (by decide)] at E2
              rw [if_neg (by decide)]
              exact ⟨S, E1.symm, E2.symm, ⟨_, rfl⟩, _, rfl⟩
          · have : ¬ V.str l = V.str (Str.ofString "") := fun z => by
              injection z with z
              have := str_nil.mp z
              omega
            rw [decide_eq_false this, if_neg (by decide)]
            rw [decide_eq_false hl0, Bool.and_false, if_neg (by decide)] at E2
            exact ⟨S, E1.symm, E2.symm, ⟨_, rfl⟩, _, rfl⟩
        | false =>
          rw [hA, if_neg (by decide)] at E1
          rw [if_neg (by decide)]
          refine ix_at (SqL.of htv) (by decide) rfl ⟨rfl, ?_⟩
          rw [decide_eq_true (rfl : V.str (Str.ofString "done") = V.str (Str.ofString "done")), if_pos rfl]
          refine ix_at (SqL.of htv) (by decide) rfl ⟨rfl, ?_⟩
          by_cases hl0 : n + p.high ≤ max 1 n + (k : Int)
          · have : V.str l = V.str (Str.ofString "") := congrArg V.str (str_nil.mpr (by omega))
            rw [decide_eq_true this, if_pos rfl]
            rw [decide_eq_true hl0, Bool.and_true] at E2
            cases hB : decide (B = V.non) with
            | true =>
              rw [hB, if_pos rfl] at E2
              rw [if_pos rfl]
              exact ⟨S, E1.symm, E2.symm, ⟨_, rfl⟩, _, rfl⟩
            | false =>
              rw [hB, if_neg (by decide)] at E2
              rw [if_neg (by decide)]
              exact ⟨S, E1.symm, E2.symm, ⟨_, rfl⟩, _, rfl⟩
          · have : ¬ V.str l = V.str (Str.ofString "") := fun z => by
              injection z with z
              have := str_nil.mp z
              omega
            rw [decide_eq_false this, if_neg (by decide)]
            rw [decide_eq_false hl0, Bool.and_false, if_neg (by decide)] at E2
            exact ⟨S, E1.symm, E2.symm, ⟨_, rfl⟩, _, rfl⟩
    · rintro σ H' ⟨s1, x5, x6, rfl⟩
      walk_at "rd"
      have h0 := ok.h0
      obtain ⟨b1, b2, b3, b4, b5⟩ := pb
      have a2 : optV (decide (-p.low ≤ n)) (max 1 n) (n + p.high) (n + (sq.length : Int) + 2 - max 1 n).toNat = roomV p n := by
        unfold optV roomV
        by_cases h : -p.low ≤ n
        · rw [if_pos h, if_pos ⟨decide_eq_true h, by omega⟩]
          congr 1
          omega
        · rw [if_neg h, if_neg (fun z => h (of_decide_eq_true z.1))]
      have a1 : optV (decide (-p.low ≤ n)) (max 1 n) (thr (strictB m) p n) (n + (sq.length : Int) + 2 - max 1 n).toNat = leastV p m n := by
        unfold leastV thr strictB
        by_cases hs : m = "strict"
        · rw [if_pos hs, decide_eq_true hs, if_pos rfl]
          exact a2
        · rw [if_neg hs, decide_eq_false hs, if_neg (by decide)]
          unfold optV
          by_cases h : -p.low ≤ n
          · rw [if_pos h, if_pos ⟨decide_eq_true h, by omega⟩]
          · rw [if_neg h, if_neg (fun z => h (of_decide_eq_true z.1))]
      rw [a1, a2]
      exact ⟨by walk_at "sz", fun p1 hp1 => q p1 _ (s1.trans (same_new hp1 _)) (s1.free hp1) upd_same⟩

theorem ne_sing {K : PySem.W.Frag} {H : Hp} {a b : Addr} {xs : List V} {Q : VK} (hx : xs.all okF = true) (he : eqL xs xs = true) (ha : SqL K H a xs) (hb : SqL K H b xs) (q : Q (.bl false) H) : rNeD K (.ref a) (.ref b) H Q := by
  refine ne_lists ha hb hx hx ?_
  rw [he]; exact q
def IoN (u : V) : Prop := u = .non ∨ ∃ i, u = .int i
theorem ion_room (p : Prf) (n : Int) : IoN (roomV p n) := by
  unfold roomV
  split
  · exact .inr ⟨_, rfl⟩
  · exact .inl rfl
theorem ion_least (p : Prf) (m : Str) (n : Int) : IoN (leastV p m n) := by
  unfold leastV
  split
  · exact ion_room p n
  · split
    · exact .inr ⟨_, rfl⟩
    · exact .inl rfl
theorem ne_two {K : PySem.W.Frag} {H : Hp} {a b : Addr} {u v : V} {Q : VK} (hu : IoN u) (hv : IoN v) (ha : SqL K H a [u, v]) (hb : SqL K H b [u, v]) (q : Q (.bl false) H) : rNeD K (.ref a) (.ref b) H Q := by
  rcases hu with rfl | ⟨i, rfl⟩ <;> rcases hv with rfl | ⟨j, rfl⟩
  · exact ⟨_, _, .lst ha (.cons .non (.cons .non .nil)), .lst hb (.cons .non (.cons .non .nil)), rfl, rfl, by simpa [PyData.eqv, PyData.eqvAll] using q⟩
  · exact ⟨_, _, .lst ha (.cons .non (.cons (.int _) .nil)), .lst hb (.cons .non (.cons (.int _) .nil)), rfl, rfl, by simpa [PyData.eqv, PyData.eqvAll] using q⟩
  · exact ⟨_, _, .lst ha (.cons (.int _) (.cons .non .nil)), .lst hb (.cons (.int _) (.cons .non .nil)), rfl, rfl, by simpa [PyData.eqv, PyData.eqvAll] using q⟩
  · exact ⟨_, _, .lst ha (.cons (.int _) (.cons (.int _) .nil)), .lst hb (.cons (.int _) (.cons (.int _) .nil)), rfl, rfl, by simpa [PyData.eqv, PyData.eqvAll] using q⟩
theorem least_ok (T : Top K mg) {H' : Hp} {z m : Str} {f : List Nat} {d : Nat} {n : Int} {Q' : VK} (hP : Pr d (tl z) f) (hd : d ≤ 20) (hz : z.length ≤ 10000) (hm : isModeV (.str m) = true) (ml : m.length ≤ 100) (hn : 0 ≤ n) (k : ∀ H1, Same H' H1 → Q' (leastV (prof f) m n) H1) :
    sp_least K T.x_InvalidProgram T.x_InvalidMode T.x_InvalidInteger [.str z, .str m, .int n] H' Q' E0 := by
  obtain ⟨ps, e1, e2, e3, e4, e5⟩ := rpt_of hP hd
  have hnn : isNatV (.int n) = true := decide_eq_true hn
  refine ⟨.str z, .str m, .int n, rfl, .str _ (by omega), .str _ (by omega), .int _, fun e => absurd (e1.symm.trans e) (by simp), fun ps' _ h => absurd (hm.symm.trans h) (by simp), fun ps' _ _ h => absurd (hnn.symm.trans h) (by simp), fun ps' s j e es ej _ _ H1 s1 => ?_⟩
  cases e1.symm.trans e
  cases es
  cases ej
  rw [e2]
  exact k H1 s1
theorem loss_ok (T : Top K mg) {H' : Hp} {z : Str} {f : List Nat} {d : Nat} {n : Int} {Q' : VK} (hP : Pr d (tl z) f) (hd : d ≤ 20) (hz : z.length ≤ 10000) (hn : 0 ≤ n) (k : ∀ H1, Same H' H1 → Q' (roomV (prof f) n) H1) :
    sp_lossless K T.x_InvalidProgram T.x_InvalidInteger [.str z, .int n] H' Q' E0 := by
  obtain ⟨ps, e1, e2, e3, e4, e5⟩ := rpt_of hP hd
  have hnn : isNatV (.int n) = true := decide_eq_true hn
  refine ⟨.str z, .int n, rfl, .str _ (by omega), .int _, fun e => absurd (e1.symm.trans e) (by simp), fun ps' _ h => absurd (hnn.symm.trans h) (by simp), fun ps' j e ej _ H1 s1 => ?_⟩
  cases e1.symm.trans e
  cases ej
  rw [e2]
  exact k H1 s1
theorem mul_of (p : Prf) (N : Nat) (h : 2 ≤ N) : p.mul N = ⟨p.puts * N, p.takes * N, p.low + min 0 (p.off * (N - 1)), p.high + max 0 (p.off * (N - 1)), max (max p.fall (p.high - p.low - p.off)) (p.high - p.low - p.off * (N - 1))⟩ := by
  unfold Prf.mul
  rw [if_neg (by omega)]
  dsimp only
  rw [if_neg (by omega)]
theorem m_ab (N : Nat) (h : 10 ≤ N) : prof (List.replicate N [97, 98, 45]).flatten = ⟨2 * N, 1 * N, 0, N + 1, 1⟩ := by
  rw [prof_rep, show prof [97, 98, 45] = ⟨2, 1, 0, 2, 1⟩ from rfl, mul_of _ _ (by omega)]
  refine Prf.ext rfl rfl ?_ ?_ ?_ <;> simp only [Prf.off] <;> omega
theorem m_abd (N : Nat) (h : 10 ≤ N) : (prof (List.replicate N [97, 98, 45, 45, 45]).flatten).low = -N := by
  rw [prof_rep, show prof [97, 98, 45, 45, 45] = ⟨2, 3, -1, 2, 3⟩ from rfl, mul_of _ _ (by omega)]
  simp only [Prf.off]
  omega
theorem m_hill (N : Nat) (h : 10 ≤ N) : prof ((List.replicate N [97]).flatten ++ (List.replicate N [45]).flatten) = ⟨N, N, 0, N, N⟩ := by
  rw [prof_app, prof_rep, prof_rep, show prof [97] = ⟨1, 0, 0, 1, 0⟩ from rfl, show prof [45] = ⟨0, 1, -1, 0, 1⟩ from rfl, mul_of _ _ (by omega), mul_of _ _ (by omega)]
  refine Prf.ext ?_ ?_ ?_ ?_ ?_ <;> simp only [Prf.add, Prf.off] <;> omega
theorem ix_two {K : PySem.W.Frag} {H' : Hp} {pl : Addr} {v a b : Int} {R : VK} (h : H' pl = some (.lst [.int a, .int b])) (hv : v = 0 ∨ v = 1) (ha : 0 ≤ a) (hb : 0 ≤ b) (k : ∀ w : Int, 0 ≤ w → R (.int w) H') : rIxL K (.ref pl) (.int v) H' R := by
  rcases hv with rfl | rfl
  · exact ix_at (SqL.of h) (by decide) rfl (k a ha)
  · exact ix_at (SqL.of h) (by decide) rfl (k b hb)
theorem ne_int {K : PySem.W.Frag} {H : Hp} {i j : Int} {Q : VK} (h : i = j) (q : Q (.bl false) H) : rNeD K (.int i) (.int j) H Q := by
  subst h
  exact ⟨_, _, .int _, .int _, rfl, rfl, by simpa [PyData.eqv] using q⟩
theorem rep_ok (T : Top K mg) {H' : Hp} {z : Str} {f : List Nat} {d : Nat} {n : Nat} {Q' : VK} (hP : Pr d (tl z) f) (hd : d ≤ 18) (hz : z.length ≤ 5000) (hn : n ≤ 10 ^ 30) (k : ∀ H1 r, Same H' H1 → Pr (d + 1) (tl r) (List.replicate n f).flatten → r.length ≤ z.length + 40 → Q' (.str r) H1) :
    sp_repeat K T.x_InvalidProgram T.x_InvalidInteger T.x_LimitExceeded [.str z, .int (n : Nat)] H' Q' E0 := by
  obtain ⟨ps, e1, e2, e3, e4, e5⟩ := rpt_of hP (by omega)
  have ht := tl_len z
  have la : ∀ x y : Str, (x ++ y).length = x.length + y.length := fun x y => by rw [← tl_len, ← tl_len, ← tl_len, tl_app, List.length_append]
  have hc : isCountV (.int (n : Nat)) = true := by
    simp only [isCountV, Bool.and_eq_true, decide_eq_true_eq]
    exact ⟨by omega, by omega⟩
  have hdg : tl (Str.ofString (toString (n : Int))) = digs n := PySem.W.KIN.signs_num n
  have hdl : (digs n).length ≤ 31 := digs_lt (by decide) (Nat.lt_of_le_of_lt hn (by decide))
  refine ⟨.str z, .int n, rfl, .str _ (by omega), .int _, fun t e => by injection e with e; rw [← e]; omega, fun e => absurd (e1.symm.trans e) (by simp), fun _ _ h => absurd (hc.symm.trans h) (by simp), fun ps' e _ hb => ?_, fun t m ps' et em e _ _ H1 s1 => ?_⟩
  · cases e1.symm.trans e
    omega
  · injection et with et
    injection em with em
    subst et
    subst em
    refine k H1 _ s1 ?_ ?_
    · unfold repS
      rw [tl_app, tl_app, tl_app, hdg, show tl (Str.ofString "(") = [40] from by decide +kernel, show tl (Str.ofString ")") = [41] from by decide +kernel]
      have := Pr.one hP hn
      simpa using this
    · unfold repS
      rw [la, la, la, ← tl_len (Str.ofString (toString (n : Int))), hdg, show (Str.ofString "(").length = 1 from by decide +kernel, show (Str.ofString ")").length = 1 from by decide +kernel]
      omega
def spLaw (K : PySem.W.Frag) : Sp := fun vs H Q _ => ∃ (a : Addr) (ns : List Int), vs = [.ref a] ∧ SqL K H a (ns.map V.int) ∧ ns.length ≤ 63 ∧ ∀ H', Q (.bl true) H'
theorem ok_law (T : Top K mg) : FnOk P w K mg base CX0 37 T.a_law T.d_law ["_law_script"] (spLaw K) := by
  have G__law_error := ok__law_error (w := w) (base := base) T
  have G__law_draws := ok__law_draws (w := w) (base := base) T
  have G__law_program := ok__law_program (w := w) (base := base) T
  have G__law_draw := ok__law_draw (w := w) (base := base) T
  have G_lossless_capacity := ok_lossless_capacity (w := w) (base := base) T
  have G_least_capacity := ok_least_capacity (w := w) (base := base) T
  have G__law_trials := ok__law_trials (w := w) (base := base) T
  have G_repeat := ok_repeat (w := w) (base := base) T
  refine T.F_law.ok sc_law (fun vs H Q E h => ?_) (fun cdv A outer s H vs Q E hr h => ?_)
  · obtain ⟨a, ns, rfl, _⟩ := h
    rfl
  · obtain ⟨a, ns, rfl, hS, hl, q⟩ := h
    refine ⟨_, (pss_cons (ps_set (i := 1) sc_law.nd rfl (Or.inl rfl) (pe_lst (pa_cons (pe_call G__law_error (hr.mono (by first | decide | omega)) rfl T.m__law_error T.F__law_error.kp T.b__law_error .nil pass0 (pa_cons pe_int (pa_cons pe_str (pa_cons pe_str (pa_cons (pe_un un_neg pe_int) pa_nil))))) (pa_cons (pe_call G__law_error (hr.mono (by first | decide | omega)) rfl T.m__law_error T.F__law_error.kp T.b__law_error .nil pass0 (pa_cons pe_int (pa_cons pe_str (pa_cons pe_str (pa_cons (pe_un un_neg pe_int) pa_nil))))) (pa_cons (pe_call G__law_error (hr.mono (by first | decide | omega)) rfl T.m__law_error T.F__law_error.kp T.b__law_error .nil pass0 (pa_cons pe_int (pa_cons pe_str (pa_cons pe_str (pa_cons (pe_un un_neg pe_int) pa_nil))))) pa_nil)))))
      (pss_cons (ps_if (pt_cmpR (op_neD hr.units) (pv 1) (pe_lst (pa_cons pe_str (pa_cons pe_str (pa_cons pe_str pa_nil)))) (nomark _)) (pss_one (ps_ret pe_bl)) pss_nil)
      (pss_cons (ps_if (pt_cmpR (op_neD hr.units) (pe_lst (pa_cons (pe_call G__law_error (hr.mono (by first | decide | omega)) rfl T.m__law_error T.F__law_error.kp T.b__law_error .nil pass0 (pa_cons pe_int (pa_cons pe_int (pa_cons pe_str (pa_cons (pe_un un_neg pe_int) pa_nil))))) (pa_cons (pe_call G__law_error (hr.mono (by first | decide | omega)) rfl T.m__law_error T.F__law_error.kp T.b__law_error .nil pass0 (pa_cons pe_int (pa_cons pe_str (pa_cons pe_str (pa_cons pe_bl pa_nil))))) pa_nil))) (pe_lst (pa_cons pe_str (pa_cons pe_str pa_nil))) (nomark _)) (pss_one (ps_ret pe_bl)) pss_nil)
      (pss_cons (ps_for PassesOwn.never rfl (pi_range1 (by rfl) T.z_range (pa_cons (pe_callB (call_max2 rfl) (by rfl) T.z_max (by decide +kernel) (pa_cons pe_int (pa_cons (pe_callB (call_min2 rfl) (by rfl) T.z_min (by decide +kernel) (pa_cons pe_int (pa_cons (pe_callB call_len_seq (by rfl) T.z_len (by decide +kernel) (pa_cons (pv 0) pa_nil)) pa_nil))) pa_nil))) pa_nil)) (pg_name (i := 2) sc_law.nd rfl (Or.inl rfl)) (pss_cons (ps_set (i := 3) sc_law.nd rfl (Or.inl rfl) (pe_call G__law_draws (hr.mono (by first | decide | omega)) rfl T.m__law_draws T.F__law_draws.kp T.b__law_draws .nil pass0 (pa_cons (pv 0) (pa_cons (pv 2) pa_nil))))
      (pss_cons (ps_asg (pe_call G__law_program (hr.mono (by first | decide | omega)) rfl T.m__law_program T.F__law_program.kp T.b__law_program .nil pass0 (pa_cons (pv 3) (pa_cons pe_int pa_nil))) (pg_tup (by rfl) (pgs_cons (pg_name (i := 4) sc_law.nd rfl (Or.inl rfl)) (pgs_cons (pg_name (i := 5) sc_law.nd rfl (Or.inl rfl)) pgs_nil))))
      (pss_cons (ps_set (i := 6) sc_law.nd rfl (Or.inl rfl) (pe_call G__law_draw (hr.mono (by first | decide | omega)) rfl T.m__law_draw T.F__law_draw.kp T.b__law_draw .nil pass0 (pa_cons (pv 3) (pa_cons pe_int pa_nil))))
      (pss_cons (ps_for PassesOwn.never rfl (pi_list (pe_lst (pa_cons pe_str (pa_cons pe_str (pa_cons pe_str pa_nil))))) (pg_name (i := 7) sc_law.nd rfl (Or.inl rfl)) (pss_cons (ps_set (i := 1) sc_law.nd rfl (Or.inl rfl) (pe_lst (pa_cons (pe_call G_least_capacity (hr.mono (by first | decide | omega)) rfl T.m_least_capacity T.F_least_capacity.kp T.b_least_capacity .nil passN (pa_cons (pv 4) (pa_cons (pv 7) (pa_cons (pv 6) pa_nil)))) (pa_cons (pe_call G_lossless_capacity (hr.mono (by first | decide | omega)) rfl T.m_lossless_capacity T.F_lossless_capacity.kp T.b_lossless_capacity .nil passN (pa_cons (pv 4) (pa_cons (pv 6) pa_nil))) pa_nil))))
      (pss_one (ps_if (pt_cmpR (op_neD hr.units) (pv 1) (pe_call G__law_trials (hr.mono (by first | decide | omega)) rfl T.m__law_trials T.F__law_trials.kp T.b__law_trials .nil pass0 (pa_cons (pv 5) (pa_cons (pv 7) (pa_cons (pv 6) pa_nil)))) (nomark _)) (pss_one (ps_ret pe_bl)) pss_nil))))
      (pss_cons (ps_set (i := 8) sc_law.nd rfl (Or.inl rfl) (pe_op op_add (pe_op op_pow pe_int pe_int) (pe_call G__law_draw (hr.mono (by first | decide | omega)) rfl T.m__law_draw T.F__law_draw.kp T.b__law_draw .nil pass0 (pa_cons (pv 3) (pa_cons (pe_op op_pow pe_int pe_int) pa_nil)))))
      (pss_cons (ps_if (pt_cmpR (op_neD hr.units) (pe_call G_lossless_capacity (hr.mono (by first | decide | omega)) rfl T.m_lossless_capacity T.F_lossless_capacity.kp T.b_lossless_capacity .nil passN (pa_cons (pe_call G_repeat (hr.mono (by first | decide | omega)) rfl T.m_repeat T.F_repeat.kp T.b_repeat .nil passN (pa_cons pe_str (pa_cons (pv 8) pa_nil))) (pa_cons (pv 6) pa_nil))) (pe_op op_add (pe_op op_add (pv 6) (pv 8)) pe_int) (nomark _)) (pss_one (ps_ret pe_bl)) pss_nil)
      (pss_cons (ps_if (pt_cmpR (op_neD hr.units) (pe_call G_least_capacity (hr.mono (by first | decide | omega)) rfl T.m_least_capacity T.F_least_capacity.kp T.b_least_capacity .nil passN (pa_cons (pe_call G_repeat (hr.mono (by first | decide | omega)) rfl T.m_repeat T.F_repeat.kp T.b_repeat .nil passN (pa_cons pe_str (pa_cons (pv 8) pa_nil))) (pa_cons pe_str (pa_cons (pv 6) pa_nil)))) (pe_callB (call_max2 rfl) (by rfl) T.z_max (by decide +kernel) (pa_cons pe_int (pa_cons (pv 6) pa_nil))) (nomark _)) (pss_one (ps_ret pe_bl)) pss_nil)
      (pss_cons (ps_if (pt_cmpR op_notN (pe_call G_least_capacity (hr.mono (by first | decide | omega)) rfl T.m_least_capacity T.F_least_capacity.kp T.b_least_capacity .nil passN (pa_cons (pe_call G_repeat (hr.mono (by first | decide | omega)) rfl T.m_repeat T.F_repeat.kp T.b_repeat .nil passN (pa_cons pe_str (pa_cons (pv 8) pa_nil))) (pa_cons pe_str (pa_cons (pv 6) pa_nil)))) pe_non (nomark _)) (pss_one (ps_ret pe_bl)) pss_nil)
      (pss_cons (ps_asg (pe_tup (pa_cons (pe_op op_add_str (pe_call G_repeat (hr.mono (by first | decide | omega)) rfl T.m_repeat T.F_repeat.kp T.b_repeat .nil passN (pa_cons pe_str (pa_cons (pv 8) pa_nil))) (pe_call G_repeat (hr.mono (by first | decide | omega)) rfl T.m_repeat T.F_repeat.kp T.b_repeat .nil passN (pa_cons pe_str (pa_cons (pv 8) pa_nil)))) (pa_cons (pe_op op_add (pv 6) (pe_ix ix_list (pe_lst (pa_cons pe_int (pa_cons (pe_op op_pow pe_int pe_int) pa_nil))) (pe_call G__law_draw (hr.mono (by first | decide | omega)) rfl T.m__law_draw T.F__law_draw.kp T.b__law_draw .nil pass0 (pa_cons (pv 3) (pa_cons pe_int pa_nil))) (fun _ _ => rfl))) pa_nil))) (pg_tup (by rfl) (pgs_cons (pg_name (i := 9) sc_law.nd rfl (Or.inr rfl)) (pgs_cons (pg_name (i := 10) sc_law.nd rfl (Or.inr rfl)) pgs_nil))))
      (pss_cons (ps_setLc (i := 1) (own := [("_law_mode", 7)]) (g := gName 7) (tt := tYes) (by rfl) sc_law.nd rfl rfl (sw_true rfl rfl rfl (by decide +kernel)) (pi_list (pe_lst (pa_cons pe_str (pa_cons pe_str (pa_cons pe_str pa_nil))))) (blkOk_by (own := [("_law_mode", 7)]) (N := ["_law_script", "_law_found", "_law_k", "_law_draws_here", "_law_program_here", "_law_full", "_law_length", "_law_mode", "_law_count", "_law_hill", "_law_far"]) (sc := defScope s_law) (by decide +kernel)) (fun _ _ _ _ _ => pg_name (i := 7) sc_law.nd rfl (Or.inl rfl)) (fun _ _ _ _ _ => pts_nil) (fun _ _ _ _ _ => (pe_call G_least_capacity (hr.mono (by first | decide | omega)) rfl T.m_least_capacity T.F_least_capacity.kp T.b_least_capacity .nil passN (pa_cons (pv 9) (pa_cons (pv 7) (pa_cons (pv 10) pa_nil))))))
      (pss_one (ps_if (PW.pt (pw_or (pt_cmpR (op_neD hr.units) (pv 1) (pe_lst (pa_cons (pe_callB (call_max2 rfl) (by rfl) T.z_max (by decide +kernel) (pa_cons (pv 8) (pa_cons (pv 10) pa_nil))) (pa_cons (pe_callB (call_max2 rfl) (by rfl) T.z_max (by decide +kernel) (pa_cons (pv 8) (pa_cons (pv 10) pa_nil))) (pa_cons (pe_op op_add (pv 8) (pv 10)) pa_nil)))) (nomark _)) (pw_or1 (pt_cmpR (op_neD hr.units) (pe_call G_lossless_capacity (hr.mono (by first | decide | omega)) rfl T.m_lossless_capacity T.F_lossless_capacity.kp T.b_lossless_capacity .nil passN (pa_cons (pv 9) (pa_cons (pv 10) pa_nil))) (pe_op op_add (pv 8) (pv 10)) (nomark _))))) (pss_one (ps_ret pe_bl)) pss_nil)))))))))))))
      (pss_one (ps_ret pe_bl)))))), ?_⟩
    have hst : start ["_law_script", "_law_found", "_law_k", "_law_draws_here", "_law_program_here", "_law_full", "_law_length", "_law_mode", "_law_count", "_law_hill", "_law_far"] [.ref a] = [some (.ref a), none, none, none, none, none, none, none, none, none, none] := rfl
    rw [hst]
    walk_at "rd"
    have p1 : progV (.str (Str.ofString "(")) = none := by decide +kernel
    have p2 : ¬ progV (.str (Str.ofString "a")) = none := by decide +kernel
    have m1 : isModeV (.str (Str.ofString "x")) = false := by decide +kernel
    have m2 : isModeV (.str (Str.ofString "oldest")) = true := by decide +kernel
    refine ⟨0, .str _, .str _, .int (-1), rfl, .str _ (by decide), .str _ (by decide), .int _, rfl, fun H1 s1 => ?_⟩
    rw [if_pos p1]
    refine ⟨0, .str _, .str _, .int (-1), rfl, .str _ (by decide), .str _ (by decide), .int _, rfl, fun H2 s2 => ?_⟩
    rw [if_neg p2, if_pos ⟨rfl, m1⟩]
    refine ⟨0, .str _, .str _, .int (-1), rfl, .str _ (by decide), .str _ (by decide), .int _, rfl, fun H3 s3 => ?_⟩
    rw [if_neg p2, if_neg (fun h => absurd (m2.symm.trans h.2) (by decide))]
    refine ⟨by walk_at "sz", fun q1 hq1 => ⟨by walk_at "sz", fun q2 hq2 => ?_⟩⟩
    refine ne_sing (xs := [.str "program", .str "mode", .str "integer"]) (by decide +kernel) (by decide +kernel) (SqL.of (same_new hq2 _ _ _ upd_same)) (SqL.of upd_same) ⟨_, rfl, ?_⟩
    rw [if_neg (by decide)]
    have s4 := ((s1.trans s2).trans s3).trans ((same_new hq1 (.lst [.str "program", .str "mode", .str "integer"])).trans (same_new hq2 (.lst [.str "program", .str "mode", .str "integer"])))
    refine ⟨1, .int 5, .str _, .int (-1), rfl, .int _, .str _ (by decide), .int _, rfl, fun H5 s5 => ?_⟩
    rw [if_pos (show progV (.int 5) = none from rfl)]
    refine ⟨1, .str _, .str _, .bl true, rfl, .str _ (by decide), .str _ (by decide), .bl _, rfl, fun H6 s6 => ?_⟩
    rw [if_neg p2, if_neg (fun h => absurd h.1 (by decide))]
    refine ⟨by walk_at "sz", fun q3 hq3 => ⟨by walk_at "sz", fun q4 hq4 => ?_⟩⟩
    refine ne_sing (xs := [.str "program", .str "integer"]) (by decide +kernel) (by decide +kernel) (SqL.of (same_new hq4 _ _ _ upd_same)) (SqL.of upd_same) ⟨_, rfl, ?_⟩
    rw [if_neg (by decide)]
    have s7 := ((s4.trans s5).trans s6).trans ((same_new hq3 (.lst [.str "program", .str "integer"])).trans (same_new hq4 (.lst [.str "program", .str "integer"])))
    generalize upd (upd H6 q3 _) q4 _ = H7 at s7
    clear s1 s2 s3 s4 s5 s6 hq1 hq2 hq3 hq4
    refine forR fun R kR => ?_
    walk_at "rd"
    refine ⟨_, .inl (s7.seq hS), ?_⟩
    rw [List.length_map]
    refine kR _ (fun i σ H' => Same H H' ∧ ∃ x1 x2 x3 x4 x5 x6 x7 x8 x9 x10 : Option V, σ = [some (.ref a), x1, x2, x3, x4, x5, x6, x7, x8, x9, x10]) H7 (by split <;> split <;> omega) (by split <;> split <;> omega) ⟨s7, _, _, _, _, _, _, _, _, _, _, rfl⟩ ?_ ?_
    · rintro i σ H2 hi ⟨s6, x1, x2, x3, x4, x5, x6, x7, x8, x9, x10, rfl⟩
      have hi40 : i < 64 := by
        revert hi
        split <;> split <;> omega
      clear hi s7
      walk_at "rd"
      simp only [sp_draws]
      refine ⟨a, ns, 0 + (i : Int), rfl, s6.seq hS, hl, by omega, by omega, fun p d H3 s7 hp7 hd hp8 => ?_⟩
      walk_at "rd"
      have hpn : H p = none := s6.free hp7
      simp only [sp_prog]
      refine ⟨p, d, 1, rfl, hp8, hd, by decide, by decide, fun r zt zf d1 H4 hPr hlt hlf hd1 hp9 k1 hr1 hr2 => ⟨r, rfl, [.str zt, .str zf], SqT.of hr2, rfl, ?_⟩⟩
      simp only [gCons, gNil]
      walk_at "rd"
      have hL : Lt (1 + 1) ≤ 200 ∧ Lf (1 + 1) ≤ 150 := by decide
      have S4 : Same H H4 := same_but (s6.trans s7) hpn k1
      simp only [sp_draw]
      refine ⟨p, d1, 6, rfl, hp9, hd1, by decide, by decide, fun n d2 H5 n0 n1 hd2 hp10 k2 => ?_⟩
      have S5 : Same H H5 := same_but S4 hpn k2
      clear k1 k2 hp7 hp8 hp9 hr1 hr2 s6 s7 S4 hd hd1
      walk_at "rd"
      refine forL fun R2 kR2 => ?_
      walk_at "rd"
      refine ⟨by walk_at "sz", fun pm hpm => ?_⟩
      have S6 : Same H5 (upd H5 pm (.lst [.str (Str.ofString "oldest"), .str (Str.ofString "newest"), .str (Str.ofString "strict")])) := same_new hpm _
      have hpm7 : upd H5 pm (.lst [.str (Str.ofString "oldest"), .str (Str.ofString "newest"), .str (Str.ofString "strict")]) pm = some (.lst [.str (Str.ofString "oldest"), .str (Str.ofString "newest"), .str (Str.ofString "strict")]) := upd_same
      generalize upd H5 pm (.lst [.str (Str.ofString "oldest"), .str (Str.ofString "newest"), .str (Str.ofString "strict")]) = H7 at *
      refine kR2 pm [.str (Str.ofString "oldest"), .str (Str.ofString "newest"), .str (Str.ofString "strict")] (fun j σ H' => Same H7 H' ∧ ∃ x1 x7 : Option V, σ = [some (.ref a), x1, some (.int (0 + (i : Int))), some (.ref p), some (.str zt), some (.str zf), some (.int n), x7, x8, x9, x10]) H7 (SqL.of hpm7) ⟨Same.refl _, _, _, rfl⟩ (fun j σ H' _ h => SqL.of (h.1 _ _ hpm7)) ?_ ?_
      · rintro j x σ H8 hx ⟨s8, x1, x7, rfl⟩
        obtain ⟨m, rfl, hm, hml⟩ : ∃ m : Str, x = .str m ∧ isModeV (.str m) = true ∧ m.length ≤ 100 := by
          have hm : x ∈ [V.str (Str.ofString "oldest"), .str (Str.ofString "newest"), .str (Str.ofString "strict")] := List.mem_of_getElem? hx
          simp only [List.mem_cons, List.not_mem_nil, or_false] at hm
          rcases hm with rfl | rfl | rfl <;> exact ⟨_, rfl, by decide +kernel, by decide +kernel⟩
        walk_at "rd"
        refine least_ok T hPr (by decide) (by omega) hm hml n0 fun H9 s9 => loss_ok T hPr (by decide) (by omega) n0 fun H10 s10 => ⟨by walk_at "sz", fun q1 hq1 => ?_⟩
        refine ⟨zf, m, n, rfl, n0, by omega, by omega, hm, fun t H11 s11 ht htv => ?_⟩
        refine ne_two (ion_least _ _ _) (ion_room _ _) (SqL.of (s11 _ _ upd_same)) (SqL.of htv) ⟨_, rfl, ?_⟩
        rw [if_neg (by decide)]
        exact ⟨(((s8.trans s9).trans s10).trans (same_new hq1 _)).trans s11, ⟨_, rfl⟩, _, rfl⟩
      · rintro σ H8 ⟨s8, x1, x7, rfl⟩
        have S8 : Same H H8 := S5.trans (S6.trans s8)
        have hp11 : H8 p = some (dw d2) := s8 _ _ (S6 _ _ hp10)
        walk_at "rd"
        have c20 : (10 : Int) ^ Int.toNat 20 = 100000000000000000000 := by decide
        have c9 : (10 : Int) ^ Int.toNat 9 = 1000000000 := by decide
        have c40 : (0 : Int) ≤ (10 : Int) ^ Int.toNat 40 := by decide
        simp only [c20, c9, sp_draw]
        refine ⟨⟨by decide, by decide, by decide⟩, ⟨by decide, by decide, by decide⟩, p, d2, 1000000000, rfl, hp11, hd2, by decide, by decide, fun v d3 H9 v0 v1 hd3 hp12 k3 => ⟨_, rfl, ?_⟩⟩
        have S9 : Same H H9 := same_but S8 hpn k3
        obtain ⟨N, hN⟩ : ∃ N : Nat, (100000000000000000000 + v : Int) = (N : Int) := ⟨(100000000000000000000 + v).toNat, by omega⟩
        have hN10 : 10 ≤ N := by omega
        have hNb : N ≤ 10 ^ 30 := by omega
        have hNn : n < N := by omega
        rw [hN]
        clear hN v0 v1 k3 S8 s8 S6 S5 hp10 hp11 hpm7
        have P1 : Pr 0 (tl (Str.ofString "ab-")) [97, 98, 45] := by
          rw [show tl (Str.ofString "ab-") = [97, 98, 45] from by decide +kernel]
          exact Pr.steps (by decide)
        have P2 : Pr 0 (tl (Str.ofString "ab---")) [97, 98, 45, 45, 45] := by
          rw [show tl (Str.ofString "ab---") = [97, 98, 45, 45, 45] from by decide +kernel]
          exact Pr.steps (by decide)
        have P3 : Pr 0 (tl (Str.ofString "a")) [97] := by
          rw [show tl (Str.ofString "a") = [97] from by decide +kernel]
          exact Pr.steps (by decide)
        have P4 : Pr 0 (tl (Str.ofString "-")) [45] := by
          rw [show tl (Str.ofString "-") = [45] from by decide +kernel]
          exact Pr.steps (by decide)
        refine rep_ok T P1 (by decide) (by decide) hNb fun H10 r1 s10 hP1 hl1 => ?_
        have l3 : (Str.ofString "ab-").length = 3 := by decide +kernel
        have l5 : (Str.ofString "ab---").length = 5 := by decide +kernel
        have la1 : (Str.ofString "a").length = 1 := by decide +kernel
        have lm1 : (Str.ofString "-").length = 1 := by decide +kernel
        refine loss_ok T hP1 (by decide) (by omega) n0 fun H11 s11 => ?_
        rw [m_ab N hN10, show roomV ⟨2 * N, 1 * N, 0, N + 1, 1⟩ n = .int (n + N + 1) from by
          unfold roomV
          rw [if_pos (by dsimp only; omega)]
          dsimp only
          congr 1
          omega]
        refine ne_int rfl ⟨_, rfl, ?_⟩
        rw [if_neg (by decide)]
        refine rep_ok T P1 (by decide) (by decide) hNb fun H12 r2 s12 hP2 hl2 => ?_
        refine least_ok T hP2 (by decide) (by omega) m2 (by decide) n0 fun H13 s13 => ?_
        have ns1 : ¬ (Str.ofString "oldest" = ("strict" : Str)) := by decide +kernel
        have ns2 : ¬ (Str.ofString "newest" = ("strict" : Str)) := by decide +kernel
        have m3 : isModeV (.str (Str.ofString "newest")) = true := by decide +kernel
        have m4 : isModeV (.str (Str.ofString "strict")) = true := by decide +kernel
        rw [m_ab N hN10, show leastV ⟨2 * N, 1 * N, 0, N + 1, 1⟩ (Str.ofString "oldest") n = .int (max 1 n) from by
          unfold leastV
          rw [if_neg ns1, if_pos (by dsimp only; omega)]
          dsimp only
          congr 1
          omega]
        refine ne_int (by split <;> omega) ⟨_, rfl, ?_⟩
        rw [if_neg (by decide)]
        refine rep_ok T P2 (by decide) (by decide) hNb fun H14 r3 s14 hP3 hl3 => ?_
        refine least_ok T hP3 (by decide) (by omega) m3 (by decide) n0 fun H15 s15 => ?_
        rw [show leastV (prof (List.replicate N [97, 98, 45, 45, 45]).flatten) (Str.ofString "newest") n = .non from by
          unfold leastV
          rw [if_neg ns2, m_abd N hN10, if_neg (by omega)]]
        rw [if_neg (by decide)]
        refine rep_ok T P3 (by decide) (by decide) hNb fun H16 r4 s16 hP4 hl4 => ?_
        refine rep_ok T P4 (by decide) (by decide) hNb fun H17 r5 s17 hP5 hl5 => ⟨_, rfl, _, rfl, sz_of (by omega), ⟨by decide, by decide, by decide⟩, by walk_at "sz", fun pl hpl => ?_⟩
        have S17 : Same H9 H17 := ((((s10.trans s11).trans s12).trans s13).trans s14).trans ((s15.trans s16).trans s17)
        have hPh : Pr 1 (tl (r4 ++ r5)) ((List.replicate N [97]).flatten ++ (List.replicate N [45]).flatten) := by rw [tl_app]; exact hP4.app hP5
        have hlh : (r4 ++ r5).length ≤ 100 := by rw [slen_app]; omega
        have hp13 := S17 _ _ hp12
        have ppl : p ≠ pl := fun z => by rw [z, hpl] at hp13; cases hp13
        refine ⟨p, d3, 2, rfl, (upd_ne ppl).trans hp13, hd3, by decide, by decide, fun v2 d4 H18 v20 v21 hd4 hp14 k4 => ?_⟩
        refine ix_two (k4 pl _ (Ne.symm ppl) upd_same) (by omega) (by decide) c40 fun far hfar => ?_
        have S18 : Same H H18 := same_but (fun b o e => same_new hpl _ b o (S17 b o (S9 b o e))) hpn k4
        clear hP1 hP2 hP3 hP4 hP5 s10 s11 s12 s13 s14 s15 s16 s17 S17 S9 hp12 hp13 hp14 k4 hpl ppl
        refine ⟨_, rfl, by walk_at "sz", fun pq hpq => ⟨_, SqT.of upd_same, rfl, ?_⟩⟩
        simp only [gCons, gNil]
        walk_at "rd"
        have S19 : Same H (upd H18 pq (.tup [.str (r4 ++ r5), .int (n + far)])) := S18.trans (same_new hpq _)
        generalize upd H18 pq (.tup [.str (r4 ++ r5), .int (n + far)]) = H19 at *
        generalize hW : n + far = W at *
        have hW0 : 0 ≤ W := by omega
        clear hpq S18
        refine lcL fun R kR => ?_
        walk_at "rd"
        refine ⟨by walk_at "sz", fun pn hpn2 => ?_⟩
        have S20 := S19.trans (same_new hpn2 (.lst [.str (Str.ofString "oldest"), .str (Str.ofString "newest"), .str (Str.ofString "strict")]))
        have hpl := upd_same (H := H19) (a := pn) (o := .lst [.str (Str.ofString "oldest"), .str (Str.ofString "newest"), .str (Str.ofString "strict")])
        generalize upd H19 pn _ = H20 at S20 hpl ⊢
        refine kR pn [.str (Str.ofString "oldest"), .str (Str.ofString "newest"), .str (Str.ofString "strict")] _ (SqL.of hpl) fun D hD => ⟨fun j H' => j ≤ 3 ∧ Same H20 H' ∧ H' D = some (.lst (([Str.ofString "oldest", Str.ofString "newest", Str.ofString "strict"].take j).map (fun m => leastV ⟨N, N, 0, N, N⟩ m W))), ⟨by decide, same_new hD _, by rw [upd_same]; rfl⟩, fun j H' _ h => SqL.of (h.2.1 _ _ hpl), ?_, ?_⟩
        · rintro j y H' hy ⟨hj, s1, hD1⟩
          obtain ⟨m, rfl, hm, hml, hmj⟩ : ∃ m : Str, y = .str m ∧ isModeV (.str m) = true ∧ m.length ≤ 100 ∧ [Str.ofString "oldest", Str.ofString "newest", Str.ofString "strict"][j]? = some m := by
            have hj2 := (List.getElem?_eq_some_iff.mp hy).1
            have hj3 : j < 3 := hj2
            rcases (by omega : j = 0 ∨ j = 1 ∨ j = 2) with rfl | rfl | rfl <;> cases hy <;> exact ⟨_, rfl, by decide +kernel, by decide +kernel, rfl⟩
          have hj3 : j < 3 := (List.getElem?_eq_some_iff.mp hmj).1
          walk_at "wp"
          walk_at "rd"
          refine least_ok T hPh (by decide) (by omega) hm hml hW0 fun H21 s21 => ?_
          rw [m_hill N hN10]
          refine ⟨_, s21 _ _ hD1, ?_, by omega, same_mut (s1.trans s21) hD, ?_⟩
          · rw [List.length_map, List.length_take]
            exact Nat.lt_of_le_of_lt (Nat.min_le_left _ _) (Nat.lt_of_le_of_lt (by omega : j ≤ 100000) (by decide))
          · rw [upd_same, List.take_add_one, hmj, List.map_append]; rfl
        · rintro H' ⟨_, s1, hD1⟩
          have e3 : ([Str.ofString "oldest", Str.ofString "newest", Str.ofString "strict"].take 3).map (fun m => leastV ⟨N, N, 0, N, N⟩ m W) = ([(if W > (N : Int) then W else (N : Int)), (if W > (N : Int) then W else (N : Int)), (N : Int) + W] : List Int).map V.int := by
            have ss : (Str.ofString "strict" = ("strict" : Str)) := rfl
            simp only [List.take, List.map]
            have g1 : ∀ m : Str, ¬ m = "strict" → leastV ⟨N, N, 0, N, N⟩ m W = .int (if W > (N : Int) then W else (N : Int)) := fun m h => by
              unfold leastV
              rw [if_neg h, if_pos (by dsimp only; omega)]
              dsimp only
              congr 1
              split <;> omega
            have g2 : leastV ⟨N, N, 0, N, N⟩ (Str.ofString "strict") W = .int ((N : Int) + W) := by
              unfold leastV roomV
              rw [if_pos ss, if_pos (by dsimp only; omega)]
              dsimp only
              congr 1
              omega
            rw [g1 _ ns1, g1 _ ns2, g2]
          have hD2 : H' D = some (.lst (([(if W > (N : Int) then W else (N : Int)), (if W > (N : Int) then W else (N : Int)), (N : Int) + W] : List Int).map V.int)) := by rw [hD1]; exact congrArg (fun l => some (HO.lst l)) e3
          refine ⟨by walk_at "sz", fun pe hpe => ?_⟩
          refine ne_ints (ns := [(if W > (N : Int) then W else (N : Int)), (if W > (N : Int) then W else (N : Int)), (N : Int) + W]) (ms := [(if W > (N : Int) then W else (N : Int)), (if W > (N : Int) then W else (N : Int)), (N : Int) + W]) (SqL.of (same_new hpe _ _ _ hD2)) (SqL.of upd_same) ⟨_, rfl, ?_⟩
          rw [decide_eq_true rfl, if_neg (by decide)]
          refine loss_ok T hPh (by decide) (by omega) hW0 fun H22 s22 => ?_
          rw [m_hill N hN10, show roomV ⟨N, N, 0, N, N⟩ W = .int ((N : Int) + W) from by
            unfold roomV
            rw [if_pos (by dsimp only; omega)]
            dsimp only
            congr 1
            omega]
          refine ne_int rfl ⟨_, rfl, ?_⟩
          rw [if_neg (by decide)]
          exact ⟨((S20.trans s1).trans (same_new hpe _)).trans s22, ⟨_, rfl⟩, ⟨_, rfl⟩, ⟨_, rfl⟩, ⟨_, rfl⟩, ⟨_, rfl⟩, ⟨_, rfl⟩, ⟨_, rfl⟩, ⟨_, rfl⟩, ⟨_, rfl⟩, _, rfl⟩
    · rintro σ H2 ⟨_, x1, x2, x3, x4, x5, x6, x7, x8, x9, x10, rfl⟩
      walk_at "rd"
      exact q _

end
theorem all_mk {w : World} {K : PySem.W.Frag} {h : Heap} {mg : Str → Option Value} {fa : Addr} (X : K.In h) (G : h.Ns mainGlobals mg) (hfa : mg "law" = some (.ref fa))
    {f_is_int : Addr} {oc_is_int kV_is_int dc_is_int pm_is_int cd_is_int ct_is_int : Value} {od_is_int an_is_int : Option Addr} {sl_is_int : Array (Option Value)}
    {f_is_natural : Addr} {oc_is_natural kV_is_natural dc_is_natural pm_is_natural cd_is_natural ct_is_natural : Value} {od_is_natural an_is_natural : Option Addr} {sl_is_natural : Array (Option Value)}
    {f_is_int_between : Addr} {oc_is_int_between kV_is_int_between dc_is_int_between pm_is_int_between cd_is_int_between ct_is_int_between : Value} {od_is_int_between an_is_int_between : Option Addr} {sl_is_int_between : Array (Option Value)}
    {f_read_integer : Addr} {oc_read_integer kV_read_integer dc_read_integer pm_read_integer cd_read_integer ct_read_integer : Value} {od_read_integer an_read_integer : Option Addr} {sl_read_integer : Array (Option Value)}
    {f_is_mode : Addr} {oc_is_mode kV_is_mode dc_is_mode pm_is_mode cd_is_mode ct_is_mode : Value} {od_is_mode an_is_mode : Option Addr} {sl_is_mode : Array (Option Value)}
    {f_check_mode : Addr} {oc_check_mode kV_check_mode dc_check_mode pm_check_mode cd_check_mode ct_check_mode : Value} {od_check_mode an_check_mode : Option Addr} {sl_check_mode : Array (Option Value)}
    {f_check_any_length : Addr} {oc_check_any_length kV_check_any_length dc_check_any_length pm_check_any_length cd_check_any_length ct_check_any_length : Value} {od_check_any_length an_check_any_length : Option Addr} {sl_check_any_length : Array (Option Value)}
    {f_is_count : Addr} {oc_is_count kV_is_count dc_is_count pm_is_count cd_is_count ct_is_count : Value} {od_is_count an_is_count : Option Addr} {sl_is_count : Array (Option Value)}
    {f_check_count : Addr} {oc_check_count kV_check_count dc_check_count pm_check_count cd_check_count ct_check_count : Value} {od_check_count an_check_count : Option Addr} {sl_check_count : Array (Option Value)}
    {f_repeat : Addr} {oc_repeat kV_repeat dc_repeat pm_repeat cd_repeat ct_repeat : Value} {od_repeat an_repeat : Option Addr} {sl_repeat : Array (Option Value)}
    {f_parts_of : Addr} {oc_parts_of kV_parts_of dc_parts_of pm_parts_of cd_parts_of ct_parts_of : Value} {od_parts_of an_parts_of : Option Addr} {sl_parts_of : Array (Option Value)}
    {f_read_parts : Addr} {oc_read_parts kV_read_parts dc_read_parts pm_read_parts cd_read_parts ct_read_parts : Value} {od_read_parts an_read_parts : Option Addr} {sl_read_parts : Array (Option Value)}
    {f_end_of_run : Addr} {oc_end_of_run kV_end_of_run dc_end_of_run pm_end_of_run cd_end_of_run ct_end_of_run : Value} {od_end_of_run an_end_of_run : Option Addr} {sl_end_of_run : Array (Option Value)}
    {f_depth_of : Addr} {oc_depth_of kV_depth_of dc_depth_of pm_depth_of cd_depth_of ct_depth_of : Value} {od_depth_of an_depth_of : Option Addr} {sl_depth_of : Array (Option Value)}
    {f_Profile_init : Addr} {oc_Profile_init kV_Profile_init dc_Profile_init pm_Profile_init cd_Profile_init ct_Profile_init : Value} {od_Profile_init an_Profile_init : Option Addr} {sl_Profile_init : Array (Option Value)}
    {f_Profile_puts : Addr} {oc_Profile_puts kV_Profile_puts dc_Profile_puts pm_Profile_puts cd_Profile_puts ct_Profile_puts : Value} {od_Profile_puts an_Profile_puts : Option Addr} {sl_Profile_puts : Array (Option Value)}
    {f_Profile_takes : Addr} {oc_Profile_takes kV_Profile_takes dc_Profile_takes pm_Profile_takes cd_Profile_takes ct_Profile_takes : Value} {od_Profile_takes an_Profile_takes : Option Addr} {sl_Profile_takes : Array (Option Value)}
    {f_Profile_low : Addr} {oc_Profile_low kV_Profile_low dc_Profile_low pm_Profile_low cd_Profile_low ct_Profile_low : Value} {od_Profile_low an_Profile_low : Option Addr} {sl_Profile_low : Array (Option Value)}
    {f_Profile_high : Addr} {oc_Profile_high kV_Profile_high dc_Profile_high pm_Profile_high cd_Profile_high ct_Profile_high : Value} {od_Profile_high an_Profile_high : Option Addr} {sl_Profile_high : Array (Option Value)}
    {f_Profile_fall : Addr} {oc_Profile_fall kV_Profile_fall dc_Profile_fall pm_Profile_fall cd_Profile_fall ct_Profile_fall : Value} {od_Profile_fall an_Profile_fall : Option Addr} {sl_Profile_fall : Array (Option Value)}
    {f_Profile_offset : Addr} {oc_Profile_offset kV_Profile_offset dc_Profile_offset pm_Profile_offset cd_Profile_offset ct_Profile_offset : Value} {od_Profile_offset an_Profile_offset : Option Addr} {sl_Profile_offset : Array (Option Value)}
    {f_Profile_of : Addr} {oc_Profile_of kV_Profile_of dc_Profile_of pm_Profile_of cd_Profile_of ct_Profile_of : Value} {od_Profile_of an_Profile_of : Option Addr} {sl_Profile_of : Array (Option Value)}
    {f_Profile_of_parts : Addr} {oc_Profile_of_parts kV_Profile_of_parts dc_Profile_of_parts pm_Profile_of_parts cd_Profile_of_parts ct_Profile_of_parts : Value} {od_Profile_of_parts an_Profile_of_parts : Option Addr} {sl_Profile_of_parts : Array (Option Value)}
    {f_Profile_of_sequence : Addr} {oc_Profile_of_sequence kV_Profile_of_sequence dc_Profile_of_sequence pm_Profile_of_sequence cd_Profile_of_sequence ct_Profile_of_sequence : Value} {od_Profile_of_sequence an_Profile_of_sequence : Option Addr} {sl_Profile_of_sequence : Array (Option Value)}
    {f_Profile_add : Addr} {oc_Profile_add kV_Profile_add dc_Profile_add pm_Profile_add cd_Profile_add ct_Profile_add : Value} {od_Profile_add an_Profile_add : Option Addr} {sl_Profile_add : Array (Option Value)}
    {f_Profile_mul : Addr} {oc_Profile_mul kV_Profile_mul dc_Profile_mul pm_Profile_mul cd_Profile_mul ct_Profile_mul : Value} {od_Profile_mul an_Profile_mul : Option Addr} {sl_Profile_mul : Array (Option Value)}
    {f_Profile_repeated_fall : Addr} {oc_Profile_repeated_fall kV_Profile_repeated_fall dc_Profile_repeated_fall pm_Profile_repeated_fall cd_Profile_repeated_fall ct_Profile_repeated_fall : Value} {od_Profile_repeated_fall an_Profile_repeated_fall : Option Addr} {sl_Profile_repeated_fall : Array (Option Value)}
    {f_Profile_eq : Addr} {oc_Profile_eq kV_Profile_eq dc_Profile_eq pm_Profile_eq cd_Profile_eq ct_Profile_eq : Value} {od_Profile_eq an_Profile_eq : Option Addr} {sl_Profile_eq : Array (Option Value)}
    {f_least_capacity : Addr} {oc_least_capacity kV_least_capacity dc_least_capacity pm_least_capacity cd_least_capacity ct_least_capacity : Value} {od_least_capacity an_least_capacity : Option Addr} {sl_least_capacity : Array (Option Value)}
    {f_lossless_capacity : Addr} {oc_lossless_capacity kV_lossless_capacity dc_lossless_capacity pm_lossless_capacity cd_lossless_capacity ct_lossless_capacity : Value} {od_lossless_capacity an_lossless_capacity : Option Addr} {sl_lossless_capacity : Array (Option Value)}
    {f_roomy_capacity : Addr} {oc_roomy_capacity kV_roomy_capacity dc_roomy_capacity pm_roomy_capacity cd_roomy_capacity ct_roomy_capacity : Value} {od_roomy_capacity an_roomy_capacity : Option Addr} {sl_roomy_capacity : Array (Option Value)}
    {f__law_draws : Addr} {oc__law_draws kV__law_draws dc__law_draws pm__law_draws cd__law_draws ct__law_draws : Value} {od__law_draws an__law_draws : Option Addr} {sl__law_draws : Array (Option Value)}
    {f__law_draw : Addr} {oc__law_draw kV__law_draw dc__law_draw pm__law_draw cd__law_draw ct__law_draw : Value} {od__law_draw an__law_draw : Option Addr} {sl__law_draw : Array (Option Value)}
    {f__law_letter : Addr} {oc__law_letter kV__law_letter dc__law_letter pm__law_letter cd__law_letter ct__law_letter : Value} {od__law_letter an__law_letter : Option Addr} {sl__law_letter : Array (Option Value)}
    {f__law_sequence : Addr} {oc__law_sequence kV__law_sequence dc__law_sequence pm__law_sequence cd__law_sequence ct__law_sequence : Value} {od__law_sequence an__law_sequence : Option Addr} {sl__law_sequence : Array (Option Value)}
    {f__law_program : Addr} {oc__law_program kV__law_program dc__law_program pm__law_program cd__law_program ct__law_program : Value} {od__law_program an__law_program : Option Addr} {sl__law_program : Array (Option Value)}
    {f__law_run : Addr} {oc__law_run kV__law_run dc__law_run pm__law_run cd__law_run ct__law_run : Value} {od__law_run an__law_run : Option Addr} {sl__law_run : Array (Option Value)}
    {f__law_trials : Addr} {oc__law_trials kV__law_trials dc__law_trials pm__law_trials cd__law_trials ct__law_trials : Value} {od__law_trials an__law_trials : Option Addr} {sl__law_trials : Array (Option Value)}
    {f__law_error : Addr} {oc__law_error kV__law_error dc__law_error pm__law_error cd__law_error ct__law_error : Value} {od__law_error an__law_error : Option Addr} {sl__law_error : Array (Option Value)}
    {f_law : Addr} {oc_law kV_law dc_law pm_law cd_law ct_law : Value} {od_law an_law : Option Addr} {sl_law : Array (Option Value)}
    {u_DIGITS : Tok}
    {u_MOST_DIGITS : Tok}
    {p_MODES : Addr} {md_MODES : Option Addr} {mn_MODES : Nat} {ms_MODES : Array (Option Value)} {u1_MODES u2_MODES u3_MODES : Tok}
    {u_TAKE : Tok}
    {u_STEPS : Tok}
    {u_MOST_COUNT : Tok}
    {u_MOST_DEPTH : Tok}
    {x_Profile : Addr}
    {cp_Profile_of : Addr} {cr_Profile_of : List Value}
    {cp_Profile_of_parts : Addr} {cr_Profile_of_parts : List Value}
    {cp_Profile_of_sequence : Addr} {cr_Profile_of_sequence : List Value}
    {pp_Profile_puts : Addr} {pq_Profile_puts : List Value}
    {pp_Profile_takes : Addr} {pq_Profile_takes : List Value}
    {pp_Profile_low : Addr} {pq_Profile_low : List Value}
    {pp_Profile_high : Addr} {pq_Profile_high : List Value}
    {pp_Profile_fall : Addr} {pq_Profile_fall : List Value}
    {pp_Profile_offset : Addr} {pq_Profile_offset : List Value}
    {fo_Profile_mul_int ro_Profile_mul_int : Option Value}
    {fo_Profile_mul_NoneType ro_Profile_mul_NoneType : Option Value}
    {fo_Profile_mul_str ro_Profile_mul_str : Option Value}
    {fo_Profile_mul_bool ro_Profile_mul_bool : Option Value}
    {x_InvalidInteger : Addr}
    {x_InvalidMode : Addr}
    {x_InvalidProgram : Addr}
    {x_LimitExceeded y_LimitExceeded ca_LimitExceeded cc_LimitExceeded : Addr} {oc_LimitExceeded kV_LimitExceeded dc_LimitExceeded pm_LimitExceeded ct_LimitExceeded cl_LimitExceeded cx_LimitExceeded : Value} {od_LimitExceeded an_LimitExceeded cd_LimitExceeded ce_LimitExceeded : Option Addr} {sl_LimitExceeded csl_LimitExceeded ccs_LimitExceeded : Array (Option Value)} {vs_LimitExceeded : Array Value} {fl_LimitExceeded : Str} {tf_LimitExceeded : Tok}
    (gx_Profile : PySem.W.nsIn K mainGlobals "Profile" = some (some (.ref x_Profile)))
    (pg_Profile : PySem.W.plainGet K x_Profile Str.empty = true)
    (hd_Profile : PySem.W.hasDictIn K x_Profile = true)
    (po_Profile : PySem.W.plainOver K x_Profile = true)
    (sa_Profile : PySem.W.findIn K (.ref x_Profile) "__setattr__" = some (some (.builtin "object.__setattr__")))
    (kc_Profile : PySem.W.keepIn K (.ref x_Profile) = true)
    (mk_Profile : PySem.W.makesIn K x_Profile = true)
    (in_Profile : PySem.W.findIn K (.ref x_Profile) "__init__" = some (some (.ref f_Profile_init)))
    (if_Profile : PySem.W.isFn K (.ref f_Profile_init) = true)
    (ca_Profile : PySem.W.findIn K (.ref x_Profile) "__class__" = some (some (.builtin "object.__class__")))
    (cm_Profile : PySem.W.mroIn K x_Profile (.type "object") = some true)
    (cg_Profile : PySem.W.specialIn K (.builtin "object.__class__") "__get__" = some (some (.builtin "getset_descriptor.__get__")))
    (ct_Profile : PySem.W.takesIn K (.builtin "object.__class__") = some true)
    (cs_Profile : PySem.W.isClsIn K x_Profile = true)
    (cy_Profile : PySem.W.typeIn K (.ref x_Profile) = some (.type "type"))
    (su_Profile_list : PySem.W.subIn K (.type "list") (.ref x_Profile) = some false)
    (rd_Profile : PySem.W.readsIn K x_Profile (.type "type") = true)
    (rg_Profile : PySem.W.specialIn K (.ref x_Profile) "__getattribute__" = some (some (.builtin "type.__getattribute__")))
    (ctz_Profile_of : PySem.W.findCls K (.ref x_Profile) (.type "type") "of" = some (.get (.builtin "classmethod.__get__") (.ref cp_Profile_of) .none (.ref x_Profile)))
    (cq_Profile_of : PySem.W.recIn K cp_Profile_of "classmethod" = some (.ref f_Profile_of :: cr_Profile_of))
    (cf_Profile_of : PySem.W.fnIn K f_Profile_of = true)
    (ctz_Profile_of_parts : PySem.W.findCls K (.ref x_Profile) (.type "type") "_of_parts" = some (.get (.builtin "classmethod.__get__") (.ref cp_Profile_of_parts) .none (.ref x_Profile)))
    (cq_Profile_of_parts : PySem.W.recIn K cp_Profile_of_parts "classmethod" = some (.ref f_Profile_of_parts :: cr_Profile_of_parts))
    (cf_Profile_of_parts : PySem.W.fnIn K f_Profile_of_parts = true)
    (ctz_Profile_of_sequence : PySem.W.findCls K (.ref x_Profile) (.type "type") "_of_sequence" = some (.get (.builtin "classmethod.__get__") (.ref cp_Profile_of_sequence) .none (.ref x_Profile)))
    (cq_Profile_of_sequence : PySem.W.recIn K cp_Profile_of_sequence "classmethod" = some (.ref f_Profile_of_sequence :: cr_Profile_of_sequence))
    (cf_Profile_of_sequence : PySem.W.fnIn K f_Profile_of_sequence = true)
    (na_Profile_puts : PySem.W.findIn K (.ref x_Profile) "_puts" = some none)
    (na_Profile_takes : PySem.W.findIn K (.ref x_Profile) "_takes" = some none)
    (na_Profile_low : PySem.W.findIn K (.ref x_Profile) "_low" = some none)
    (na_Profile_high : PySem.W.findIn K (.ref x_Profile) "_high" = some none)
    (na_Profile_fall : PySem.W.findIn K (.ref x_Profile) "_fall" = some none)
    (pa_Profile_puts : PySem.W.findIn K (.ref x_Profile) "puts" = some (some (.ref pp_Profile_puts)))
    (pg_Profile_puts : PySem.W.specialIn K (.ref pp_Profile_puts) "__get__" = some (some (.builtin "property.__get__")))
    (pt_Profile_puts : PySem.W.takesIn K (.ref pp_Profile_puts) = some true)
    (pr_Profile_puts : PySem.W.recIn K pp_Profile_puts "property" = some (.ref f_Profile_puts :: pq_Profile_puts))
    (pa_Profile_takes : PySem.W.findIn K (.ref x_Profile) "takes" = some (some (.ref pp_Profile_takes)))
    (pg_Profile_takes : PySem.W.specialIn K (.ref pp_Profile_takes) "__get__" = some (some (.builtin "property.__get__")))
    (pt_Profile_takes : PySem.W.takesIn K (.ref pp_Profile_takes) = some true)
    (pr_Profile_takes : PySem.W.recIn K pp_Profile_takes "property" = some (.ref f_Profile_takes :: pq_Profile_takes))
    (pa_Profile_low : PySem.W.findIn K (.ref x_Profile) "low" = some (some (.ref pp_Profile_low)))
    (pg_Profile_low : PySem.W.specialIn K (.ref pp_Profile_low) "__get__" = some (some (.builtin "property.__get__")))
    (pt_Profile_low : PySem.W.takesIn K (.ref pp_Profile_low) = some true)
    (pr_Profile_low : PySem.W.recIn K pp_Profile_low "property" = some (.ref f_Profile_low :: pq_Profile_low))
    (pa_Profile_high : PySem.W.findIn K (.ref x_Profile) "high" = some (some (.ref pp_Profile_high)))
    (pg_Profile_high : PySem.W.specialIn K (.ref pp_Profile_high) "__get__" = some (some (.builtin "property.__get__")))
    (pt_Profile_high : PySem.W.takesIn K (.ref pp_Profile_high) = some true)
    (pr_Profile_high : PySem.W.recIn K pp_Profile_high "property" = some (.ref f_Profile_high :: pq_Profile_high))
    (pa_Profile_fall : PySem.W.findIn K (.ref x_Profile) "fall" = some (some (.ref pp_Profile_fall)))
    (pg_Profile_fall : PySem.W.specialIn K (.ref pp_Profile_fall) "__get__" = some (some (.builtin "property.__get__")))
    (pt_Profile_fall : PySem.W.takesIn K (.ref pp_Profile_fall) = some true)
    (pr_Profile_fall : PySem.W.recIn K pp_Profile_fall "property" = some (.ref f_Profile_fall :: pq_Profile_fall))
    (pa_Profile_offset : PySem.W.findIn K (.ref x_Profile) "offset" = some (some (.ref pp_Profile_offset)))
    (pg_Profile_offset : PySem.W.specialIn K (.ref pp_Profile_offset) "__get__" = some (some (.builtin "property.__get__")))
    (pt_Profile_offset : PySem.W.takesIn K (.ref pp_Profile_offset) = some true)
    (pr_Profile_offset : PySem.W.recIn K pp_Profile_offset "property" = some (.ref f_Profile_offset :: pq_Profile_offset))
    (ma_Profile_repeated_fall : PySem.W.findIn K (.ref x_Profile) "_repeated_fall" = some (some (.ref f_Profile_repeated_fall)))
    (mi_Profile_repeated_fall : PySem.W.isFn K (.ref f_Profile_repeated_fall) = true)
    (mk_Profile_repeated_fall : PySem.W.keepIn K (.ref f_Profile_repeated_fall) = true)
    (sf_Profile : PySem.W.selfFirst K x_Profile = true)
    (ba_Profile_add : PySem.W.findIn K (.ref x_Profile) "__add__" = some (some (.ref f_Profile_add)))
    (bi_Profile_add : PySem.W.isFn K (.ref f_Profile_add) = true)
    (ba_Profile_mul : PySem.W.findIn K (.ref x_Profile) "__mul__" = some (some (.ref f_Profile_mul)))
    (bi_Profile_mul : PySem.W.isFn K (.ref f_Profile_mul) = true)
    (br_Profile_mul : PySem.W.findIn K (.ref x_Profile) "__rmul__" = some none)
    (fo_Profile_mul_int_ : PySem.W.findIn K (.type "int") "__mul__" = some fo_Profile_mul_int)
    (ro_Profile_mul_int_ : PySem.W.findIn K (.type "int") "__rmul__" = some ro_Profile_mul_int)
    (rs_Profile_mul_int_ : PySem.W.subIn K (.type "int") (.ref x_Profile) = some false)
    (fo_Profile_mul_NoneType_ : PySem.W.findIn K (.type "NoneType") "__mul__" = some fo_Profile_mul_NoneType)
    (ro_Profile_mul_NoneType_ : PySem.W.findIn K (.type "NoneType") "__rmul__" = some ro_Profile_mul_NoneType)
    (rs_Profile_mul_NoneType_ : PySem.W.subIn K (.type "NoneType") (.ref x_Profile) = some false)
    (fo_Profile_mul_str_ : PySem.W.findIn K (.type "str") "__mul__" = some fo_Profile_mul_str)
    (ro_Profile_mul_str_ : PySem.W.findIn K (.type "str") "__rmul__" = some ro_Profile_mul_str)
    (rs_Profile_mul_str_ : PySem.W.subIn K (.type "str") (.ref x_Profile) = some false)
    (fo_Profile_mul_bool_ : PySem.W.findIn K (.type "bool") "__mul__" = some fo_Profile_mul_bool)
    (ro_Profile_mul_bool_ : PySem.W.findIn K (.type "bool") "__rmul__" = some ro_Profile_mul_bool)
    (rs_Profile_mul_bool_ : PySem.W.subIn K (.type "bool") (.ref x_Profile) = some false)
    (ea_Profile : PySem.W.findIn K (.ref x_Profile) "__eq__" = some (some (.ref f_Profile_eq)))
    (ei_Profile : PySem.W.isFn K (.ref f_Profile_eq) = true)
    (en_Profile : PySem.W.findIn K (.ref x_Profile) "__ne__" = some (some (.builtin "object.__ne__")))
    (a_is_int : PySem.W.nsIn K mainGlobals "is_int" = some (some (.ref f_is_int)))
    (l_is_int : K.lookup f_is_int = some ⟨oc_is_int, od_is_int, .func (PySem.W.fnOf "is_int" "is_int" (defArgs s_is_int) (defBody s_is_int) (defScope s_is_int) .none kV_is_int dc_is_int pm_is_int an_is_int cd_is_int ct_is_int), sl_is_int⟩)
    (c_is_int : PySem.W.codeIn K cd_is_int "is_int" = true)
    (k_is_int : PySem.W.keepIn K (.ref f_is_int) = true)
    (a_is_natural : PySem.W.nsIn K mainGlobals "is_natural" = some (some (.ref f_is_natural)))
    (l_is_natural : K.lookup f_is_natural = some ⟨oc_is_natural, od_is_natural, .func (PySem.W.fnOf "is_natural" "is_natural" (defArgs s_is_natural) (defBody s_is_natural) (defScope s_is_natural) .none kV_is_natural dc_is_natural pm_is_natural an_is_natural cd_is_natural ct_is_natural), sl_is_natural⟩)
    (c_is_natural : PySem.W.codeIn K cd_is_natural "is_natural" = true)
    (k_is_natural : PySem.W.keepIn K (.ref f_is_natural) = true)
    (a_is_int_between : PySem.W.nsIn K mainGlobals "is_int_between" = some (some (.ref f_is_int_between)))
    (l_is_int_between : K.lookup f_is_int_between = some ⟨oc_is_int_between, od_is_int_between, .func (PySem.W.fnOf "is_int_between" "is_int_between" (defArgs s_is_int_between) (defBody s_is_int_between) (defScope s_is_int_between) .none kV_is_int_between dc_is_int_between pm_is_int_between an_is_int_between cd_is_int_between ct_is_int_between), sl_is_int_between⟩)
    (c_is_int_between : PySem.W.codeIn K cd_is_int_between "is_int_between" = true)
    (k_is_int_between : PySem.W.keepIn K (.ref f_is_int_between) = true)
    (a_read_integer : PySem.W.nsIn K mainGlobals "read_integer" = some (some (.ref f_read_integer)))
    (l_read_integer : K.lookup f_read_integer = some ⟨oc_read_integer, od_read_integer, .func (PySem.W.fnOf "read_integer" "read_integer" (defArgs s_read_integer) (defBody s_read_integer) (defScope s_read_integer) .none kV_read_integer dc_read_integer pm_read_integer an_read_integer cd_read_integer ct_read_integer), sl_read_integer⟩)
    (c_read_integer : PySem.W.codeIn K cd_read_integer "read_integer" = true)
    (k_read_integer : PySem.W.keepIn K (.ref f_read_integer) = true)
    (a_is_mode : PySem.W.nsIn K mainGlobals "is_mode" = some (some (.ref f_is_mode)))
    (l_is_mode : K.lookup f_is_mode = some ⟨oc_is_mode, od_is_mode, .func (PySem.W.fnOf "is_mode" "is_mode" (defArgs s_is_mode) (defBody s_is_mode) (defScope s_is_mode) .none kV_is_mode dc_is_mode pm_is_mode an_is_mode cd_is_mode ct_is_mode), sl_is_mode⟩)
    (c_is_mode : PySem.W.codeIn K cd_is_mode "is_mode" = true)
    (k_is_mode : PySem.W.keepIn K (.ref f_is_mode) = true)
    (a_check_mode : PySem.W.nsIn K mainGlobals "check_mode" = some (some (.ref f_check_mode)))
    (l_check_mode : K.lookup f_check_mode = some ⟨oc_check_mode, od_check_mode, .func (PySem.W.fnOf "check_mode" "check_mode" (defArgs s_check_mode) (defBody s_check_mode) (defScope s_check_mode) .none kV_check_mode dc_check_mode pm_check_mode an_check_mode cd_check_mode ct_check_mode), sl_check_mode⟩)
    (c_check_mode : PySem.W.codeIn K cd_check_mode "check_mode" = true)
    (k_check_mode : PySem.W.keepIn K (.ref f_check_mode) = true)
    (a_check_any_length : PySem.W.nsIn K mainGlobals "check_any_length" = some (some (.ref f_check_any_length)))
    (l_check_any_length : K.lookup f_check_any_length = some ⟨oc_check_any_length, od_check_any_length, .func (PySem.W.fnOf "check_any_length" "check_any_length" (defArgs s_check_any_length) (defBody s_check_any_length) (defScope s_check_any_length) .none kV_check_any_length dc_check_any_length pm_check_any_length an_check_any_length cd_check_any_length ct_check_any_length), sl_check_any_length⟩)
    (c_check_any_length : PySem.W.codeIn K cd_check_any_length "check_any_length" = true)
    (k_check_any_length : PySem.W.keepIn K (.ref f_check_any_length) = true)
    (a_is_count : PySem.W.nsIn K mainGlobals "is_count" = some (some (.ref f_is_count)))
    (l_is_count : K.lookup f_is_count = some ⟨oc_is_count, od_is_count, .func (PySem.W.fnOf "is_count" "is_count" (defArgs s_is_count) (defBody s_is_count) (defScope s_is_count) .none kV_is_count dc_is_count pm_is_count an_is_count cd_is_count ct_is_count), sl_is_count⟩)
    (c_is_count : PySem.W.codeIn K cd_is_count "is_count" = true)
    (k_is_count : PySem.W.keepIn K (.ref f_is_count) = true)
    (a_check_count : PySem.W.nsIn K mainGlobals "check_count" = some (some (.ref f_check_count)))
    (l_check_count : K.lookup f_check_count = some ⟨oc_check_count, od_check_count, .func (PySem.W.fnOf "check_count" "check_count" (defArgs s_check_count) (defBody s_check_count) (defScope s_check_count) .none kV_check_count dc_check_count pm_check_count an_check_count cd_check_count ct_check_count), sl_check_count⟩)
    (c_check_count : PySem.W.codeIn K cd_check_count "check_count" = true)
    (k_check_count : PySem.W.keepIn K (.ref f_check_count) = true)
    (a_repeat : PySem.W.nsIn K mainGlobals "repeat" = some (some (.ref f_repeat)))
    (l_repeat : K.lookup f_repeat = some ⟨oc_repeat, od_repeat, .func (PySem.W.fnOf "repeat" "repeat" (defArgs s_repeat) (defBody s_repeat) (defScope s_repeat) .none kV_repeat dc_repeat pm_repeat an_repeat cd_repeat ct_repeat), sl_repeat⟩)
    (c_repeat : PySem.W.codeIn K cd_repeat "repeat" = true)
    (k_repeat : PySem.W.keepIn K (.ref f_repeat) = true)
    (a_parts_of : PySem.W.nsIn K mainGlobals "parts_of" = some (some (.ref f_parts_of)))
    (l_parts_of : K.lookup f_parts_of = some ⟨oc_parts_of, od_parts_of, .func (PySem.W.fnOf "parts_of" "parts_of" (defArgs s_parts_of) (defBody s_parts_of) (defScope s_parts_of) .none kV_parts_of dc_parts_of pm_parts_of an_parts_of cd_parts_of ct_parts_of), sl_parts_of⟩)
    (c_parts_of : PySem.W.codeIn K cd_parts_of "parts_of" = true)
    (k_parts_of : PySem.W.keepIn K (.ref f_parts_of) = true)
    (a_read_parts : PySem.W.nsIn K mainGlobals "read_parts" = some (some (.ref f_read_parts)))
    (l_read_parts : K.lookup f_read_parts = some ⟨oc_read_parts, od_read_parts, .func (PySem.W.fnOf "read_parts" "read_parts" (defArgs s_read_parts) (defBody s_read_parts) (defScope s_read_parts) .none kV_read_parts dc_read_parts pm_read_parts an_read_parts cd_read_parts ct_read_parts), sl_read_parts⟩)
    (c_read_parts : PySem.W.codeIn K cd_read_parts "read_parts" = true)
    (k_read_parts : PySem.W.keepIn K (.ref f_read_parts) = true)
    (a_end_of_run : PySem.W.nsIn K mainGlobals "end_of_run" = some (some (.ref f_end_of_run)))
    (l_end_of_run : K.lookup f_end_of_run = some ⟨oc_end_of_run, od_end_of_run, .func (PySem.W.fnOf "end_of_run" "end_of_run" (defArgs s_end_of_run) (defBody s_end_of_run) (defScope s_end_of_run) .none kV_end_of_run dc_end_of_run pm_end_of_run an_end_of_run cd_end_of_run ct_end_of_run), sl_end_of_run⟩)
    (c_end_of_run : PySem.W.codeIn K cd_end_of_run "end_of_run" = true)
    (k_end_of_run : PySem.W.keepIn K (.ref f_end_of_run) = true)
    (a_depth_of : PySem.W.nsIn K mainGlobals "depth_of" = some (some (.ref f_depth_of)))
    (l_depth_of : K.lookup f_depth_of = some ⟨oc_depth_of, od_depth_of, .func (PySem.W.fnOf "depth_of" "depth_of" (defArgs s_depth_of) (defBody s_depth_of) (defScope s_depth_of) .none kV_depth_of dc_depth_of pm_depth_of an_depth_of cd_depth_of ct_depth_of), sl_depth_of⟩)
    (c_depth_of : PySem.W.codeIn K cd_depth_of "depth_of" = true)
    (k_depth_of : PySem.W.keepIn K (.ref f_depth_of) = true)
    (l_Profile_init : K.lookup f_Profile_init = some ⟨oc_Profile_init, od_Profile_init, .func (PySem.W.fnOf "__init__" "Profile.__init__" (defArgs s_Profile_init) (defBody s_Profile_init) (defScope s_Profile_init) .none kV_Profile_init dc_Profile_init pm_Profile_init an_Profile_init cd_Profile_init ct_Profile_init), sl_Profile_init⟩)
    (c_Profile_init : PySem.W.codeIn K cd_Profile_init "Profile.__init__" = true)
    (k_Profile_init : PySem.W.keepIn K (.ref f_Profile_init) = true)
    (l_Profile_puts : K.lookup f_Profile_puts = some ⟨oc_Profile_puts, od_Profile_puts, .func (PySem.W.fnOf "puts" "Profile.puts" (defArgs s_Profile_puts) (defBody s_Profile_puts) (defScope s_Profile_puts) .none kV_Profile_puts dc_Profile_puts pm_Profile_puts an_Profile_puts cd_Profile_puts ct_Profile_puts), sl_Profile_puts⟩)
    (c_Profile_puts : PySem.W.codeIn K cd_Profile_puts "Profile.puts" = true)
    (k_Profile_puts : PySem.W.keepIn K (.ref f_Profile_puts) = true)
    (l_Profile_takes : K.lookup f_Profile_takes = some ⟨oc_Profile_takes, od_Profile_takes, .func (PySem.W.fnOf "takes" "Profile.takes" (defArgs s_Profile_takes) (defBody s_Profile_takes) (defScope s_Profile_takes) .none kV_Profile_takes dc_Profile_takes pm_Profile_takes an_Profile_takes cd_Profile_takes ct_Profile_takes), sl_Profile_takes⟩)
    (c_Profile_takes : PySem.W.codeIn K cd_Profile_takes "Profile.takes" = true)
    (k_Profile_takes : PySem.W.keepIn K (.ref f_Profile_takes) = true)
    (l_Profile_low : K.lookup f_Profile_low = some ⟨oc_Profile_low, od_Profile_low, .func (PySem.W.fnOf "low" "Profile.low" (defArgs s_Profile_low) (defBody s_Profile_low) (defScope s_Profile_low) .none kV_Profile_low dc_Profile_low pm_Profile_low an_Profile_low cd_Profile_low ct_Profile_low), sl_Profile_low⟩)
    (c_Profile_low : PySem.W.codeIn K cd_Profile_low "Profile.low" = true)
    (k_Profile_low : PySem.W.keepIn K (.ref f_Profile_low) = true)
    (l_Profile_high : K.lookup f_Profile_high = some ⟨oc_Profile_high, od_Profile_high, .func (PySem.W.fnOf "high" "Profile.high" (defArgs s_Profile_high) (defBody s_Profile_high) (defScope s_Profile_high) .none kV_Profile_high dc_Profile_high pm_Profile_high an_Profile_high cd_Profile_high ct_Profile_high), sl_Profile_high⟩)
    (c_Profile_high : PySem.W.codeIn K cd_Profile_high "Profile.high" = true)
    (k_Profile_high : PySem.W.keepIn K (.ref f_Profile_high) = true)
    (l_Profile_fall : K.lookup f_Profile_fall = some ⟨oc_Profile_fall, od_Profile_fall, .func (PySem.W.fnOf "fall" "Profile.fall" (defArgs s_Profile_fall) (defBody s_Profile_fall) (defScope s_Profile_fall) .none kV_Profile_fall dc_Profile_fall pm_Profile_fall an_Profile_fall cd_Profile_fall ct_Profile_fall), sl_Profile_fall⟩)
    (c_Profile_fall : PySem.W.codeIn K cd_Profile_fall "Profile.fall" = true)
    (k_Profile_fall : PySem.W.keepIn K (.ref f_Profile_fall) = true)
    (l_Profile_offset : K.lookup f_Profile_offset = some ⟨oc_Profile_offset, od_Profile_offset, .func (PySem.W.fnOf "offset" "Profile.offset" (defArgs s_Profile_offset) (defBody s_Profile_offset) (defScope s_Profile_offset) .none kV_Profile_offset dc_Profile_offset pm_Profile_offset an_Profile_offset cd_Profile_offset ct_Profile_offset), sl_Profile_offset⟩)
    (c_Profile_offset : PySem.W.codeIn K cd_Profile_offset "Profile.offset" = true)
    (k_Profile_offset : PySem.W.keepIn K (.ref f_Profile_offset) = true)
    (l_Profile_of : K.lookup f_Profile_of = some ⟨oc_Profile_of, od_Profile_of, .func (PySem.W.fnOf "of" "Profile.of" (defArgs s_Profile_of) (defBody s_Profile_of) (defScope s_Profile_of) .none kV_Profile_of dc_Profile_of pm_Profile_of an_Profile_of cd_Profile_of ct_Profile_of), sl_Profile_of⟩)
    (c_Profile_of : PySem.W.codeIn K cd_Profile_of "Profile.of" = true)
    (k_Profile_of : PySem.W.keepIn K (.ref f_Profile_of) = true)
    (l_Profile_of_parts : K.lookup f_Profile_of_parts = some ⟨oc_Profile_of_parts, od_Profile_of_parts, .func (PySem.W.fnOf "_of_parts" "Profile._of_parts" (defArgs s_Profile_of_parts) (defBody s_Profile_of_parts) (defScope s_Profile_of_parts) .none kV_Profile_of_parts dc_Profile_of_parts pm_Profile_of_parts an_Profile_of_parts cd_Profile_of_parts ct_Profile_of_parts), sl_Profile_of_parts⟩)
    (c_Profile_of_parts : PySem.W.codeIn K cd_Profile_of_parts "Profile._of_parts" = true)
    (k_Profile_of_parts : PySem.W.keepIn K (.ref f_Profile_of_parts) = true)
    (l_Profile_of_sequence : K.lookup f_Profile_of_sequence = some ⟨oc_Profile_of_sequence, od_Profile_of_sequence, .func (PySem.W.fnOf "_of_sequence" "Profile._of_sequence" (defArgs s_Profile_of_sequence) (defBody s_Profile_of_sequence) (defScope s_Profile_of_sequence) .none kV_Profile_of_sequence dc_Profile_of_sequence pm_Profile_of_sequence an_Profile_of_sequence cd_Profile_of_sequence ct_Profile_of_sequence), sl_Profile_of_sequence⟩)
    (c_Profile_of_sequence : PySem.W.codeIn K cd_Profile_of_sequence "Profile._of_sequence" = true)
    (k_Profile_of_sequence : PySem.W.keepIn K (.ref f_Profile_of_sequence) = true)
    (l_Profile_add : K.lookup f_Profile_add = some ⟨oc_Profile_add, od_Profile_add, .func (PySem.W.fnOf "__add__" "Profile.__add__" (defArgs s_Profile_add) (defBody s_Profile_add) (defScope s_Profile_add) .none kV_Profile_add dc_Profile_add pm_Profile_add an_Profile_add cd_Profile_add ct_Profile_add), sl_Profile_add⟩)
    (c_Profile_add : PySem.W.codeIn K cd_Profile_add "Profile.__add__" = true)
    (k_Profile_add : PySem.W.keepIn K (.ref f_Profile_add) = true)
    (l_Profile_mul : K.lookup f_Profile_mul = some ⟨oc_Profile_mul, od_Profile_mul, .func (PySem.W.fnOf "__mul__" "Profile.__mul__" (defArgs s_Profile_mul) (defBody s_Profile_mul) (defScope s_Profile_mul) .none kV_Profile_mul dc_Profile_mul pm_Profile_mul an_Profile_mul cd_Profile_mul ct_Profile_mul), sl_Profile_mul⟩)
    (c_Profile_mul : PySem.W.codeIn K cd_Profile_mul "Profile.__mul__" = true)
    (k_Profile_mul : PySem.W.keepIn K (.ref f_Profile_mul) = true)
    (l_Profile_repeated_fall : K.lookup f_Profile_repeated_fall = some ⟨oc_Profile_repeated_fall, od_Profile_repeated_fall, .func (PySem.W.fnOf "_repeated_fall" "Profile._repeated_fall" (defArgs s_Profile_repeated_fall) (defBody s_Profile_repeated_fall) (defScope s_Profile_repeated_fall) .none kV_Profile_repeated_fall dc_Profile_repeated_fall pm_Profile_repeated_fall an_Profile_repeated_fall cd_Profile_repeated_fall ct_Profile_repeated_fall), sl_Profile_repeated_fall⟩)
    (c_Profile_repeated_fall : PySem.W.codeIn K cd_Profile_repeated_fall "Profile._repeated_fall" = true)
    (k_Profile_repeated_fall : PySem.W.keepIn K (.ref f_Profile_repeated_fall) = true)
    (l_Profile_eq : K.lookup f_Profile_eq = some ⟨oc_Profile_eq, od_Profile_eq, .func (PySem.W.fnOf "__eq__" "Profile.__eq__" (defArgs s_Profile_eq) (defBody s_Profile_eq) (defScope s_Profile_eq) .none kV_Profile_eq dc_Profile_eq pm_Profile_eq an_Profile_eq cd_Profile_eq ct_Profile_eq), sl_Profile_eq⟩)
    (c_Profile_eq : PySem.W.codeIn K cd_Profile_eq "Profile.__eq__" = true)
    (k_Profile_eq : PySem.W.keepIn K (.ref f_Profile_eq) = true)
    (a_least_capacity : PySem.W.nsIn K mainGlobals "least_capacity" = some (some (.ref f_least_capacity)))
    (l_least_capacity : K.lookup f_least_capacity = some ⟨oc_least_capacity, od_least_capacity, .func (PySem.W.fnOf "least_capacity" "least_capacity" (defArgs s_least_capacity) (defBody s_least_capacity) (defScope s_least_capacity) .none kV_least_capacity dc_least_capacity pm_least_capacity an_least_capacity cd_least_capacity ct_least_capacity), sl_least_capacity⟩)
    (c_least_capacity : PySem.W.codeIn K cd_least_capacity "least_capacity" = true)
    (k_least_capacity : PySem.W.keepIn K (.ref f_least_capacity) = true)
    (a_lossless_capacity : PySem.W.nsIn K mainGlobals "lossless_capacity" = some (some (.ref f_lossless_capacity)))
    (l_lossless_capacity : K.lookup f_lossless_capacity = some ⟨oc_lossless_capacity, od_lossless_capacity, .func (PySem.W.fnOf "lossless_capacity" "lossless_capacity" (defArgs s_lossless_capacity) (defBody s_lossless_capacity) (defScope s_lossless_capacity) .none kV_lossless_capacity dc_lossless_capacity pm_lossless_capacity an_lossless_capacity cd_lossless_capacity ct_lossless_capacity), sl_lossless_capacity⟩)
    (c_lossless_capacity : PySem.W.codeIn K cd_lossless_capacity "lossless_capacity" = true)
    (k_lossless_capacity : PySem.W.keepIn K (.ref f_lossless_capacity) = true)
    (a_roomy_capacity : PySem.W.nsIn K mainGlobals "roomy_capacity" = some (some (.ref f_roomy_capacity)))
    (l_roomy_capacity : K.lookup f_roomy_capacity = some ⟨oc_roomy_capacity, od_roomy_capacity, .func (PySem.W.fnOf "roomy_capacity" "roomy_capacity" (defArgs s_roomy_capacity) (defBody s_roomy_capacity) (defScope s_roomy_capacity) .none kV_roomy_capacity dc_roomy_capacity pm_roomy_capacity an_roomy_capacity cd_roomy_capacity ct_roomy_capacity), sl_roomy_capacity⟩)
    (c_roomy_capacity : PySem.W.codeIn K cd_roomy_capacity "roomy_capacity" = true)
    (k_roomy_capacity : PySem.W.keepIn K (.ref f_roomy_capacity) = true)
    (a__law_draws : PySem.W.nsIn K mainGlobals "_law_draws" = some (some (.ref f__law_draws)))
    (l__law_draws : K.lookup f__law_draws = some ⟨oc__law_draws, od__law_draws, .func (PySem.W.fnOf "_law_draws" "_law_draws" (defArgs s__law_draws) (defBody s__law_draws) (defScope s__law_draws) .none kV__law_draws dc__law_draws pm__law_draws an__law_draws cd__law_draws ct__law_draws), sl__law_draws⟩)
    (c__law_draws : PySem.W.codeIn K cd__law_draws "_law_draws" = true)
    (k__law_draws : PySem.W.keepIn K (.ref f__law_draws) = true)
    (a__law_draw : PySem.W.nsIn K mainGlobals "_law_draw" = some (some (.ref f__law_draw)))
    (l__law_draw : K.lookup f__law_draw = some ⟨oc__law_draw, od__law_draw, .func (PySem.W.fnOf "_law_draw" "_law_draw" (defArgs s__law_draw) (defBody s__law_draw) (defScope s__law_draw) .none kV__law_draw dc__law_draw pm__law_draw an__law_draw cd__law_draw ct__law_draw), sl__law_draw⟩)
    (c__law_draw : PySem.W.codeIn K cd__law_draw "_law_draw" = true)
    (k__law_draw : PySem.W.keepIn K (.ref f__law_draw) = true)
    (a__law_letter : PySem.W.nsIn K mainGlobals "_law_letter" = some (some (.ref f__law_letter)))
    (l__law_letter : K.lookup f__law_letter = some ⟨oc__law_letter, od__law_letter, .func (PySem.W.fnOf "_law_letter" "_law_letter" (defArgs s__law_letter) (defBody s__law_letter) (defScope s__law_letter) .none kV__law_letter dc__law_letter pm__law_letter an__law_letter cd__law_letter ct__law_letter), sl__law_letter⟩)
    (c__law_letter : PySem.W.codeIn K cd__law_letter "_law_letter" = true)
    (k__law_letter : PySem.W.keepIn K (.ref f__law_letter) = true)
    (a__law_sequence : PySem.W.nsIn K mainGlobals "_law_sequence" = some (some (.ref f__law_sequence)))
    (l__law_sequence : K.lookup f__law_sequence = some ⟨oc__law_sequence, od__law_sequence, .func (PySem.W.fnOf "_law_sequence" "_law_sequence" (defArgs s__law_sequence) (defBody s__law_sequence) (defScope s__law_sequence) .none kV__law_sequence dc__law_sequence pm__law_sequence an__law_sequence cd__law_sequence ct__law_sequence), sl__law_sequence⟩)
    (c__law_sequence : PySem.W.codeIn K cd__law_sequence "_law_sequence" = true)
    (k__law_sequence : PySem.W.keepIn K (.ref f__law_sequence) = true)
    (a__law_program : PySem.W.nsIn K mainGlobals "_law_program" = some (some (.ref f__law_program)))
    (l__law_program : K.lookup f__law_program = some ⟨oc__law_program, od__law_program, .func (PySem.W.fnOf "_law_program" "_law_program" (defArgs s__law_program) (defBody s__law_program) (defScope s__law_program) .none kV__law_program dc__law_program pm__law_program an__law_program cd__law_program ct__law_program), sl__law_program⟩)
    (c__law_program : PySem.W.codeIn K cd__law_program "_law_program" = true)
    (k__law_program : PySem.W.keepIn K (.ref f__law_program) = true)
    (a__law_run : PySem.W.nsIn K mainGlobals "_law_run" = some (some (.ref f__law_run)))
    (l__law_run : K.lookup f__law_run = some ⟨oc__law_run, od__law_run, .func (PySem.W.fnOf "_law_run" "_law_run" (defArgs s__law_run) (defBody s__law_run) (defScope s__law_run) .none kV__law_run dc__law_run pm__law_run an__law_run cd__law_run ct__law_run), sl__law_run⟩)
    (c__law_run : PySem.W.codeIn K cd__law_run "_law_run" = true)
    (k__law_run : PySem.W.keepIn K (.ref f__law_run) = true)
    (a__law_trials : PySem.W.nsIn K mainGlobals "_law_trials" = some (some (.ref f__law_trials)))
    (l__law_trials : K.lookup f__law_trials = some ⟨oc__law_trials, od__law_trials, .func (PySem.W.fnOf "_law_trials" "_law_trials" (defArgs s__law_trials) (defBody s__law_trials) (defScope s__law_trials) .none kV__law_trials dc__law_trials pm__law_trials an__law_trials cd__law_trials ct__law_trials), sl__law_trials⟩)
    (c__law_trials : PySem.W.codeIn K cd__law_trials "_law_trials" = true)
    (k__law_trials : PySem.W.keepIn K (.ref f__law_trials) = true)
    (a__law_error : PySem.W.nsIn K mainGlobals "_law_error" = some (some (.ref f__law_error)))
    (l__law_error : K.lookup f__law_error = some ⟨oc__law_error, od__law_error, .func (PySem.W.fnOf "_law_error" "_law_error" (defArgs s__law_error) (defBody s__law_error) (defScope s__law_error) .none kV__law_error dc__law_error pm__law_error an__law_error cd__law_error ct__law_error), sl__law_error⟩)
    (c__law_error : PySem.W.codeIn K cd__law_error "_law_error" = true)
    (k__law_error : PySem.W.keepIn K (.ref f__law_error) = true)
    (a_law : PySem.W.nsIn K mainGlobals "law" = some (some (.ref f_law)))
    (l_law : K.lookup f_law = some ⟨oc_law, od_law, .func (PySem.W.fnOf "law" "law" (defArgs s_law) (defBody s_law) (defScope s_law) .none kV_law dc_law pm_law an_law cd_law ct_law), sl_law⟩)
    (c_law : PySem.W.codeIn K cd_law "law" = true)
    (k_law : PySem.W.keepIn K (.ref f_law) = true)
    (z_NotImplemented : PySem.W.nsIn K mainGlobals "NotImplemented" = some none)
    (z_all : PySem.W.nsIn K mainGlobals "all" = some none)
    (z_bool : PySem.W.nsIn K mainGlobals "bool" = some none)
    (z_classmethod : PySem.W.nsIn K mainGlobals "classmethod" = some none)
    (z_enumerate : PySem.W.nsIn K mainGlobals "enumerate" = some none)
    (z_int : PySem.W.nsIn K mainGlobals "int" = some none)
    (z_isinstance : PySem.W.nsIn K mainGlobals "isinstance" = some none)
    (z_len : PySem.W.nsIn K mainGlobals "len" = some none)
    (z_max : PySem.W.nsIn K mainGlobals "max" = some none)
    (z_min : PySem.W.nsIn K mainGlobals "min" = some none)
    (z_property : PySem.W.nsIn K mainGlobals "property" = some none)
    (z_range : PySem.W.nsIn K mainGlobals "range" = some none)
    (z_str : PySem.W.nsIn K mainGlobals "str" = some none)
    (n_DIGITS : PySem.W.nsIn K mainGlobals "DIGITS" = some (some (.str "0123456789" u_DIGITS)))
    (n_MOST_DIGITS : PySem.W.nsIn K mainGlobals "MOST_DIGITS" = some (some (.int 60 u_MOST_DIGITS)))
    (n_MODES : PySem.W.nsIn K mainGlobals "MODES" = some (some (.ref p_MODES)))
    (l_MODES : K.lookup p_MODES = some ⟨.type "tuple", md_MODES, .seq #[.str "oldest" u1_MODES, .str "newest" u2_MODES, .str "strict" u3_MODES] mn_MODES, ms_MODES⟩)
    (n_TAKE : PySem.W.nsIn K mainGlobals "TAKE" = some (some (.str "-" u_TAKE)))
    (n_STEPS : PySem.W.nsIn K mainGlobals "STEPS" = some (some (.str "abcdefghijklmnopqrstuvwxyz-" u_STEPS)))
    (n_MOST_COUNT : PySem.W.nsIn K mainGlobals "MOST_COUNT" = some (some (.int 1000000000000000000000000000000 u_MOST_COUNT)))
    (n_MOST_DEPTH : PySem.W.nsIn K mainGlobals "MOST_DEPTH" = some (some (.int 20 u_MOST_DEPTH)))
    (gx_InvalidInteger : PySem.W.nsIn K mainGlobals "InvalidInteger" = some (some (.ref x_InvalidInteger)))
    (q_InvalidInteger : PySem.W.excIn K x_InvalidInteger [.type "ValueError", .type "Exception", .type "BaseException", .type "object"] "ValueError.__new__" = true)
    (k_InvalidInteger : PySem.W.keepIn K (.ref x_InvalidInteger) = true)
    (b_InvalidInteger : PySem.W.subIn K (.ref x_InvalidInteger) (.type "BaseException") = some true)
    (t_InvalidInteger : PySem.W.typeIn K (.ref x_InvalidInteger) = some (.type "type"))
    (i_InvalidInteger : PySem.W.isClsIn K x_InvalidInteger = true)
    (s_InvalidInteger : PySem.W.subIn K (.ref x_InvalidInteger) (.ref x_InvalidInteger) = some true)
    (gx_InvalidMode : PySem.W.nsIn K mainGlobals "InvalidMode" = some (some (.ref x_InvalidMode)))
    (q_InvalidMode : PySem.W.excIn K x_InvalidMode [.type "ValueError", .type "Exception", .type "BaseException", .type "object"] "ValueError.__new__" = true)
    (k_InvalidMode : PySem.W.keepIn K (.ref x_InvalidMode) = true)
    (b_InvalidMode : PySem.W.subIn K (.ref x_InvalidMode) (.type "BaseException") = some true)
    (t_InvalidMode : PySem.W.typeIn K (.ref x_InvalidMode) = some (.type "type"))
    (i_InvalidMode : PySem.W.isClsIn K x_InvalidMode = true)
    (s_InvalidMode : PySem.W.subIn K (.ref x_InvalidMode) (.ref x_InvalidMode) = some true)
    (gx_InvalidProgram : PySem.W.nsIn K mainGlobals "InvalidProgram" = some (some (.ref x_InvalidProgram)))
    (q_InvalidProgram : PySem.W.excIn K x_InvalidProgram [.type "ValueError", .type "Exception", .type "BaseException", .type "object"] "ValueError.__new__" = true)
    (k_InvalidProgram : PySem.W.keepIn K (.ref x_InvalidProgram) = true)
    (b_InvalidProgram : PySem.W.subIn K (.ref x_InvalidProgram) (.type "BaseException") = some true)
    (t_InvalidProgram : PySem.W.typeIn K (.ref x_InvalidProgram) = some (.type "type"))
    (i_InvalidProgram : PySem.W.isClsIn K x_InvalidProgram = true)
    (s_InvalidProgram : PySem.W.subIn K (.ref x_InvalidProgram) (.ref x_InvalidProgram) = some true)
    (gx_LimitExceeded : PySem.W.nsIn K mainGlobals "LimitExceeded" = some (some (.ref x_LimitExceeded)))
    (q_LimitExceeded : PySem.W.excInitIn K x_LimitExceeded [.type "OverflowError", .type "ArithmeticError", .type "Exception", .type "BaseException", .type "object"] "OverflowError.__new__" = true)
    (ov_LimitExceeded : PySem.W.excOver K x_LimitExceeded [.type "OverflowError", .type "ArithmeticError", .type "Exception", .type "BaseException", .type "object"] = true)
    (sa_LimitExceeded : PySem.W.findIn K (.ref x_LimitExceeded) "__setattr__" = some (some (.builtin "object.__setattr__")))
    (ga_LimitExceeded : PySem.W.findIn K (.ref x_LimitExceeded) "__getattribute__" = some (some (.builtin "BaseException.__getattribute__")))
    (gg_LimitExceeded : PySem.W.findIn K (.ref x_LimitExceeded) "__getattr__" = some none)
    (no_LimitExceeded : PySem.W.findIn K (.ref x_LimitExceeded) "size" = some none)
    (iC_LimitExceeded : PySem.W.findIn K (.ref x_LimitExceeded) "__init__" = some (some (.ref y_LimitExceeded)))
    (tC_LimitExceeded : PySem.W.typeIn K (.ref y_LimitExceeded) = some (.type "function"))
    (kC_LimitExceeded : PySem.W.keepIn K (.ref x_LimitExceeded) = true)
    (exC_LimitExceeded : PySem.W.subIn K (.ref x_LimitExceeded) (.type "BaseException") = some true)
    (suB_LimitExceeded : PySem.W.subIn K (.ref x_LimitExceeded) (.type "OverflowError") = some true)
    (tyC_LimitExceeded : PySem.W.typeIn K (.ref x_LimitExceeded) = some (.type "type"))
    (hdC_LimitExceeded : PySem.W.hasDictIn K x_LimitExceeded = true)
    (ic_LimitExceeded : PySem.W.isClsIn K x_LimitExceeded = true)
    (sC_LimitExceeded : PySem.W.subIn K (.ref x_LimitExceeded) (.ref x_LimitExceeded) = some true)
    (mC_LimitExceeded : PySem.W.mroIn K x_LimitExceeded (.ref x_LimitExceeded) = some true)
    (su_LimitExceeded : PySem.W.ks_superIn K x_LimitExceeded x_LimitExceeded "__init__" = some (some (.builtin "OverflowError.__init__")))
    (zs_LimitExceeded : PySem.W.nsIn K mainGlobals "super" = some none)
    (zt_LimitExceeded : PySem.W.nsIn K cStatics "thirdparty.any" = some none)
    (l_LimitExceeded : K.lookup y_LimitExceeded = some ⟨oc_LimitExceeded, od_LimitExceeded, .func (PySem.W.ksFn "__init__" "LimitExceeded.__init__" (L2.defArgs s_LimitExceeded_init) (L2.defBody s_LimitExceeded_init) (L2.defScope s_LimitExceeded_init) .none kV_LimitExceeded dc_LimitExceeded pm_LimitExceeded an_LimitExceeded (.ref ca_LimitExceeded) ct_LimitExceeded cc_LimitExceeded), sl_LimitExceeded⟩)
    (cI_LimitExceeded : PySem.W.codeIn K (.ref ca_LimitExceeded) "LimitExceeded.__init__" = true)
    (lc_LimitExceeded : K.lookup cc_LimitExceeded = some ⟨cl_LimitExceeded, cd_LimitExceeded, .cell (some (.ref x_LimitExceeded)), csl_LimitExceeded⟩)
    (la_LimitExceeded : K.lookup ca_LimitExceeded = some ⟨cx_LimitExceeded, ce_LimitExceeded, .fields vs_LimitExceeded, ccs_LimitExceeded⟩)
    (v2_LimitExceeded : vs_LimitExceeded[2]? = some (.str fl_LimitExceeded tf_LimitExceeded))
    (fe_LimitExceeded : ((P.main.file : Str) == fl_LimitExceeded) = true)
    (ne_InvalidInteger_InvalidProgram : PySem.W.subIn K (.ref x_InvalidInteger) (.ref x_InvalidProgram) = some false)
    (ne_InvalidMode_InvalidProgram : PySem.W.subIn K (.ref x_InvalidMode) (.ref x_InvalidProgram) = some false)
    (ne_InvalidInteger_InvalidMode : PySem.W.subIn K (.ref x_InvalidInteger) (.ref x_InvalidMode) = some false)
    : ∃ fd : FuncData, (∀ (s : Shared) (v : Value), BindsTo s fd ⟨[v], []⟩ [("_law_script", v)]) ∧ ∀ base : Heap, K.In base → base.Ns mainGlobals mg → FnOk P w K mg base CX0 37 fa fd ["_law_script"] (spLaw K) := by
  have e := hfa.symm.trans (PySem.W.mg_of X G a_law)
  cases e
  have F_is_int := fun_mk (st := s_is_int) l_is_int c_is_int k_is_int
  have b_is_int := F_is_int.binds (ps := ["value"]) fun _ _ _ _ _ _ us hl => match us, hl with | [_], _ => rfl
  have F_is_natural := fun_mk (st := s_is_natural) l_is_natural c_is_natural k_is_natural
  have b_is_natural := F_is_natural.binds (ps := ["value"]) fun _ _ _ _ _ _ us hl => match us, hl with | [_], _ => rfl
  have F_is_int_between := fun_mk (st := s_is_int_between) l_is_int_between c_is_int_between k_is_int_between
  have b_is_int_between := F_is_int_between.binds (ps := ["value", "least", "most"]) fun _ _ _ _ _ _ us hl => match us, hl with | [_, _, _], _ => rfl
  have F_read_integer := fun_mk (st := s_read_integer) l_read_integer c_read_integer k_read_integer
  have b_read_integer := F_read_integer.binds (ps := ["text"]) fun _ _ _ _ _ _ us hl => match us, hl with | [_], _ => rfl
  have F_is_mode := fun_mk (st := s_is_mode) l_is_mode c_is_mode k_is_mode
  have b_is_mode := F_is_mode.binds (ps := ["value"]) fun _ _ _ _ _ _ us hl => match us, hl with | [_], _ => rfl
  have F_check_mode := fun_mk (st := s_check_mode) l_check_mode c_check_mode k_check_mode
  have b_check_mode := F_check_mode.binds (ps := ["value"]) fun _ _ _ _ _ _ us hl => match us, hl with | [_], _ => rfl
  have F_check_any_length := fun_mk (st := s_check_any_length) l_check_any_length c_check_any_length k_check_any_length
  have b_check_any_length := F_check_any_length.binds (ps := ["value"]) fun _ _ _ _ _ _ us hl => match us, hl with | [_], _ => rfl
  have F_is_count := fun_mk (st := s_is_count) l_is_count c_is_count k_is_count
  have b_is_count := F_is_count.binds (ps := ["value"]) fun _ _ _ _ _ _ us hl => match us, hl with | [_], _ => rfl
  have F_check_count := fun_mk (st := s_check_count) l_check_count c_check_count k_check_count
  have b_check_count := F_check_count.binds (ps := ["value"]) fun _ _ _ _ _ _ us hl => match us, hl with | [_], _ => rfl
  have F_repeat := fun_mk (st := s_repeat) l_repeat c_repeat k_repeat
  have b_repeat := F_repeat.binds (ps := ["program", "count"]) fun _ _ _ _ _ _ us hl => match us, hl with | [_, _], _ => rfl
  have F_parts_of := fun_mk (st := s_parts_of) l_parts_of c_parts_of k_parts_of
  have b_parts_of := F_parts_of.binds (ps := ["program"]) fun _ _ _ _ _ _ us hl => match us, hl with | [_], _ => rfl
  have F_read_parts := fun_mk (st := s_read_parts) l_read_parts c_read_parts k_read_parts
  have b_read_parts := F_read_parts.binds (ps := ["text"]) fun _ _ _ _ _ _ us hl => match us, hl with | [_], _ => rfl
  have F_end_of_run := fun_mk (st := s_end_of_run) l_end_of_run c_end_of_run k_end_of_run
  have b_end_of_run := F_end_of_run.binds (ps := ["text", "start", "signs"]) fun _ _ _ _ _ _ us hl => match us, hl with | [_, _, _], _ => rfl
  have F_depth_of := fun_mk (st := s_depth_of) l_depth_of c_depth_of k_depth_of
  have b_depth_of := F_depth_of.binds (ps := ["parts"]) fun _ _ _ _ _ _ us hl => match us, hl with | [_], _ => rfl
  have F_Profile_init := fun_mk (st := s_Profile_init) l_Profile_init c_Profile_init k_Profile_init
  have b_Profile_init := F_Profile_init.binds (ps := ["self", "puts", "takes", "low", "high", "fall"]) fun _ _ _ _ _ _ us hl => match us, hl with | [_, _, _, _, _, _], _ => rfl
  have F_Profile_puts := fun_mk (st := s_Profile_puts) l_Profile_puts c_Profile_puts k_Profile_puts
  have b_Profile_puts := F_Profile_puts.binds (ps := ["self"]) fun _ _ _ _ _ _ us hl => match us, hl with | [_], _ => rfl
  have F_Profile_takes := fun_mk (st := s_Profile_takes) l_Profile_takes c_Profile_takes k_Profile_takes
  have b_Profile_takes := F_Profile_takes.binds (ps := ["self"]) fun _ _ _ _ _ _ us hl => match us, hl with | [_], _ => rfl
  have F_Profile_low := fun_mk (st := s_Profile_low) l_Profile_low c_Profile_low k_Profile_low
  have b_Profile_low := F_Profile_low.binds (ps := ["self"]) fun _ _ _ _ _ _ us hl => match us, hl with | [_], _ => rfl
  have F_Profile_high := fun_mk (st := s_Profile_high) l_Profile_high c_Profile_high k_Profile_high
  have b_Profile_high := F_Profile_high.binds (ps := ["self"]) fun _ _ _ _ _ _ us hl => match us, hl with | [_], _ => rfl
  have F_Profile_fall := fun_mk (st := s_Profile_fall) l_Profile_fall c_Profile_fall k_Profile_fall
  have b_Profile_fall := F_Profile_fall.binds (ps := ["self"]) fun _ _ _ _ _ _ us hl => match us, hl with | [_], _ => rfl
  have F_Profile_offset := fun_mk (st := s_Profile_offset) l_Profile_offset c_Profile_offset k_Profile_offset
  have b_Profile_offset := F_Profile_offset.binds (ps := ["self"]) fun _ _ _ _ _ _ us hl => match us, hl with | [_], _ => rfl
  have F_Profile_of := fun_mk (st := s_Profile_of) l_Profile_of c_Profile_of k_Profile_of
  have b_Profile_of := F_Profile_of.binds (ps := ["cls", "program"]) fun _ _ _ _ _ _ us hl => match us, hl with | [_, _], _ => rfl
  have F_Profile_of_parts := fun_mk (st := s_Profile_of_parts) l_Profile_of_parts c_Profile_of_parts k_Profile_of_parts
  have b_Profile_of_parts := F_Profile_of_parts.binds (ps := ["cls", "parts"]) fun _ _ _ _ _ _ us hl => match us, hl with | [_, _], _ => rfl
  have F_Profile_of_sequence := fun_mk (st := s_Profile_of_sequence) l_Profile_of_sequence c_Profile_of_sequence k_Profile_of_sequence
  have b_Profile_of_sequence := F_Profile_of_sequence.binds (ps := ["cls", "sequence"]) fun _ _ _ _ _ _ us hl => match us, hl with | [_, _], _ => rfl
  have F_Profile_add := fun_mk (st := s_Profile_add) l_Profile_add c_Profile_add k_Profile_add
  have b_Profile_add := F_Profile_add.binds (ps := ["self", "other"]) fun _ _ _ _ _ _ us hl => match us, hl with | [_, _], _ => rfl
  have F_Profile_mul := fun_mk (st := s_Profile_mul) l_Profile_mul c_Profile_mul k_Profile_mul
  have b_Profile_mul := F_Profile_mul.binds (ps := ["self", "other"]) fun _ _ _ _ _ _ us hl => match us, hl with | [_, _], _ => rfl
  have F_Profile_repeated_fall := fun_mk (st := s_Profile_repeated_fall) l_Profile_repeated_fall c_Profile_repeated_fall k_Profile_repeated_fall
  have b_Profile_repeated_fall := F_Profile_repeated_fall.binds (ps := ["self", "last_start"]) fun _ _ _ _ _ _ us hl => match us, hl with | [_, _], _ => rfl
  have F_Profile_eq := fun_mk (st := s_Profile_eq) l_Profile_eq c_Profile_eq k_Profile_eq
  have b_Profile_eq := F_Profile_eq.binds (ps := ["self", "other"]) fun _ _ _ _ _ _ us hl => match us, hl with | [_, _], _ => rfl
  have F_least_capacity := fun_mk (st := s_least_capacity) l_least_capacity c_least_capacity k_least_capacity
  have b_least_capacity := F_least_capacity.binds (ps := ["program", "mode", "length"]) fun _ _ _ _ _ _ us hl => match us, hl with | [_, _, _], _ => rfl
  have F_lossless_capacity := fun_mk (st := s_lossless_capacity) l_lossless_capacity c_lossless_capacity k_lossless_capacity
  have b_lossless_capacity := F_lossless_capacity.binds (ps := ["program", "length"]) fun _ _ _ _ _ _ us hl => match us, hl with | [_, _], _ => rfl
  have F_roomy_capacity := fun_mk (st := s_roomy_capacity) l_roomy_capacity c_roomy_capacity k_roomy_capacity
  have b_roomy_capacity := F_roomy_capacity.binds (ps := ["profile", "length"]) fun _ _ _ _ _ _ us hl => match us, hl with | [_, _], _ => rfl
  have F__law_draws := fun_mk (st := s__law_draws) l__law_draws c__law_draws k__law_draws
  have b__law_draws := F__law_draws.binds (ps := ["_law_script", "_law_k"]) fun _ _ _ _ _ _ us hl => match us, hl with | [_, _], _ => rfl
  have F__law_draw := fun_mk (st := s__law_draw) l__law_draw c__law_draw k__law_draw
  have b__law_draw := F__law_draw.binds (ps := ["_law_draws_here", "_law_upto"]) fun _ _ _ _ _ _ us hl => match us, hl with | [_, _], _ => rfl
  have F__law_letter := fun_mk (st := s__law_letter) l__law_letter c__law_letter k__law_letter
  have b__law_letter := F__law_letter.binds (ps := ["_law_draws_here"]) fun _ _ _ _ _ _ us hl => match us, hl with | [_], _ => rfl
  have F__law_sequence := fun_mk (st := s__law_sequence) l__law_sequence c__law_sequence k__law_sequence
  have b__law_sequence := F__law_sequence.binds (ps := ["_law_draws_here", "_law_most"]) fun _ _ _ _ _ _ us hl => match us, hl with | [_, _], _ => rfl
  have F__law_program := fun_mk (st := s__law_program) l__law_program c__law_program k__law_program
  have b__law_program := F__law_program.binds (ps := ["_law_draws_here", "_law_depth"]) fun _ _ _ _ _ _ us hl => match us, hl with | [_, _], _ => rfl
  have F__law_run := fun_mk (st := s__law_run) l__law_run c__law_run k__law_run
  have b__law_run := F__law_run.binds (ps := ["_law_queue", "_law_sequence_here", "_law_capacity", "_law_mode"]) fun _ _ _ _ _ _ us hl => match us, hl with | [_, _, _, _], _ => rfl
  have F__law_trials := fun_mk (st := s__law_trials) l__law_trials c__law_trials k__law_trials
  have b__law_trials := F__law_trials.binds (ps := ["_law_full", "_law_mode", "_law_length"]) fun _ _ _ _ _ _ us hl => match us, hl with | [_, _, _], _ => rfl
  have F__law_error := fun_mk (st := s__law_error) l__law_error c__law_error k__law_error
  have b__law_error := F__law_error.binds (ps := ["_law_function", "_law_program_here", "_law_mode", "_law_length"]) fun _ _ _ _ _ _ us hl => match us, hl with | [_, _, _, _], _ => rfl
  have F_law := fun_mk (st := s_law) l_law c_law k_law
  have b_law := F_law.binds (ps := ["_law_script"]) fun _ _ _ _ _ _ us hl => match us, hl with | [_], _ => rfl
  let T : Top K mg := { a_is_int := f_is_int, d_is_int := _, F_is_int := F_is_int, b_is_int := b_is_int, m_is_int := PySem.W.mg_of X G a_is_int, a_is_natural := f_is_natural, d_is_natural := _, F_is_natural := F_is_natural, b_is_natural := b_is_natural, m_is_natural := PySem.W.mg_of X G a_is_natural, a_is_int_between := f_is_int_between, d_is_int_between := _, F_is_int_between := F_is_int_between, b_is_int_between := b_is_int_between, m_is_int_between := PySem.W.mg_of X G a_is_int_between, a_read_integer := f_read_integer, d_read_integer := _, F_read_integer := F_read_integer, b_read_integer := b_read_integer, m_read_integer := PySem.W.mg_of X G a_read_integer, a_is_mode := f_is_mode, d_is_mode := _, F_is_mode := F_is_mode, b_is_mode := b_is_mode, m_is_mode := PySem.W.mg_of X G a_is_mode, a_check_mode := f_check_mode, d_check_mode := _, F_check_mode := F_check_mode, b_check_mode := b_check_mode, m_check_mode := PySem.W.mg_of X G a_check_mode, a_check_any_length := f_check_any_length, d_check_any_length := _, F_check_any_length := F_check_any_length, b_check_any_length := b_check_any_length, m_check_any_length := PySem.W.mg_of X G a_check_any_length, a_is_count := f_is_count, d_is_count := _, F_is_count := F_is_count, b_is_count := b_is_count, m_is_count := PySem.W.mg_of X G a_is_count, a_check_count := f_check_count, d_check_count := _, F_check_count := F_check_count, b_check_count := b_check_count, m_check_count := PySem.W.mg_of X G a_check_count, a_repeat := f_repeat, d_repeat := _, F_repeat := F_repeat, b_repeat := b_repeat, m_repeat := PySem.W.mg_of X G a_repeat, a_parts_of := f_parts_of, d_parts_of := _, F_parts_of := F_parts_of, b_parts_of := b_parts_of, m_parts_of := PySem.W.mg_of X G a_parts_of, a_read_parts := f_read_parts, d_read_parts := _, F_read_parts := F_read_parts, b_read_parts := b_read_parts, m_read_parts := PySem.W.mg_of X G a_read_parts, a_end_of_run := f_end_of_run, d_end_of_run := _, F_end_of_run := F_end_of_run, b_end_of_run := b_end_of_run, m_end_of_run := PySem.W.mg_of X G a_end_of_run, a_depth_of := f_depth_of, d_depth_of := _, F_depth_of := F_depth_of, b_depth_of := b_depth_of, m_depth_of := PySem.W.mg_of X G a_depth_of, a_Profile_init := f_Profile_init, d_Profile_init := _, F_Profile_init := F_Profile_init, b_Profile_init := b_Profile_init, a_Profile_puts := f_Profile_puts, d_Profile_puts := _, F_Profile_puts := F_Profile_puts, b_Profile_puts := b_Profile_puts, a_Profile_takes := f_Profile_takes, d_Profile_takes := _, F_Profile_takes := F_Profile_takes, b_Profile_takes := b_Profile_takes, a_Profile_low := f_Profile_low, d_Profile_low := _, F_Profile_low := F_Profile_low, b_Profile_low := b_Profile_low, a_Profile_high := f_Profile_high, d_Profile_high := _, F_Profile_high := F_Profile_high, b_Profile_high := b_Profile_high, a_Profile_fall := f_Profile_fall, d_Profile_fall := _, F_Profile_fall := F_Profile_fall, b_Profile_fall := b_Profile_fall, a_Profile_offset := f_Profile_offset, d_Profile_offset := _, F_Profile_offset := F_Profile_offset, b_Profile_offset := b_Profile_offset, a_Profile_of := f_Profile_of, d_Profile_of := _, F_Profile_of := F_Profile_of, b_Profile_of := b_Profile_of, a_Profile_of_parts := f_Profile_of_parts, d_Profile_of_parts := _, F_Profile_of_parts := F_Profile_of_parts, b_Profile_of_parts := b_Profile_of_parts, a_Profile_of_sequence := f_Profile_of_sequence, d_Profile_of_sequence := _, F_Profile_of_sequence := F_Profile_of_sequence, b_Profile_of_sequence := b_Profile_of_sequence, a_Profile_add := f_Profile_add, d_Profile_add := _, F_Profile_add := F_Profile_add, b_Profile_add := b_Profile_add, a_Profile_mul := f_Profile_mul, d_Profile_mul := _, F_Profile_mul := F_Profile_mul, b_Profile_mul := b_Profile_mul, a_Profile_repeated_fall := f_Profile_repeated_fall, d_Profile_repeated_fall := _, F_Profile_repeated_fall := F_Profile_repeated_fall, b_Profile_repeated_fall := b_Profile_repeated_fall, a_Profile_eq := f_Profile_eq, d_Profile_eq := _, F_Profile_eq := F_Profile_eq, b_Profile_eq := b_Profile_eq, a_least_capacity := f_least_capacity, d_least_capacity := _, F_least_capacity := F_least_capacity, b_least_capacity := b_least_capacity, m_least_capacity := PySem.W.mg_of X G a_least_capacity, a_lossless_capacity := f_lossless_capacity, d_lossless_capacity := _, F_lossless_capacity := F_lossless_capacity, b_lossless_capacity := b_lossless_capacity, m_lossless_capacity := PySem.W.mg_of X G a_lossless_capacity, a_roomy_capacity := f_roomy_capacity, d_roomy_capacity := _, F_roomy_capacity := F_roomy_capacity, b_roomy_capacity := b_roomy_capacity, m_roomy_capacity := PySem.W.mg_of X G a_roomy_capacity, a__law_draws := f__law_draws, d__law_draws := _, F__law_draws := F__law_draws, b__law_draws := b__law_draws, m__law_draws := PySem.W.mg_of X G a__law_draws, a__law_draw := f__law_draw, d__law_draw := _, F__law_draw := F__law_draw, b__law_draw := b__law_draw, m__law_draw := PySem.W.mg_of X G a__law_draw, a__law_letter := f__law_letter, d__law_letter := _, F__law_letter := F__law_letter, b__law_letter := b__law_letter, m__law_letter := PySem.W.mg_of X G a__law_letter, a__law_sequence := f__law_sequence, d__law_sequence := _, F__law_sequence := F__law_sequence, b__law_sequence := b__law_sequence, m__law_sequence := PySem.W.mg_of X G a__law_sequence, a__law_program := f__law_program, d__law_program := _, F__law_program := F__law_program, b__law_program := b__law_program, m__law_program := PySem.W.mg_of X G a__law_program, a__law_run := f__law_run, d__law_run := _, F__law_run := F__law_run, b__law_run := b__law_run, m__law_run := PySem.W.mg_of X G a__law_run, a__law_trials := f__law_trials, d__law_trials := _, F__law_trials := F__law_trials, b__law_trials := b__law_trials, m__law_trials := PySem.W.mg_of X G a__law_trials, a__law_error := f__law_error, d__law_error := _, F__law_error := F__law_error, b__law_error := b__law_error, m__law_error := PySem.W.mg_of X G a__law_error, a_law := fa, d_law := _, F_law := F_law, b_law := b_law, m_law := PySem.W.mg_of X G a_law, z_NotImplemented := PySem.W.mg_none_of X G z_NotImplemented, z_all := PySem.W.mg_none_of X G z_all, z_bool := PySem.W.mg_none_of X G z_bool, z_classmethod := PySem.W.mg_none_of X G z_classmethod, z_enumerate := PySem.W.mg_none_of X G z_enumerate, z_int := PySem.W.mg_none_of X G z_int, z_isinstance := PySem.W.mg_none_of X G z_isinstance, z_len := PySem.W.mg_none_of X G z_len, z_max := PySem.W.mg_none_of X G z_max, z_min := PySem.W.mg_none_of X G z_min, z_property := PySem.W.mg_none_of X G z_property, z_range := PySem.W.mg_none_of X G z_range, z_str := PySem.W.mg_none_of X G z_str, u_DIGITS := u_DIGITS, c_DIGITS := PySem.W.mg_of X G n_DIGITS, u_MOST_DIGITS := u_MOST_DIGITS, c_MOST_DIGITS := PySem.W.mg_of X G n_MOST_DIGITS, p_MODES := p_MODES, c_MODES := PySem.W.mg_of X G n_MODES, t_MODES := fun H => Or.inr ⟨_, _, _, l_MODES, rfl, rfl, (show 3 ≤ sizeLine by decide), .cons ⟨_, rfl⟩ (.cons ⟨_, rfl⟩ (.cons ⟨_, rfl⟩ .nil))⟩, u_TAKE := u_TAKE, c_TAKE := PySem.W.mg_of X G n_TAKE, u_STEPS := u_STEPS, c_STEPS := PySem.W.mg_of X G n_STEPS, u_MOST_COUNT := u_MOST_COUNT, c_MOST_COUNT := PySem.W.mg_of X G n_MOST_COUNT, u_MOST_DEPTH := u_MOST_DEPTH, c_MOST_DEPTH := PySem.W.mg_of X G n_MOST_DEPTH, x_Profile := x_Profile, g_Profile := PySem.W.mg_of X G gx_Profile, cl_Profile := ⟨pg_Profile, hd_Profile, po_Profile, sa_Profile⟩, mk_Profile := ⟨mk_Profile, in_Profile, if_Profile, kc_Profile⟩, ca_Profile := ca_Profile, cm_Profile := cm_Profile, cg_Profile := cg_Profile, ct_Profile := ct_Profile, cs_Profile := cs_Profile, cy_Profile := cy_Profile, su_Profile_list := su_Profile_list, rd_Profile := ⟨rd_Profile, rg_Profile⟩, cp_Profile_of := cp_Profile_of, cm_Profile_of := ⟨ctz_Profile_of, ⟨_, cq_Profile_of⟩, cf_Profile_of⟩, cp_Profile_of_parts := cp_Profile_of_parts, cm_Profile_of_parts := ⟨ctz_Profile_of_parts, ⟨_, cq_Profile_of_parts⟩, cf_Profile_of_parts⟩, cp_Profile_of_sequence := cp_Profile_of_sequence, cm_Profile_of_sequence := ⟨ctz_Profile_of_sequence, ⟨_, cq_Profile_of_sequence⟩, cf_Profile_of_sequence⟩, n_Profile_puts := na_Profile_puts, n_Profile_takes := na_Profile_takes, n_Profile_low := na_Profile_low, n_Profile_high := na_Profile_high, n_Profile_fall := na_Profile_fall, pp_Profile_puts := pp_Profile_puts, pr_Profile_puts := ⟨pa_Profile_puts, pg_Profile_puts, pt_Profile_puts, ⟨_, pr_Profile_puts⟩⟩, pp_Profile_takes := pp_Profile_takes, pr_Profile_takes := ⟨pa_Profile_takes, pg_Profile_takes, pt_Profile_takes, ⟨_, pr_Profile_takes⟩⟩, pp_Profile_low := pp_Profile_low, pr_Profile_low := ⟨pa_Profile_low, pg_Profile_low, pt_Profile_low, ⟨_, pr_Profile_low⟩⟩, pp_Profile_high := pp_Profile_high, pr_Profile_high := ⟨pa_Profile_high, pg_Profile_high, pt_Profile_high, ⟨_, pr_Profile_high⟩⟩, pp_Profile_fall := pp_Profile_fall, pr_Profile_fall := ⟨pa_Profile_fall, pg_Profile_fall, pt_Profile_fall, ⟨_, pr_Profile_fall⟩⟩, pp_Profile_offset := pp_Profile_offset, pr_Profile_offset := ⟨pa_Profile_offset, pg_Profile_offset, pt_Profile_offset, ⟨_, pr_Profile_offset⟩⟩, me_Profile_repeated_fall := ⟨ma_Profile_repeated_fall, mi_Profile_repeated_fall, mk_Profile_repeated_fall⟩, sf_Profile := sf_Profile, ba_Profile_add := ba_Profile_add, bi_Profile_add := bi_Profile_add, ba_Profile_mul := ba_Profile_mul, bi_Profile_mul := bi_Profile_mul, br_Profile_mul := br_Profile_mul, rt_Profile_mul := (fun T hT => by (repeat (rcases List.mem_cons.mp hT with rfl | hT; first | exact ⟨⟨_, fo_Profile_mul_int_⟩, ⟨_, ro_Profile_mul_int_⟩, rs_Profile_mul_int_⟩ | exact ⟨⟨_, fo_Profile_mul_NoneType_⟩, ⟨_, ro_Profile_mul_NoneType_⟩, rs_Profile_mul_NoneType_⟩ | exact ⟨⟨_, fo_Profile_mul_str_⟩, ⟨_, ro_Profile_mul_str_⟩, rs_Profile_mul_str_⟩ | exact ⟨⟨_, fo_Profile_mul_bool_⟩, ⟨_, ro_Profile_mul_bool_⟩, rs_Profile_mul_bool_⟩)); cases hT), eq_Profile := ⟨ea_Profile, ei_Profile, en_Profile, cm_Profile⟩, x_InvalidInteger := x_InvalidInteger, g_InvalidInteger := PySem.W.mg_of X G gx_InvalidInteger, q_InvalidInteger := q_InvalidInteger, k_InvalidInteger := k_InvalidInteger, b_InvalidInteger := b_InvalidInteger, t_InvalidInteger := t_InvalidInteger, e_InvalidInteger := exm_self b_InvalidInteger i_InvalidInteger t_InvalidInteger s_InvalidInteger, x_InvalidMode := x_InvalidMode, g_InvalidMode := PySem.W.mg_of X G gx_InvalidMode, q_InvalidMode := q_InvalidMode, k_InvalidMode := k_InvalidMode, b_InvalidMode := b_InvalidMode, t_InvalidMode := t_InvalidMode, e_InvalidMode := exm_self b_InvalidMode i_InvalidMode t_InvalidMode s_InvalidMode, x_InvalidProgram := x_InvalidProgram, g_InvalidProgram := PySem.W.mg_of X G gx_InvalidProgram, q_InvalidProgram := q_InvalidProgram, k_InvalidProgram := k_InvalidProgram, b_InvalidProgram := b_InvalidProgram, t_InvalidProgram := t_InvalidProgram, e_InvalidProgram := exm_self b_InvalidProgram i_InvalidProgram t_InvalidProgram s_InvalidProgram, x_LimitExceeded := x_LimitExceeded, y_LimitExceeded := y_LimitExceeded, E_LimitExceeded := { g := PySem.W.mg_of X G gx_LimitExceeded, q := q_LimitExceeded, ov := ov_LimitExceeded, sa := sa_LimitExceeded, ga := ga_LimitExceeded, gg := gg_LimitExceeded, no := no_LimitExceeded, iC := iC_LimitExceeded, tC := tC_LimitExceeded, kC := kC_LimitExceeded, exC := exC_LimitExceeded, suB := suB_LimitExceeded, tyC := tyC_LimitExceeded, hdC := hdC_LimitExceeded, te := exm_self exC_LimitExceeded ic_LimitExceeded tyC_LimitExceeded sC_LimitExceeded, mC := mC_LimitExceeded, su := su_LimitExceeded, zs := zs_LimitExceeded, zt := zt_LimitExceeded, fn := ⟨_, _, _, _, _, _, _, _, _, _, _, _, _, _, _, _, _, _, _, l_LimitExceeded, cI_LimitExceeded, lc_LimitExceeded, la_LimitExceeded, v2_LimitExceeded, fe_LimitExceeded⟩ }, ne_InvalidInteger_InvalidProgram := exm_of b_InvalidProgram i_InvalidProgram t_InvalidProgram ne_InvalidInteger_InvalidProgram, ne_InvalidMode_InvalidProgram := exm_of b_InvalidProgram i_InvalidProgram t_InvalidProgram ne_InvalidMode_InvalidProgram, ne_InvalidInteger_InvalidMode := exm_of b_InvalidMode i_InvalidMode t_InvalidMode ne_InvalidInteger_InvalidMode }
  exact ⟨T.d_law, fun s v => .of_eq rfl, fun base _ _ => ok_law (w := w) (base := base) T⟩
theorem walk {l : PySem.W.OpenLaw} {q : Program} {loose : List Str} {XP : (Str → Option Value) → Heap → Prop} {YP : World → Heap → Prop} {d : DefRec} {K : Params → PySem.W.Frag} (hn : l.most = some 63) (hdf : d.params.defaults = [])
    (hY : ∀ (w : World) (h : Heap), YP w h → (K w.params).In h)
    (F : ∀ (w : World) (mg : Str → Option Value) (fa : Addr) (h : Heap), (K w.params).In h → h.Ns mainGlobals mg → mg d.name = some (.ref fa) →
      ∃ fd : FuncData, (∀ (s : Shared) (u : Value), BindsTo s fd ⟨[u], []⟩ [("_law_script", u)]) ∧ ∀ base : Heap, (K w.params).In base → base.Ns mainGlobals mg → FnOk l.prog w (K w.params) mg base CX0 37 fa fd ["_law_script"] (spLaw (K w.params))) :
    PySem.W.WalkO q loose XP YP l.row.toRowW d [] (fun f vs => PySem.call f vs) :=
  L2.walk_of (n := 63) (k := 37) (x := "_law_script") (CX := fun _ => CX0) (sp := fun w => spLaw (K w.params)) hn (by decide) hdf ⟨rfl, by decide, by decide⟩ hY F (fun _ _ a ns hl _ hS => ⟨a, ns, rfl, hS, hl, fun _ => rfl⟩) fun _ _ _ _ _ z => z
end My
open PySem PySem.W PyProof.Rows
set_option maxRecDepth 100000 in
set_option maxHeartbeats 0 in
theorem PySem.Challenge.cw_fullqueue_k11_capacities_of_programs_holds : PySem.Challenge.rw_fullqueue_k11_capacities_of_programs.Holds := by
  w_on; o_law; k_head; (case hw => w_witness2)
  k_fill
  refine My.walk (l := PySem.Challenge.rw_fullqueue_k11_capacities_of_programs) rfl rfl (fun w h Y => PySem.W.kIn_of Y) ?F
  case F =>
    intro w mg fa h KX G hmg
    refine' My.all_mk KX G hmg ?gx_Profile ?pg_Profile ?hd_Profile ?po_Profile ?sa_Profile ?kc_Profile ?mk_Profile ?in_Profile ?if_Profile ?ca_Profile ?cm_Profile ?cg_Profile ?ct_Profile ?cs_Profile ?cy_Profile ?su_Profile_list ?rd_Profile ?rg_Profile ?ctz_Profile_of ?cq_Profile_of ?cf_Profile_of ?ctz_Profile_of_parts ?cq_Profile_of_parts ?cf_Profile_of_parts ?ctz_Profile_of_sequence ?cq_Profile_of_sequence ?cf_Profile_of_sequence ?na_Profile_puts ?na_Profile_takes ?na_Profile_low ?na_Profile_high ?na_Profile_fall ?pa_Profile_puts ?pg_Profile_puts ?pt_Profile_puts ?pr_Profile_puts ?pa_Profile_takes ?pg_Profile_takes ?pt_Profile_takes ?pr_Profile_takes ?pa_Profile_low ?pg_Profile_low ?pt_Profile_low ?pr_Profile_low ?pa_Profile_high ?pg_Profile_high ?pt_Profile_high ?pr_Profile_high ?pa_Profile_fall ?pg_Profile_fall ?pt_Profile_fall ?pr_Profile_fall ?pa_Profile_offset ?pg_Profile_offset ?pt_Profile_offset ?pr_Profile_offset ?ma_Profile_repeated_fall ?mi_Profile_repeated_fall ?mk_Profile_repeated_fall ?sf_Profile ?ba_Profile_add ?bi_Profile_add ?ba_Profile_mul ?bi_Profile_mul ?br_Profile_mul ?fo_Profile_mul_int_ ?ro_Profile_mul_int_ ?rs_Profile_mul_int_ ?fo_Profile_mul_NoneType_ ?ro_Profile_mul_NoneType_ ?rs_Profile_mul_NoneType_ ?fo_Profile_mul_str_ ?ro_Profile_mul_str_ ?rs_Profile_mul_str_ ?fo_Profile_mul_bool_ ?ro_Profile_mul_bool_ ?rs_Profile_mul_bool_ ?ea_Profile ?ei_Profile ?en_Profile ?a_is_int ?l_is_int ?c_is_int ?k_is_int ?a_is_natural ?l_is_natural ?c_is_natural ?k_is_natural ?a_is_int_between ?l_is_int_between ?c_is_int_between ?k_is_int_between ?a_read_integer ?l_read_integer ?c_read_integer ?k_read_integer ?a_is_mode ?l_is_mode ?c_is_mode ?k_is_mode ?a_check_mode ?l_check_mode ?c_check_mode ?k_check_mode ?a_check_any_length ?l_check_any_length ?c_check_any_length ?k_check_any_length ?a_is_count ?l_is_count ?c_is_count ?k_is_count ?a_check_count ?l_check_count ?c_check_count ?k_check_count ?a_repeat ?l_repeat ?c_repeat ?k_repeat ?a_parts_of ?l_parts_of ?c_parts_of ?k_parts_of ?a_read_parts ?l_read_parts ?c_read_parts ?k_read_parts ?a_end_of_run ?l_end_of_run ?c_end_of_run ?k_end_of_run ?a_depth_of ?l_depth_of ?c_depth_of ?k_depth_of ?l_Profile_init ?c_Profile_init ?k_Profile_init ?l_Profile_puts ?c_Profile_puts ?k_Profile_puts ?l_Profile_takes ?c_Profile_takes ?k_Profile_takes ?l_Profile_low ?c_Profile_low ?k_Profile_low ?l_Profile_high ?c_Profile_high ?k_Profile_high ?l_Profile_fall ?c_Profile_fall ?k_Profile_fall ?l_Profile_offset ?c_Profile_offset ?k_Profile_offset ?l_Profile_of ?c_Profile_of ?k_Profile_of ?l_Profile_of_parts ?c_Profile_of_parts ?k_Profile_of_parts ?l_Profile_of_sequence ?c_Profile_of_sequence ?k_Profile_of_sequence ?l_Profile_add ?c_Profile_add ?k_Profile_add ?l_Profile_mul ?c_Profile_mul ?k_Profile_mul ?l_Profile_repeated_fall ?c_Profile_repeated_fall ?k_Profile_repeated_fall ?l_Profile_eq ?c_Profile_eq ?k_Profile_eq ?a_least_capacity ?l_least_capacity ?c_least_capacity ?k_least_capacity ?a_lossless_capacity ?l_lossless_capacity ?c_lossless_capacity ?k_lossless_capacity ?a_roomy_capacity ?l_roomy_capacity ?c_roomy_capacity ?k_roomy_capacity ?a__law_draws ?l__law_draws ?c__law_draws ?k__law_draws ?a__law_draw ?l__law_draw ?c__law_draw ?k__law_draw ?a__law_letter ?l__law_letter ?c__law_letter ?k__law_letter ?a__law_sequence ?l__law_sequence ?c__law_sequence ?k__law_sequence ?a__law_program ?l__law_program ?c__law_program ?k__law_program ?a__law_run ?l__law_run ?c__law_run ?k__law_run ?a__law_trials ?l__law_trials ?c__law_trials ?k__law_trials ?a__law_error ?l__law_error ?c__law_error ?k__law_error ?a_law ?l_law ?c_law ?k_law ?z_NotImplemented ?z_all ?z_bool ?z_classmethod ?z_enumerate ?z_int ?z_isinstance ?z_len ?z_max ?z_min ?z_property ?z_range ?z_str ?n_DIGITS ?n_MOST_DIGITS ?n_MODES ?l_MODES ?n_TAKE ?n_STEPS ?n_MOST_COUNT ?n_MOST_DEPTH ?gx_InvalidInteger ?q_InvalidInteger ?k_InvalidInteger ?b_InvalidInteger ?t_InvalidInteger ?i_InvalidInteger ?s_InvalidInteger ?gx_InvalidMode ?q_InvalidMode ?k_InvalidMode ?b_InvalidMode ?t_InvalidMode ?i_InvalidMode ?s_InvalidMode ?gx_InvalidProgram ?q_InvalidProgram ?k_InvalidProgram ?b_InvalidProgram ?t_InvalidProgram ?i_InvalidProgram ?s_InvalidProgram ?gx_LimitExceeded ?q_LimitExceeded ?ov_LimitExceeded ?sa_LimitExceeded ?ga_LimitExceeded ?gg_LimitExceeded ?no_LimitExceeded ?iC_LimitExceeded ?tC_LimitExceeded ?kC_LimitExceeded ?exC_LimitExceeded ?suB_LimitExceeded ?tyC_LimitExceeded ?hdC_LimitExceeded ?ic_LimitExceeded ?sC_LimitExceeded ?mC_LimitExceeded ?su_LimitExceeded ?zs_LimitExceeded ?zt_LimitExceeded ?l_LimitExceeded ?cI_LimitExceeded ?lc_LimitExceeded ?la_LimitExceeded ?v2_LimitExceeded ?fe_LimitExceeded ?ne_InvalidInteger_InvalidProgram ?ne_InvalidMode_InvalidProgram ?ne_InvalidInteger_InvalidMode
    (case gx_Profile => k_is)
    (case pg_Profile => k_is)
    (case hd_Profile => k_is)
    (case po_Profile => k_is)
    (case sa_Profile => k_is)
    (case kc_Profile => k_is)
    (case mk_Profile => k_is)
    (case in_Profile => k_is)
    (case if_Profile => k_is)
    (case ca_Profile => k_is)
    (case cm_Profile => k_is)
    (case cg_Profile => k_is)
    (case ct_Profile => k_is)
    (case cs_Profile => k_is)
    (case cy_Profile => k_is)
    (case su_Profile_list => k_is)
    (case rd_Profile => k_is)
    (case rg_Profile => k_is)
    (case ctz_Profile_of => k_is)
    (case cq_Profile_of => k_is)
    (case cf_Profile_of => k_is)
    (case ctz_Profile_of_parts => k_is)
    (case cq_Profile_of_parts => k_is)
    (case cf_Profile_of_parts => k_is)
    (case ctz_Profile_of_sequence => k_is)
    (case cq_Profile_of_sequence => k_is)
    (case cf_Profile_of_sequence => k_is)
    (case na_Profile_puts => k_is)
    (case na_Profile_takes => k_is)
    (case na_Profile_low => k_is)
    (case na_Profile_high => k_is)
    (case na_Profile_fall => k_is)
    (case pa_Profile_puts => k_is)
    (case pg_Profile_puts => k_is)
    (case pt_Profile_puts => k_is)
    (case pr_Profile_puts => k_is)
    (case pa_Profile_takes => k_is)
    (case pg_Profile_takes => k_is)
    (case pt_Profile_takes => k_is)
    (case pr_Profile_takes => k_is)
    (case pa_Profile_low => k_is)
    (case pg_Profile_low => k_is)
    (case pt_Profile_low => k_is)
    (case pr_Profile_low => k_is)
    (case pa_Profile_high => k_is)
    (case pg_Profile_high => k_is)
    (case pt_Profile_high => k_is)
    (case pr_Profile_high => k_is)
    (case pa_Profile_fall => k_is)
    (case pg_Profile_fall => k_is)
    (case pt_Profile_fall => k_is)
    (case pr_Profile_fall => k_is)
    (case pa_Profile_offset => k_is)
    (case pg_Profile_offset => k_is)
    (case pt_Profile_offset => k_is)
    (case pr_Profile_offset => k_is)
    (case ma_Profile_repeated_fall => k_is)
    (case mi_Profile_repeated_fall => k_is)
    (case mk_Profile_repeated_fall => k_is)
    (case sf_Profile => k_is)
    (case ba_Profile_add => k_is)
    (case bi_Profile_add => k_is)
    (case ba_Profile_mul => k_is)
    (case bi_Profile_mul => k_is)
    (case br_Profile_mul => k_is)
    (case fo_Profile_mul_int_ => k_is)
    (case ro_Profile_mul_int_ => k_is)
    (case rs_Profile_mul_int_ => k_is)
    (case fo_Profile_mul_NoneType_ => k_is)
    (case ro_Profile_mul_NoneType_ => k_is)
    (case rs_Profile_mul_NoneType_ => k_is)
    (case fo_Profile_mul_str_ => k_is)
    (case ro_Profile_mul_str_ => k_is)
    (case rs_Profile_mul_str_ => k_is)
    (case fo_Profile_mul_bool_ => k_is)
    (case ro_Profile_mul_bool_ => k_is)
    (case rs_Profile_mul_bool_ => k_is)
    (case ea_Profile => k_is)
    (case ei_Profile => k_is)
    (case en_Profile => k_is)
    (case a_is_int => k_is)
    (case l_is_int => k_is)
    (case c_is_int => k_is)
    (case k_is_int => k_is)
    (case a_is_natural => k_is)
    (case l_is_natural => k_is)
    (case c_is_natural => k_is)
    (case k_is_natural => k_is)
    (case a_is_int_between => k_is)
    (case l_is_int_between => k_is)
    (case c_is_int_between => k_is)
    (case k_is_int_between => k_is)
    (case a_read_integer => k_is)
    (case l_read_integer => k_is)
    (case c_read_integer => k_is)
    (case k_read_integer => k_is)
    (case a_is_mode => k_is)
    (case l_is_mode => k_is)
    (case c_is_mode => k_is)
    (case k_is_mode => k_is)
    (case a_check_mode => k_is)
    (case l_check_mode => k_is)
    (case c_check_mode => k_is)
    (case k_check_mode => k_is)
    (case a_check_any_length => k_is)
    (case l_check_any_length => k_is)
    (case c_check_any_length => k_is)
    (case k_check_any_length => k_is)
    (case a_is_count => k_is)
    (case l_is_count => k_is)
    (case c_is_count => k_is)
    (case k_is_count => k_is)
    (case a_check_count => k_is)
    (case l_check_count => k_is)
    (case c_check_count => k_is)
    (case k_check_count => k_is)
    (case a_repeat => k_is)
    (case l_repeat => k_is)
    (case c_repeat => k_is)
    (case k_repeat => k_is)
    (case a_parts_of => k_is)
    (case l_parts_of => k_is)
    (case c_parts_of => k_is)
    (case k_parts_of => k_is)
    (case a_read_parts => k_is)
    (case l_read_parts => k_is)
    (case c_read_parts => k_is)
    (case k_read_parts => k_is)
    (case a_end_of_run => k_is)
    (case l_end_of_run => k_is)
    (case c_end_of_run => k_is)
    (case k_end_of_run => k_is)
    (case a_depth_of => k_is)
    (case l_depth_of => k_is)
    (case c_depth_of => k_is)
    (case k_depth_of => k_is)
    (case l_Profile_init => k_is)
    (case c_Profile_init => k_is)
    (case k_Profile_init => k_is)
    (case l_Profile_puts => k_is)
    (case c_Profile_puts => k_is)
    (case k_Profile_puts => k_is)
    (case l_Profile_takes => k_is)
    (case c_Profile_takes => k_is)
    (case k_Profile_takes => k_is)
    (case l_Profile_low => k_is)
    (case c_Profile_low => k_is)
    (case k_Profile_low => k_is)
    (case l_Profile_high => k_is)
    (case c_Profile_high => k_is)
    (case k_Profile_high => k_is)
    (case l_Profile_fall => k_is)
    (case c_Profile_fall => k_is)
    (case k_Profile_fall => k_is)
    (case l_Profile_offset => k_is)
    (case c_Profile_offset => k_is)
    (case k_Profile_offset => k_is)
    (case l_Profile_of => k_is)
    (case c_Profile_of => k_is)
    (case k_Profile_of => k_is)
    (case l_Profile_of_parts => k_is)
    (case c_Profile_of_parts => k_is)
    (case k_Profile_of_parts => k_is)
    (case l_Profile_of_sequence => k_is)
    (case c_Profile_of_sequence => k_is)
    (case k_Profile_of_sequence => k_is)
    (case l_Profile_add => k_is)
    (case c_Profile_add => k_is)
    (case k_Profile_add => k_is)
    (case l_Profile_mul => k_is)
    (case c_Profile_mul => k_is)
    (case k_Profile_mul => k_is)
    (case l_Profile_repeated_fall => k_is)
    (case c_Profile_repeated_fall => k_is)
    (case k_Profile_repeated_fall => k_is)
    (case l_Profile_eq => k_is)
    (case c_Profile_eq => k_is)
    (case k_Profile_eq => k_is)
    (case a_least_capacity => k_is)
    (case l_least_capacity => k_is)
    (case c_least_capacity => k_is)
    (case k_least_capacity => k_is)
    (case a_lossless_capacity => k_is)
    (case l_lossless_capacity => k_is)
    (case c_lossless_capacity => k_is)
    (case k_lossless_capacity => k_is)
    (case a_roomy_capacity => k_is)
    (case l_roomy_capacity => k_is)
    (case c_roomy_capacity => k_is)
    (case k_roomy_capacity => k_is)
    (case a__law_draws => k_is)
    (case l__law_draws => k_is)
    (case c__law_draws => k_is)
    (case k__law_draws => k_is)
    (case a__law_draw => k_is)
    (case l__law_draw => k_is)
    (case c__law_draw => k_is)
    (case k__law_draw => k_is)
    (case a__law_letter => k_is)
    (case l__law_letter => k_is)
    (case c__law_letter => k_is)
    (case k__law_letter => k_is)
    (case a__law_sequence => k_is)
    (case l__law_sequence => k_is)
    (case c__law_sequence => k_is)
    (case k__law_sequence => k_is)
    (case a__law_program => k_is)
    (case l__law_program => k_is)
    (case c__law_program => k_is)
    (case k__law_program => k_is)
    (case a__law_run => k_is)
    (case l__law_run => k_is)
    (case c__law_run => k_is)
    (case k__law_run => k_is)
    (case a__law_trials => k_is)
    (case l__law_trials => k_is)
    (case c__law_trials => k_is)
    (case k__law_trials => k_is)
    (case a__law_error => k_is)
    (case l__law_error => k_is)
    (case c__law_error => k_is)
    (case k__law_error => k_is)
    (case a_law => k_is)
    (case l_law => k_is)
    (case c_law => k_is)
    (case k_law => k_is)
    (case z_NotImplemented => k_is)
    (case z_all => k_is)
    (case z_bool => k_is)
    (case z_classmethod => k_is)
    (case z_enumerate => k_is)
    (case z_int => k_is)
    (case z_isinstance => k_is)
    (case z_len => k_is)
    (case z_max => k_is)
    (case z_min => k_is)
    (case z_property => k_is)
    (case z_range => k_is)
    (case z_str => k_is)
    (case n_DIGITS => k_is)
    (case n_MOST_DIGITS => k_is)
    (case n_MODES => k_is)
    (case l_MODES => k_is)
    (case n_TAKE => k_is)
    (case n_STEPS => k_is)
    (case n_MOST_COUNT => k_is)
    (case n_MOST_DEPTH => k_is)
    (case gx_InvalidInteger => k_is)
    (case q_InvalidInteger => k_exc)
    (case k_InvalidInteger => k_is)
    (case b_InvalidInteger => k_is)
    (case t_InvalidInteger => k_is)
    (case i_InvalidInteger => k_is)
    (case s_InvalidInteger => k_is)
    (case gx_InvalidMode => k_is)
    (case q_InvalidMode => k_exc)
    (case k_InvalidMode => k_is)
    (case b_InvalidMode => k_is)
    (case t_InvalidMode => k_is)
    (case i_InvalidMode => k_is)
    (case s_InvalidMode => k_is)
    (case gx_InvalidProgram => k_is)
    (case q_InvalidProgram => k_exc)
    (case k_InvalidProgram => k_is)
    (case b_InvalidProgram => k_is)
    (case t_InvalidProgram => k_is)
    (case i_InvalidProgram => k_is)
    (case s_InvalidProgram => k_is)
    (case gx_LimitExceeded => k_is)
    (case q_LimitExceeded => kx_is)
    (case ov_LimitExceeded => kx_is)
    (case sa_LimitExceeded => k_is)
    (case ga_LimitExceeded => k_is)
    (case gg_LimitExceeded => k_is)
    (case no_LimitExceeded => k_is)
    (case iC_LimitExceeded => k_is)
    (case tC_LimitExceeded => k_is)
    (case kC_LimitExceeded => k_is)
    (case exC_LimitExceeded => k_is)
    (case suB_LimitExceeded => k_is)
    (case tyC_LimitExceeded => k_is)
    (case hdC_LimitExceeded => k_is)
    (case ic_LimitExceeded => k_is)
    (case sC_LimitExceeded => k_is)
    (case mC_LimitExceeded => k_is)
    (case su_LimitExceeded => ks_is)
    (case zs_LimitExceeded => k_is)
    (case zt_LimitExceeded => k_is)
    (case l_LimitExceeded => k_is)
    (case cI_LimitExceeded => k_is)
    (case lc_LimitExceeded => k_is)
    (case la_LimitExceeded => k_is)
    (case v2_LimitExceeded => rfl)
    (case fe_LimitExceeded => (first | rfl | decide +kernel))
    (case ne_InvalidInteger_InvalidProgram => k_is)
    (case ne_InvalidMode_InvalidProgram => k_is)
    (case ne_InvalidInteger_InvalidMode => k_is)


