import PyProof.Rows.All
import Wide.All
import OpenK.AllK
import Wide.FinOn
import KE.KExcLine
import KE.KExcSuper
import KE.KIntText
import KE.KOpsOwn
import PyProof.InstNe
import HandS.ForMost
import HandS.ForExc
import HandS.ExcInit
import HandS.IsInst
import HandS.StrMore
import HandS.Defaults
import HandS.Wide
import HandS.WordsExc
import HandS.FStr
import HandS.Style
import HandS.Flow
import HandS.Flt
import HandS.Conv
import HandS.Property
import HandS.ClsMeth
import HandS.MakeKwOnly
import HandS.ReplaceList
import HandS.Star
import HandS.Zip
import PyProof.Draws
import PySem.Challenge.RW_fullqueue_k27_separating_queues
set_option Elab.async false
set_option linter.all false
set_option maxRecDepth 100000
set_option maxHeartbeats 4000000
namespace My
open PySem
/-! ### strip of all letters leaves nothing exactly where all signs are letters -/
theorem takeWhile_all {α : Type} {p : α → Bool} : ∀ {l : List α}, l.all p = true → l.takeWhile p = l
  | [], _ => rfl
  | a :: l, h => by
    rw [List.all_cons, Bool.and_eq_true] at h
    rw [List.takeWhile_cons, h.1]
    exact congrArg (a :: ·) (takeWhile_all h.2)
theorem takeWhile_len {α : Type} {p : α → Bool} {l : List α} (h : l.length ≤ (l.takeWhile p).length) : l.all p = true := by
  have e := List.takeWhile_append_dropWhile (p := p) (l := l)
  have hd : (l.dropWhile p).length = 0 := by
    have := congrArg List.length e
    rw [List.length_append] at this
    omega
  have hd' := List.eq_nil_of_length_eq_zero hd
  rw [List.all_eq_true]
  intro x hx
  rw [← e, hd', List.append_nil] at hx
  exact List.all_eq_true.mp List.all_takeWhile x hx
theorem str_ext {x y : Str} (h : x.cps.toList = y.cps.toList) : x = y := by
  obtain ⟨⟨a⟩⟩ := x
  obtain ⟨⟨b⟩⟩ := y
  cases (show a = b from h)
  rfl
theorem strip_none {x : Str} {g : Nat → Bool} (h : x.cps.toList.all g = true) : (Txt.stripBy g true true x).cps.toList = [] := by
  have e := takeWhile_all h
  have lo : stripLo g true x = x.length := by
    show (x.cps.toList.takeWhile g).length = x.cps.size
    rw [e]; simp
  have hi : stripHi g true x x.length = x.length := by
    show x.length - ((x.cps.toList.drop x.cps.size).reverse.takeWhile g).length = x.length
    have : x.cps.toList.drop x.cps.size = [] := by
      rw [List.drop_eq_nil_iff]; simp
    rw [this]; simp
  unfold Txt.stripBy
  split
  · rename_i hs
    unfold stripSame at hs
    rw [lo] at hs
    simp only [Bool.and_eq_true, beq_iff_eq] at hs
    have h0 : x.cps.size = 0 := hs.1
    have : x.cps.toList.length = 0 := by simpa using h0
    exact List.eq_nil_of_length_eq_zero this
  · unfold stripped
    rw [lo, hi]
    show (x.cps.extract x.cps.size x.cps.size).toList = []
    simp
theorem strip_some {x : Str} {g : Nat → Bool} (h : (Txt.stripBy g true true x).cps.toList = []) : x.cps.toList.all g = true := by
  unfold Txt.stripBy at h
  split at h
  · rw [h]; rfl
  · unfold stripped at h
    have h1 : (x.cps.extract (stripLo g true x) (stripHi g true x (stripLo g true x))).toList = [] := h
    have hle : stripHi g true x (stripLo g true x) ≤ stripLo g true x := by
      have h2 : (x.cps.extract (stripLo g true x) (stripHi g true x (stripLo g true x))).size = 0 := by
        rw [← Array.length_toList, h1]; rfl
      rw [Array.size_extract] at h2
      have h3 : stripHi g true x (stripLo g true x) ≤ x.cps.size := Nat.sub_le _ _
      omega
    -- what is left at the end is no more than what stands behind lo
    have hlo : stripLo g true x = (x.cps.toList.takeWhile g).length := rfl
    have hhi : stripHi g true x (stripLo g true x) = x.cps.size - ((x.cps.toList.drop (stripLo g true x)).reverse.takeWhile g).length := rfl
    have hsz : x.cps.toList.length = x.cps.size := Array.length_toList
    have hdl : (x.cps.toList.drop (stripLo g true x)).length = x.cps.size - stripLo g true x := by rw [List.length_drop, hsz]
    have hlo2 : stripLo g true x ≤ x.cps.size := by
      rw [hlo, ← hsz]
      exact (List.takeWhile_sublist _).length_le
    have hle2 : (x.cps.toList.drop (stripLo g true x)).reverse.length ≤ ((x.cps.toList.drop (stripLo g true x)).reverse.takeWhile g).length := by
      rw [List.length_reverse, hdl]
      omega
    have h4 := takeWhile_len hle2
    rw [List.all_reverse] at h4
    -- the rest behind the first stretch holds g everywhere, so the stretch is the whole
    have e := List.takeWhile_append_dropWhile (p := g) (l := x.cps.toList)
    have h5 : x.cps.toList.drop (stripLo g true x) = x.cps.toList.dropWhile g := by
      have : x.cps.toList.drop (x.cps.toList.takeWhile g).length = x.cps.toList.dropWhile g := by
        conv => lhs; rw [← e]
        rw [e]
        have := List.drop_left (l₁ := x.cps.toList.takeWhile g) (l₂ := x.cps.toList.dropWhile g)
        rw [e] at this
        exact this
      exact this
    rw [h5] at h4
    rw [← e, List.all_append, h4]
    have : (x.cps.toList.takeWhile g).all g = true := List.all_takeWhile
    rw [this]; rfl
def letters : Str := "abcdefghijklmnopqrstuvwxyz"
def isLet (c : Nat) : Bool := decide (97 ≤ c) && decide (c ≤ 122)
def lettersOnly (s : Str) : Bool := s.cps.toList.all isLet
theorem letters_has (c : Nat) : letters.cps.contains c = isLet c := by
  have e : letters.cps = #[97,98,99,100,101,102,103,104,105,106,107,108,109,110,111,112,113,114,115,116,117,118,119,120,121,122] := by decide +kernel
  rw [e, Bool.eq_iff_iff, Array.contains_iff_mem]
  unfold isLet
  simp only [List.mem_toArray, List.mem_cons, List.not_mem_nil, or_false, Bool.and_eq_true, decide_eq_true_eq]
  omega
theorem goes_is : letters.cps.contains = isLet := funext letters_has
theorem strip_is (s : Str) : decide (Txt.stripChars s letters = ("" : Str)) = lettersOnly s := by
  unfold Txt.stripChars lettersOnly
  rw [goes_is]
  by_cases h : s.cps.toList.all isLet = true
  · rw [h, decide_eq_true_eq]
    exact str_ext (by rw [strip_none h]; decide +kernel)
  · have h' : s.cps.toList.all isLet = false := by simpa using h
    rw [h', decide_eq_false_iff_not]
    intro e
    apply h
    apply strip_some
    rw [e]
    decide +kernel
end My

/-! ### programs: trees, what they stand for, how their texts are read -/
namespace My
open PySem PySem.NumText
def isStep (c : Nat) : Bool := isLet c || decide (c = 45)
def isDig (c : Nat) : Bool := decide (48 ≤ c) && decide (c ≤ 57)
def digs (n : Nat) : List Nat := (Nat.toDigits 10 n).map Char.toNat
def rcount (ds : List Nat) : Option Nat :=
  if ds.length = 0 ∨ 31 < ds.length then none else if digitsVal ds ≤ 10 ^ 30 ∧ digs (digitsVal ds) = ds then some (digitsVal ds) else none
inductive Parts where
  | nil
  | seq (s : List Nat) (r : Parts)
  | rep (b : Parts) (n : Nat) (r : Parts)
namespace Parts
def den : Parts → List Nat
  | nil => []
  | seq s r => s ++ den r
  | rep b n r => (List.replicate n (den b)).flatten ++ den r
def dep : Parts → Nat
  | nil => 0
  | seq _ r => dep r
  | rep b _ r => max (dep b + 1) (dep r)
def app : Parts → Parts → Parts
  | nil, q => q
  | seq s r, q => seq s (app r q)
  | rep b n r, q => rep b n (app r q)
/-- every sequence holds at least one step, steps alone; every count is at most 10 ** 30 -/
def ok : Parts → Prop
  | nil => True
  | seq s r => s ≠ [] ∧ s.all isStep = true ∧ ok r
  | rep b n r => ok b ∧ n ≤ 10 ^ 30 ∧ ok r
/-- the signs of all sequences together -/
def vol : Parts → Nat
  | nil => 0
  | seq s r => s.length + vol r
  | rep b _ r => vol b + vol r
theorem den_app : ∀ p q : Parts, (app p q).den = p.den ++ q.den
  | nil, q => rfl
  | seq s r, q => by rw [app, den, den, den_app r q, List.append_assoc]
  | rep b n r, q => by rw [app, den, den, den_app r q, List.append_assoc]
theorem dep_app : ∀ p q : Parts, (app p q).dep = max p.dep q.dep
  | nil, q => by rw [app, dep]; omega
  | seq s r, q => by rw [app, dep, dep, dep_app r q]
  | rep b n r, q => by rw [app, dep, dep, dep_app r q]; omega
theorem ok_app : ∀ {p q : Parts}, p.ok → q.ok → (app p q).ok
  | nil, _, _, h => h
  | seq _ _, _, ⟨h1, h2, h3⟩, h => ⟨h1, h2, ok_app h3 h⟩
  | rep _ _ _, _, ⟨h1, h2, h3⟩, h => ⟨h1, h2, ok_app h3 h⟩
theorem vol_app : ∀ p q : Parts, (app p q).vol = p.vol + q.vol
  | nil, q => by rw [app, vol]; omega
  | seq s r, q => by rw [app, vol, vol, vol_app r q]; omega
  | rep b n r, q => by rw [app, vol, vol, vol_app r q]; omega
theorem app_nil : ∀ p : Parts, app p nil = p
  | nil => rfl
  | seq s r => by rw [app, app_nil r]
  | rep b n r => by rw [app, app_nil r]
end Parts
open Parts
theorem len_frep (l : List Nat) (k : Nat) : (List.replicate k l).flatten.length = k * l.length := by
  induction k with
  | zero => simp
  | succ k ih => rw [List.replicate_succ, List.flatten_cons, List.length_append, ih, Nat.succ_mul]; omega
theorem den_le : ∀ {p : Parts}, p.ok → p.den.length ≤ p.vol * 2 ^ (100 * p.dep)
  | .nil, _ => Nat.zero_le _
  | .seq s r, h => by
    have h1 := den_le h.2.2
    rw [den, List.length_append, vol, dep, Nat.add_mul]
    have h2 : s.length * 1 ≤ s.length * 2 ^ (100 * r.dep) := Nat.mul_le_mul_left _ (Nat.one_le_two_pow)
    omega
  | .rep b n r, h => by
    have h1 := den_le h.1
    have h2 := den_le h.2.2
    rw [den, List.length_append, vol, dep, Nat.add_mul, len_frep]
    have e : n ≤ 2 ^ 100 := Nat.le_trans h.2.1 (by decide)
    have g1 : n * b.den.length ≤ b.vol * 2 ^ (100 * max (b.dep + 1) r.dep) := by
      calc n * b.den.length ≤ 2 ^ 100 * (b.vol * 2 ^ (100 * b.dep)) := Nat.mul_le_mul e h1
        _ = b.vol * 2 ^ (100 * (b.dep + 1)) := by rw [Nat.mul_left_comm, ← Nat.pow_add, Nat.mul_add, Nat.mul_one, Nat.add_comm 100]
        _ ≤ _ := Nat.mul_le_mul_left _ (Nat.pow_le_pow_right (by decide) (by omega))
    have g2 : r.vol * 2 ^ (100 * r.dep) ≤ r.vol * 2 ^ (100 * max (b.dep + 1) r.dep) := Nat.mul_le_mul_left _ (Nat.pow_le_pow_right (by decide) (by omega))
    omega
theorem den_lt {p : Parts} (h : p.ok) (hv : p.vol ≤ 100000) {d : Nat} (hd : p.dep ≤ d) : p.den.length < 2 ^ (17 + 100 * d) := by
  refine Nat.lt_of_le_of_lt (den_le h) ?_
  rw [Nat.pow_add]
  exact Nat.mul_lt_mul_of_lt_of_le (Nat.lt_of_le_of_lt hv (by decide)) (Nat.pow_le_pow_right (by decide) (by omega)) (Nat.two_pow_pos _)
/-- one turn of the reader: the open lists (the innermost first), the list at hand, what is left -/
def stp (os : List Parts) (ps : Parts) (c : Nat) (r : List Nat) : Option (List Parts × Parts × List Nat) :=
  if c = 40 then (if os.length + 1 ≤ 20 then some (ps :: os, nil, r) else none)
  else if c = 41 then
    match rcount (r.takeWhile isDig), os with
    | some n, o :: os' => if os'.length ≤ 20 then some (os', app o (rep ps n nil), r.dropWhile isDig) else none
    | _, _ => none
  else if isStep c then (if os.length ≤ 20 then some (os, app ps (seq ((c :: r).takeWhile isStep) nil), (c :: r).dropWhile isStep) else none) else none
def rpF : Nat → List Parts → Parts → List Nat → Option Parts
  | 0, _, _, _ => none
  | _ + 1, os, ps, [] => if os.length = 0 then some ps else none
  | k + 1, os, ps, c :: r => match stp os ps c r with
    | none => none
    | some (os', ps', r') => rpF k os' ps' r'
def rpt (t : List Nat) : Option Parts := rpF (t.length + 1) [] nil t
theorem len_dropWhile (p : Nat → Bool) : ∀ l : List Nat, (l.dropWhile p).length ≤ l.length
  | [] => Nat.le_refl _
  | a :: l => by
    rw [List.dropWhile_cons]
    have := len_dropWhile p l
    split
    · rw [List.length_cons]; omega
    · exact Nat.le_refl _
theorem stp_less {os ps c r os' ps' r'} (h : stp os ps c r = some (os', ps', r')) : r'.length ≤ r.length := by
  unfold stp at h
  have d1 := len_dropWhile isDig r
  have d2 := len_dropWhile isStep r
  split at h
  · split at h
    · simp only [Option.some.injEq, Prod.mk.injEq] at h; rw [← h.2.2]; exact Nat.le_refl _
    · cases h
  · split at h
    · split at h
      · split at h
        · simp only [Option.some.injEq, Prod.mk.injEq] at h; rw [← h.2.2]; exact d1
        · cases h
      · cases h
    · split at h
      · rename_i hc
        split at h
        · simp only [Option.some.injEq, Prod.mk.injEq] at h; rw [← h.2.2, List.dropWhile_cons, if_pos hc]; exact d2
        · cases h
      · cases h
/-- how deep what is read may be -/
def deeps : List Parts → Prop
  | [] => True
  | o :: os => o.dep + os.length ≤ 20 ∧ o.ok ∧ deeps os
theorem all_takeWhile' (p : Nat → Bool) (l : List Nat) : (l.takeWhile p).all p = true := List.all_takeWhile
theorem rcount_le {ds : List Nat} {n : Nat} (h : rcount ds = some n) : n ≤ 10 ^ 30 := by
  unfold rcount at h
  split at h
  · cases h
  · split at h
    · rename_i h2
      simp only [Option.some.injEq] at h
      omega
    · cases h
theorem stp_deep {os ps c r os' ps' r'} (h : stp os ps c r = some (os', ps', r')) (h1 : deeps os) (h2 : ps.dep + os.length ≤ 20) (h3 : ps.ok) : deeps os' ∧ ps'.dep + os'.length ≤ 20 ∧ ps'.ok := by
  unfold stp at h
  split at h
  · split at h
    · rename_i h20
      simp only [Option.some.injEq, Prod.mk.injEq] at h
      obtain ⟨rfl, rfl, _⟩ := h
      refine ⟨⟨h2, h3, h1⟩, ?_, trivial⟩
      rw [dep, List.length_cons]; omega
    · cases h
  · split at h
    · split at h
      · rename_i n o os2 hn
        split at h
        · simp only [Option.some.injEq, Prod.mk.injEq] at h
          obtain ⟨rfl, rfl, _⟩ := h
          obtain ⟨g1, g2, g3⟩ := h1
          rw [List.length_cons] at h2
          refine ⟨g3, ?_, ok_app g2 ⟨h3, rcount_le hn, trivial⟩⟩
          rw [dep_app, dep, dep]; omega
        · cases h
      · cases h
    · split at h
      · rename_i hc
        split at h
        · simp only [Option.some.injEq, Prod.mk.injEq] at h
          obtain ⟨rfl, rfl, _⟩ := h
          refine ⟨h1, ?_, ok_app h3 ⟨?_, all_takeWhile' _ _, trivial⟩⟩
          · rw [dep_app, dep, dep]; omega
          · rw [List.takeWhile_cons, if_pos hc]; simp
        · cases h
      · cases h
theorem rpF_deep : ∀ {k os ps r q}, rpF k os ps r = some q → deeps os → ps.dep + os.length ≤ 20 → ps.ok → q.dep ≤ 20 ∧ q.ok
  | 0, _, _, _, _, h, _, _, _ => by cases h
  | _ + 1, os, ps, [], q, h, _, h2, h3 => by
    rw [rpF] at h
    split at h
    · cases h; exact ⟨by omega, h3⟩
    · cases h
  | k + 1, os, ps, c :: r, q, h, h1, h2, h3 => by
    rw [rpF] at h
    split at h
    · cases h
    · rename_i os' ps' r' e
      obtain ⟨g1, g2, g3⟩ := stp_deep e h1 h2 h3
      exact rpF_deep h g1 g2 g3
theorem rpt_deep {t : List Nat} {q : Parts} (h : rpt t = some q) : q.dep ≤ 20 ∧ q.ok := rpF_deep h trivial (by simp [dep]) trivial
/-! ### numbers in digits -/
theorem digs_dig (n : Nat) : (digs n).all isDig = true := by
  rw [List.all_eq_true]
  intro c hc
  obtain ⟨ch, hch, e⟩ := List.mem_map.mp hc
  have r := PyProof.Rows.digit_range (Nat.isDigit_of_mem_toDigits (by decide) (by decide) hch)
  rw [← e]
  simp only [isDig, Bool.and_eq_true, decide_eq_true_eq]
  exact r
theorem digs_ne (n : Nat) : digs n ≠ [] := by
  intro e
  have h := toDigits_len_ge 10 n
  rw [List.map_eq_nil_iff.mp e] at h
  exact absurd h (by decide)
theorem digs_val (n : Nat) : digitsVal (digs n) = n := PySem.W.KIN.val_back n
theorem digs_lt {n k : Nat} (hk : 0 < k) (h : n < 10 ^ k) : (digs n).length ≤ k := by
  unfold digs
  rw [List.length_map]
  exact (Nat.length_toDigits_le_iff (by decide) hk).mpr h
theorem rcount_digs {n : Nat} (h : n ≤ 10 ^ 30) : rcount (digs n) = some n := by
  unfold rcount
  have h1 : (digs n).length ≤ 31 := digs_lt (by decide) (Nat.lt_of_le_of_lt h (by decide))
  have h0 : (digs n).length ≠ 0 := fun e => digs_ne n (List.eq_nil_of_length_eq_zero e)
  rw [if_neg (by omega), digs_val, if_pos ⟨h, rfl⟩]
/-! ### texts by their grammar -/
inductive Pr : Nat → List Nat → List Nat → Prop where
  | nil (d : Nat) : Pr d [] []
  | step {d c t f} : isStep c = true → Pr d t f → Pr d (c :: t) (c :: f)
  | rep {d n ti fi t f} : Pr d ti fi → n ≤ 10 ^ 30 → Pr (d + 1) t f → Pr (d + 1) (40 :: (ti ++ 41 :: (digs n ++ t))) ((List.replicate n fi).flatten ++ f)
theorem Pr.mono {d t f} (h : Pr d t f) : ∀ {e}, d ≤ e → Pr e t f := by
  induction h with
  | nil d => exact fun _ => .nil _
  | step hc _ ih => exact fun he => .step hc (ih he)
  | rep h1 hn h2 ih1 ih2 =>
    intro e he
    cases e with
    | zero => omega
    | succ e => exact .rep (ih1 (by omega)) hn (ih2 (by omega))
theorem Pr.app {d t f} (h : Pr d t f) {t' f'} (h' : Pr d t' f') : Pr d (t ++ t') (f ++ f') := by
  induction h with
  | nil d => exact h'
  | step hc _ ih => exact .step hc (ih h')
  | rep h1 hn h2 ih1 ih2 =>
    have := Pr.rep h1 hn (ih2 h')
    rw [← List.append_assoc] at this
    simpa [List.append_assoc] using this
theorem Pr.one {d n ti fi} (h : Pr d ti fi) (hn : n ≤ 10 ^ 30) : Pr (d + 1) (40 :: (ti ++ 41 :: digs n)) (List.replicate n fi).flatten := by
  have := Pr.rep h hn (.nil (d + 1))
  simpa using this
theorem Pr.steps {d : Nat} : ∀ {s : List Nat}, s.all isStep = true → Pr d s s
  | [], _ => .nil d
  | c :: s, h => by
    rw [List.all_cons, Bool.and_eq_true] at h
    exact .step h.1 (Pr.steps h.2)
theorem Pr.fsteps {d t f} (h : Pr d t f) : f.all isStep = true := by
  induction h with
  | nil d => rfl
  | step hc _ ih => rw [List.all_cons, hc, ih]; rfl
  | rep h1 hn h2 ih1 ih2 =>
    rw [List.all_append, ih2, Bool.and_true, List.all_eq_true]
    intro c hc
    obtain ⟨l, hl, hcl⟩ := List.mem_flatten.mp hc
    rw [(List.mem_replicate.mp hl).2] at hcl
    exact List.all_eq_true.mp ih1 c hcl
theorem Pr.run {d t f} (h : Pr d t f) : ∃ g, f = t.takeWhile isStep ++ g ∧ Pr d (t.dropWhile isStep) g := by
  induction h with
  | nil d => exact ⟨[], rfl, .nil d⟩
  | step hc _ ih =>
    obtain ⟨g, e, h⟩ := ih
    rw [List.takeWhile_cons, if_pos hc, List.dropWhile_cons, if_pos hc]
    exact ⟨g, by rw [List.cons_append, ← e], h⟩
  | @rep d n ti fi t f h1 hn h2 ih1 ih2 =>
    have e : isStep 40 = false := by decide
    rw [List.takeWhile_cons, if_neg (by rw [e]; decide), List.dropWhile_cons, if_neg (by rw [e]; decide)]
    exact ⟨_, rfl, .rep h1 hn h2⟩
theorem Pr.head {d t f} (h : Pr d t f) : t = [] ∨ (∃ c r, t = c :: r ∧ isStep c = true) ∨ ∃ r, t = 40 :: r := by
  cases h with
  | nil d => exact .inl rfl
  | step hc _ => exact .inr (.inl ⟨_, _, rfl, hc⟩)
  | rep _ _ _ => exact .inr (.inr ⟨_, rfl⟩)
theorem takeWhile_stop {p : Nat → Bool} {l r : List Nat} (hl : l.all p = true) (hr : r = [] ∨ ∃ c r', r = c :: r' ∧ p c = false) : (l ++ r).takeWhile p = l ∧ (l ++ r).dropWhile p = r := by
  induction l with
  | nil =>
    rcases hr with rfl | ⟨c, r', rfl, hc⟩
    · exact ⟨rfl, rfl⟩
    · rw [List.nil_append, List.takeWhile_cons, if_neg (by rw [hc]; decide), List.dropWhile_cons, if_neg (by rw [hc]; decide)]
      exact ⟨rfl, rfl⟩
  | cons a l ih =>
    rw [List.all_cons, Bool.and_eq_true] at hl
    obtain ⟨h1, h2⟩ := ih hl.2
    rw [List.cons_append, List.takeWhile_cons, if_pos hl.1, List.dropWhile_cons, if_pos hl.1, h1, h2]
    exact ⟨rfl, rfl⟩
theorem takeWhile_app {p : Nat → Bool} {r : List Nat} (hr : r = [] ∨ ∃ c r', r = c :: r' ∧ p c = false) : ∀ l : List Nat, (l ++ r).takeWhile p = l.takeWhile p ∧ (l ++ r).dropWhile p = l.dropWhile p ++ r
  | [] => by
    rcases hr with rfl | ⟨c, r', rfl, hc⟩
    · exact ⟨rfl, rfl⟩
    · rw [List.nil_append, List.takeWhile_cons, if_neg (by rw [hc]; decide), List.dropWhile_cons, if_neg (by rw [hc]; decide)]
      exact ⟨rfl, rfl⟩
  | a :: l => by
    obtain ⟨h1, h2⟩ := takeWhile_app hr l
    rw [List.cons_append, List.takeWhile_cons, List.dropWhile_cons, List.takeWhile_cons, List.dropWhile_cons]
    split
    · rw [h1, h2]; exact ⟨rfl, rfl⟩
    · exact ⟨rfl, rfl⟩
theorem dropWhile_len {p : Nat → Bool} {c : Nat} {l : List Nat} (h : p c = true) : ((c :: l).dropWhile p).length < (c :: l).length := by
  rw [List.dropWhile_cons, if_pos h, List.length_cons]
  have := len_dropWhile p l
  omega
theorem rp_of : ∀ (m : Nat) {d t f}, t.length ≤ m → Pr d t f → ∀ (os : List Parts) (ps : Parts) (rest : List Nat) (k : Nat), os.length + d ≤ 20 → (rest = [] ∨ ∃ r, rest = 41 :: r) → (t ++ rest).length < k →
    ∃ ps' k', rest.length < k' ∧ rpF k os ps (t ++ rest) = rpF k' os ps' rest ∧ ps'.den = ps.den ++ f ∧ ps'.dep ≤ max ps.dep d ∧ ps'.vol ≤ ps.vol + t.length
  | m, d, t, f, hm, h, os, ps, rest, k, hd, hr, hk => by
    rcases h.head with e | ⟨c, r, e, hc⟩ | ⟨r, e⟩
    · subst e
      cases h
      exact ⟨ps, k, hk, rfl, by rw [List.append_nil], by omega, by omega⟩
    · cases m with
      | zero => rw [e, List.length_cons] at hm; omega
      | succ m =>
        obtain ⟨g, ef, h'⟩ := h.run
        have hrs : rest = [] ∨ ∃ c r', rest = c :: r' ∧ isStep c = false := by
          rcases hr with hr | ⟨r', hr⟩
          · exact .inl hr
          · exact .inr ⟨41, r', hr, by decide⟩
        obtain ⟨e1, e2⟩ := takeWhile_app hrs t
        have hlt := dropWhile_len (p := isStep) (c := c) (l := r) hc
        rw [← e] at hlt
        have hsum : (t.takeWhile isStep).length + (t.dropWhile isStep).length = t.length := by
          rw [← List.length_append, List.takeWhile_append_dropWhile]
        cases k with
        | zero => omega
        | succ k =>
          have e40 : c ≠ 40 := fun z => by rw [z] at hc; revert hc; decide
          have e41 : c ≠ 41 := fun z => by rw [z] at hc; revert hc; decide
          have es : rpF (k + 1) os ps (t ++ rest) = rpF k os (app ps (seq (t.takeWhile isStep) nil)) (t.dropWhile isStep ++ rest) := by
            rw [← e1, ← e2]
            conv => lhs; rw [e, List.cons_append, rpF]
            unfold stp
            rw [if_neg e40, if_neg e41, if_pos hc, if_pos (by omega)]
            rw [e, List.cons_append]
          rw [List.length_append] at hk
          obtain ⟨ps', k', g1, g2, g3, g4, g5⟩ := rp_of m (by omega) h' os (app ps (seq (t.takeWhile isStep) nil)) rest k hd hr (by rw [List.length_append]; omega)
          refine ⟨ps', k', g1, es.trans g2, ?_, ?_, ?_⟩
          · rw [g3, den_app, den, den, ef, List.append_nil, List.append_assoc]
          · rw [dep_app, dep, dep] at g4; omega
          · rw [vol_app, vol, vol] at g5; omega
    · cases m with
      | zero => rw [e, List.length_cons] at hm; omega
      | succ m =>
        generalize ht : t = t0 at h
        cases h with
        | nil => subst ht; cases e
        | @step d c t1 f1 hc h1 =>
          rw [ht] at e
          injection e with e1 e2
          rw [e1] at hc
          exact absurd hc (by decide)
        | @rep d n ti fi t2 f2 h1 hn h2 =>
          subst ht
          clear e r
          rw [List.length_cons, List.length_append, List.length_cons, List.length_append] at hm
          have hk2 : (40 :: (ti ++ 41 :: (digs n ++ (t2 ++ rest)))).length < k := by
            have : 40 :: (ti ++ 41 :: (digs n ++ t2)) ++ rest = 40 :: (ti ++ 41 :: (digs n ++ (t2 ++ rest))) := by simp [List.append_assoc]
            rw [← this]; exact hk
          have eq0 : 40 :: (ti ++ 41 :: (digs n ++ t2)) ++ rest = 40 :: (ti ++ 41 :: (digs n ++ (t2 ++ rest))) := by simp [List.append_assoc]
          rw [eq0]
          cases k with
          | zero => omega
          | succ k =>
            rw [List.length_cons] at hk2
            have es1 : rpF (k + 1) os ps (40 :: (ti ++ 41 :: (digs n ++ (t2 ++ rest)))) = rpF k (ps :: os) nil (ti ++ 41 :: (digs n ++ (t2 ++ rest))) := by
              rw [rpF]
              unfold stp
              rw [if_pos rfl, if_pos (by omega)]
            obtain ⟨pi, k1, g1, g2, g3, g4, g5⟩ := rp_of m (by omega) h1 (ps :: os) nil (41 :: (digs n ++ (t2 ++ rest))) k (by rw [List.length_cons]; omega) (.inr ⟨_, rfl⟩) (by omega)
            cases k1 with
            | zero => omega
            | succ k1 =>
              have hnd : t2 ++ rest = [] ∨ ∃ c r', t2 ++ rest = c :: r' ∧ isDig c = false := by
                rcases h2.head with e | ⟨c, r, e, hc⟩ | ⟨r, e⟩
                · subst e
                  rcases hr with hr | ⟨r', hr⟩
                  · exact .inl (by rw [hr]; rfl)
                  · exact .inr ⟨41, r', by rw [hr]; rfl, by decide⟩
                · refine .inr ⟨c, r ++ rest, by rw [e]; rfl, ?_⟩
                  simp only [isStep, isLet, Bool.or_eq_true, Bool.and_eq_true, decide_eq_true_eq] at hc
                  simp only [isDig, Bool.and_eq_false_iff, decide_eq_false_iff_not]
                  omega
                · exact .inr ⟨40, r ++ rest, by rw [e]; rfl, by decide⟩
              obtain ⟨e1, e2⟩ := takeWhile_stop (digs_dig n) hnd
              have es2 : rpF (k1 + 1) (ps :: os) pi (41 :: (digs n ++ (t2 ++ rest))) = rpF k1 os (app ps (Parts.rep pi n nil)) (t2 ++ rest) := by
                rw [rpF]
                unfold stp
                rw [if_neg (by decide), if_pos rfl, e1, e2, rcount_digs hn]
                simp only
                rw [if_pos (by omega)]
              rw [List.length_cons, List.length_append] at g1
              obtain ⟨ps', k', f1, f2, f3, f4, f5⟩ := rp_of m (by omega) h2 os (app ps (Parts.rep pi n nil)) rest k1 hd hr (by omega)
              refine ⟨ps', k', f1, es1.trans (g2.trans (es2.trans f2)), ?_, ?_, ?_⟩
              · rw [f3, den_app, den, den, g3, den, List.nil_append, List.append_nil, List.append_assoc]
              · rw [dep_app, dep, dep] at f4; rw [dep] at g4; omega
              · rw [vol_app, vol, vol] at f5; rw [vol] at g5
                rw [List.length_cons, List.length_append, List.length_cons, List.length_append]
                omega
theorem rpt_of {d t f} (h : Pr d t f) (hd : d ≤ 20) : ∃ ps, rpt t = some ps ∧ ps.den = f ∧ ps.dep ≤ d ∧ ps.vol ≤ t.length ∧ ps.ok := by
  obtain ⟨ps, k, h1, h2, h3, h4, h5⟩ := rp_of t.length (Nat.le_refl _) h [] nil [] (t.length + 1) (by simpa using hd) (.inl rfl) (by simp)
  rw [List.append_nil] at h2
  cases k with
  | zero => cases h1
  | succ k =>
    have e : rpt t = some ps := by
      unfold rpt
      rw [h2, rpF]
      rfl
    refine ⟨ps, e, h3, by rw [dep] at h4; omega, by rw [vol] at h5; omega, (rpt_deep e).2⟩
end My

namespace My
open PySem L2 TL
/-! ### words -/
theorem exm_self {K : PySem.W.Frag} {S : Addr} (h1 : PySem.W.subIn K (.ref S) (.type "BaseException") = some true) (h2 : PySem.W.isClsIn K S = true) (h3 : PySem.W.typeIn K (.ref S) = some (.type "type")) (h4 : PySem.W.subIn K (.ref S) (.ref S) = some true) :
    PySem.W.exmOne K (.ref S) (.ref S) = some true := by
  have e1 : (PySem.W.subIn K (.ref S) (.type "BaseException") == some true) = true := by rw [h1] <;> rfl
  have e2 : ((PySem.W.clsIn K S).isSome && PySem.W.typeIn K (.ref S) == some (.type "type")) = true := by
    have h2' : (PySem.W.clsIn K S).isSome = true := h2
    rw [h2', h3] <;> rfl
  show (if (PySem.W.subIn K (.ref S) (.type "BaseException") == some true) = true then (if ((PySem.W.clsIn K S).isSome && PySem.W.typeIn K (.ref S) == some (.type "type")) = true then PySem.W.subIn K (.ref S) (.ref S) else none) else none) = some true
  rw [if_pos e1, if_pos e2]
  exact h4
/-- no exception is wished: none comes -/
theorem passN {X : Cx} : Passes (L2.CX X.prog X.w) X E0 := fun _ _ _ _ _ _ _ h => by
  obtain ⟨_, _, _, _, _, _, _, _, _, _, _, _, _, z⟩ := h
theorem cx_K {CX : CXT} {P : Program} {w : World} {K : PySem.W.Frag} {mg : Str → Option Value} {base : Heap} {N : List Str} {qual : Str} {scope : Scope} {f : Addr} {cd : Value} {A : Around} {outer : List Env} {s : Shared} {H : Hp} {E : XK} : (cxOf CX P w K mg base N qual scope f cd A outer s H E).K = K := rfl
theorem nox_K {X : Cx} : X.nox.K = X.K := rfl
theorem ite_t {α : Sort _} {a b : α} : (if true = true then a else b) = a := if_pos rfl
theorem ite_f {α : Sort _} {a b : α} : (if false = true then a else b) = b := if_neg Bool.false_ne_true
/-- a value of a known kind -/
inductive Kd (K : PySem.W.Frag) (H : Hp) : V → Prop where
  | non : Kd K H .non
  | bl (b : Bool) : Kd K H (.bl b)
  | int (i : Int) : Kd K H (.int i)
  | str (s : Str) (h : s.length ≤ 100000) : Kd K H (.str s)
  | ref {a : Addr} {n : String} (h : TyX K H (.ref a) (.type n)) (hn : n = "list" ∨ n = "tuple" ∨ n = "dict") : Kd K H (.ref a)
def tInt : V → Bool | .int _ => true | .bl _ => true | _ => false
def tBool : V → Bool | .bl _ => true | _ => false
def tStr : V → Bool | .str _ => true | _ => false
theorem isi_of {K : PySem.W.Frag} {H : Hp} {x : V} {T : String} {b : Bool} {Q : VK} (z : ∃ t, TyX K H x t ∧ PySem.W.kitOne K t (.type T) = some b) (q : Q (.bl b) H) : rIsi K [x, .ty T] H Q := by
  obtain ⟨t, h1, h2⟩ := z
  exact ⟨x, .ty T, t, _, _, rfl, .ty T, h1, h2, q⟩
theorem isi_int {K : PySem.W.Frag} {H : Hp} {x : V} {Q : VK} (k : Kd K H x) (q : Q (.bl (tInt x)) H) : rIsi K [x, .ty "int"] H Q := by
  refine isi_of ?_ q
  cases k with
  | non => exact ⟨_, .base .non, show _ = some false from kit_ty (by decide +kernel)⟩
  | bl b => exact ⟨_, .base (.bl b), show _ = some true from kit_ty (by decide +kernel)⟩
  | int b => exact ⟨_, .base (.int b), show _ = some true from kit_ty (by decide +kernel)⟩
  | str b => exact ⟨_, .base (.str b), show _ = some false from kit_ty (by decide +kernel)⟩
  | ref h hn => rcases hn with rfl | rfl | rfl <;> exact ⟨_, h, show _ = some false from kit_ty (by decide +kernel)⟩
theorem isi_bool {K : PySem.W.Frag} {H : Hp} {x : V} {Q : VK} (k : Kd K H x) (q : Q (.bl (tBool x)) H) : rIsi K [x, .ty "bool"] H Q := by
  refine isi_of ?_ q
  cases k with
  | non => exact ⟨_, .base .non, show _ = some false from kit_ty (by decide +kernel)⟩
  | bl b => exact ⟨_, .base (.bl b), show _ = some true from kit_ty (by decide +kernel)⟩
  | int b => exact ⟨_, .base (.int b), show _ = some false from kit_ty (by decide +kernel)⟩
  | str b => exact ⟨_, .base (.str b), show _ = some false from kit_ty (by decide +kernel)⟩
  | ref h hn => rcases hn with rfl | rfl | rfl <;> exact ⟨_, h, show _ = some false from kit_ty (by decide +kernel)⟩
theorem isi_str {K : PySem.W.Frag} {H : Hp} {x : V} {Q : VK} (k : Kd K H x) (q : Q (.bl (tStr x)) H) : rIsi K [x, .ty "str"] H Q := by
  refine isi_of ?_ q
  cases k with
  | non => exact ⟨_, .base .non, show _ = some false from kit_ty (by decide +kernel)⟩
  | bl b => exact ⟨_, .base (.bl b), show _ = some false from kit_ty (by decide +kernel)⟩
  | int b => exact ⟨_, .base (.int b), show _ = some false from kit_ty (by decide +kernel)⟩
  | str b => exact ⟨_, .base (.str b), show _ = some true from kit_ty (by decide +kernel)⟩
  | ref h hn => rcases hn with rfl | rfl | rfl <;> exact ⟨_, h, show _ = some false from kit_ty (by decide +kernel)⟩

/-! ### flat lists compared -/
def flatD : V → PyData
  | .bl b => .bool b
  | .int i => .int i
  | .str s => .str s
  | _ => .none
def okF : V → Bool
  | .str s => PyData.strOk s
  | .non => true
  | .bl _ => true
  | .int _ => true
  | _ => false
theorem dp_flat {K : PySem.W.Frag} {H : Hp} {v : V} (h : okF v = true) : Dp K H v (flatD v) := by
  cases v with
  | non => exact .non
  | bl b => exact .bl b
  | int i => exact .int i
  | str s => exact .str s
  | _ => cases h
theorem dp_all {K : PySem.W.Frag} {H : Hp} : ∀ {xs : List V}, xs.all okF = true → DpAll K H xs (xs.map flatD)
  | [], _ => .nil
  | x :: xs, h => by
    rw [List.all_cons, Bool.and_eq_true] at h
    exact .cons (dp_flat h.1) (dp_all h.2)
theorem dp_list {K : PySem.W.Frag} {H : Hp} {a : Addr} {xs : List V} (h : SqL K H a xs) (hx : xs.all okF = true) : Dp K H (.ref a) (.list (xs.map flatD)) := .lst h (dp_all hx)
theorem lay_flat : ∀ {xs : List V}, xs.all okF = true → PyData.canLayAll0 (xs.map flatD) = true ∧ PyData.depthAll (xs.map flatD) = 0
  | [], _ => ⟨by simp [PyData.canLayAll0], by simp [PyData.depthAll]⟩
  | x :: xs, h => by
    rw [List.all_cons, Bool.and_eq_true] at h
    obtain ⟨h1, h2⟩ := lay_flat h.2
    rw [List.map_cons]
    have e1 : PyData.canLay0 (flatD x) = true ∧ PyData.depth (flatD x) = 0 := by
      cases x with
      | str s => exact ⟨by rw [flatD, PyData.canLay0]; exact h.1, by simp [flatD, PyData.depth]⟩
      | _ => first | exact ⟨by simp [flatD, PyData.canLay0], by simp [flatD, PyData.depth]⟩ | cases h.1
    exact ⟨by rw [PyData.canLayAll0, e1.1, h1]; rfl, by rw [PyData.depthAll, e1.2, h2]; rfl⟩
theorem shaped_flat {xs : List V} (h : xs.all okF = true) : SeqAt.shaped (.list (xs.map flatD)) = true := by
  obtain ⟨h1, h2⟩ := lay_flat h
  unfold SeqAt.shaped
  rw [PyData.canLay0, h1, PyData.depth, h2]
  rfl
def eqL (xs ys : List V) : Bool := PyData.eqvAll (xs.map flatD) (ys.map flatD)
theorem ne_lists {K : PySem.W.Frag} {H : Hp} {a b : Addr} {xs ys : List V} {Q : VK} (ha : SqL K H a xs) (hb : SqL K H b ys) (hx : xs.all okF = true) (hy : ys.all okF = true) (q : Q (.bl (!eqL xs ys)) H) : rNeD K (.ref a) (.ref b) H Q :=
  ⟨_, _, dp_list ha hx, dp_list hb hy, shaped_flat hx, shaped_flat hy, by
    show Q (.bl (!PyData.eqv (.list (xs.map flatD)) (.list (ys.map flatD)))) H
    rw [PyData.eqv]
    exact q⟩
theorem eq_lists {K : PySem.W.Frag} {H : Hp} {a b : Addr} {xs ys : List V} {Q : VK} (ha : SqL K H a xs) (hb : SqL K H b ys) (hx : xs.all okF = true) (hy : ys.all okF = true) (q : Q (.bl (eqL xs ys)) H) : rEqD K (.ref a) (.ref b) H Q :=
  ⟨_, _, dp_list ha hx, dp_list hb hy, shaped_flat hx, shaped_flat hy, by
    show Q (.bl (PyData.eqv (.list (xs.map flatD)) (.list (ys.map flatD)))) H
    rw [PyData.eqv]
    exact q⟩
theorem eqL_bools : ∀ (bs cs : List Bool), eqL (bs.map V.bl) (cs.map V.bl) = decide (bs = cs)
  | [], [] => by simp [eqL, PyData.eqvAll]
  | [], c :: cs => by simp [eqL, PyData.eqvAll]
  | b :: bs, [] => by simp [eqL, PyData.eqvAll]
  | b :: bs, c :: cs => by
    have ih := eqL_bools bs cs
    unfold eqL at ih ⊢
    rw [List.map_cons, List.map_cons, List.map_cons, List.map_cons, PyData.eqvAll, ih]
    show ((PyData.eqv (.bool b) (.bool c)) && _) = _
    rw [PyData.eqv]
    by_cases h : b = c
    · subst h; simp
    · simp [h]
theorem ok_bools (bs : List Bool) : (bs.map V.bl).all okF = true := by
  rw [List.all_map, List.all_eq_true]
  intro x _
  rfl
theorem ok_ints (bs : List Int) : (bs.map V.int).all okF = true := by
  rw [List.all_map, List.all_eq_true]
  intro x _
  rfl
theorem eqL_nil (xs : List V) : eqL xs [] = xs.isEmpty := by
  cases xs with
  | nil => simp [eqL, PyData.eqvAll]
  | cons x xs => simp [eqL, PyData.eqvAll]
/-! ### the law's draws: two ints in a list -/
def okD (s : Int × Int) : Prop := 0 ≤ s.1 ∧ 0 ≤ s.2 ∧ s.2 < 2147483647
def dw (s : Int × Int) : HO := .lst [.int s.1, .int s.2]
def sp_draws (K : PySem.W.Frag) : Sp := fun vs H Q _ => ∃ (a : Addr) (ns : List Int) (k : Int), vs = [.ref a, .int k] ∧ SqL K H a (ns.map V.int) ∧ ns.length ≤ 63 ∧ 0 ≤ k ∧ k ≤ 1000000 ∧
  ∀ (p : Addr) (d : Int × Int) (H' : Hp), Same H H' → H p = none → okD d → H' p = some (dw d) → Q (.ref p) H'
def sp_draw : Sp := fun vs H Q _ => ∃ (p : Addr) (d : Int × Int) (u : Int), vs = [.ref p, .int u] ∧ H p = some (dw d) ∧ okD d ∧ 0 < u ∧ u ≤ 1000000000 ∧
  ∀ (v : Int) (d' : Int × Int) (H' : Hp), 0 ≤ v → v < u → okD d' → H' p = some (dw d') → (∀ q o, q ≠ p → H q = some o → H' q = some o) → Q (.int v) H'
theorem ix_at {K : PySem.W.Frag} {H : Hp} {p : Addr} {xs : List V} {i : Int} {v : V} {Q : VK} (h : SqL K H p xs) (h0 : 0 ≤ i) (hv : xs[i.toNat]? = some v) (q : Q v H) : rIxL K (.ref p) (.int i) H Q := by
  refine ⟨p, xs, i, v, rfl, rfl, h, ?_, q⟩
  have e : i = ((i.toNat : Nat) : Int) := by omega
  rw [e]
  exact atI_nat hv
theorem ix_str_at {z : Str} {i : Int} {c : Nat} {H : Hp} {Q : VK} (hz : z.length ≤ 100000) (h0 : 0 ≤ i) (hc : z.cps.toList[i.toNat]? = some c) (q : Q (.str ⟨#[c]⟩) H) : rIxS (.str z) (.int i) H Q := by
  refine ⟨z, i, c, rfl, rfl, Nat.le_trans hz (by decide), ?_, q⟩
  have e : i = ((i.toNat : Nat) : Int) := by omega
  rw [e]
  exact atI_nat hc
theorem set_at {H : Hp} {p : Addr} {xs : List V} {i : Int} {v : V} {Q : Hp → Prop} (h : H p = some (.lst xs)) (h0 : 0 ≤ i) (hi : i < xs.length) (q : Q (upd H p (.lst (xs.set i.toNat v)))) : rSetL (.ref p) (.int i) v H Q := by
  refine ⟨p, xs, i, i.toNat, rfl, rfl, h, ?_, q⟩
  unfold ixN
  rw [if_pos h0, if_pos hi]
theorem same_new {H : Hp} {p : Addr} (h : H p = none) (o : HO) : Same H (upd H p o) := fun b u q => by rw [upd_ne (ne_of_none q h)]; exact q

theorem ne_bools {K : PySem.W.Frag} {H : Hp} {a b : Addr} {bs cs : List Bool} {Q : VK} (ha : SqL K H a (bs.map V.bl)) (hb : SqL K H b (cs.map V.bl)) (q : Q (.bl (!decide (bs = cs))) H) : rNeD K (.ref a) (.ref b) H Q :=
  ne_lists ha hb (ok_bools bs) (ok_bools cs) (by rw [eqL_bools]; exact q)
theorem tyx_mono {K : PySem.W.Frag} {H H' : Hp} {x : V} {t : Value} (s : Same H H') (h : TyX K H x t) : TyX K H' x t := by
  cases h with
  | base b =>
    cases b with
    | non => exact .base .non
    | bl y => exact .base (.bl y)
    | int y => exact .base (.int y)
    | str y => exact .base (.str y)
    | flt y => exact .base (.flt y)
    | lst e => exact .base (.lst (s _ _ e))
    | frz e => exact .base (.frz (s _ _ e))
    | tup e => exact .base (.tup (s _ _ e))
    | dK e => exact .base (.dK (s _ _ e))
    | dT e => exact .base (.dT (s _ _ e))
    | ins e cl ha hn htk hm => exact .base (.ins (s _ _ e) cl ha hn htk hm)
  | byt b => exact .byt b
  | set e => exact .set (s _ _ e)
  | kList e c => exact .kList e c
  | kTuple e c => exact .kTuple e c
  | kDict e c => exact .kDict e c
  | fTuple e => exact .fTuple (s _ _ e)
  | fDict e => exact .fDict (s _ _ e)
theorem kd_mono {K : PySem.W.Frag} {H H' : Hp} {x : V} (s : Same H H') (h : Kd K H x) : Kd K H' x := by
  cases h with
  | non => exact .non
  | bl b => exact .bl b
  | int i => exact .int i
  | str z hz => exact .str z hz
  | ref h hn => exact .ref (tyx_mono s h) hn
theorem kd_lst {K : PySem.W.Frag} {H : Hp} {p : Addr} {xs : List V} (h : H p = some (.lst xs)) : Kd K H (.ref p) := .ref (.base (.lst h)) (.inl rfl)
theorem kd_tup {K : PySem.W.Frag} {H : Hp} {p : Addr} {xs : List V} (h : H p = some (.tup xs)) : Kd K H (.ref p) := .ref (.base (.tup h)) (.inr (.inl rfl))
theorem kd_dct {K : PySem.W.Frag} {H : Hp} {p : Addr} {xs : List (Key × V)} (h : H p = some (.dK xs)) : Kd K H (.ref p) := .ref (.base (.dK h)) (.inr (.inr rfl))
/-- for x in a list; what is walked is read first, the loop's rest stands behind R -/
theorem forL {K : PySem.W.Frag} {tl : TE} {g : TG} {tb : TS} {D : Ends} {σ : L2.St} {H : Hp}
    (h : ∀ R : VK, (∀ (a : Addr) (xs : List V) (Pv : Nat → L2.St → Hp → Prop) (H1 : Hp), SqL K H1 a xs → Pv 0 σ H1 → (∀ i σ H, i ≤ xs.length → Pv i σ H → SqL K H a xs) →
      (∀ i x σ H, xs[i]? = some x → Pv i σ H → g x σ H fun σ2 H2 => tb { D with nx := Pv (i + 1), ct := Pv (i + 1), bk := D.nx } σ2 H2) → (∀ σ H, Pv xs.length σ H → D.nx σ H) → R (.ref a) H1) → tl σ H R) : tFor (iList K tl) g tb D σ H :=
  h _ fun a xs Pv H1 hs h0 hl hst hd => ⟨a, rfl, ⟨xs, hs⟩, for_list (K := K) (a := a) (xs := xs) Pv h0 hl hst hd⟩
/-- for i in range(n) -/
theorem forR {ta : TA} {g : TG} {tb : TS} {D : Ends} {σ : L2.St} {H : Hp}
    (h : ∀ R : List V → Hp → Prop, (∀ (j : Int) (Pv : Nat → L2.St → Hp → Prop) (H1 : Hp), -(2 ^ 62) ≤ j → j < 2 ^ 62 → Pv 0 σ H1 →
      (∀ i σ H, i < j.toNat → Pv i σ H → g (.int (0 + (i : Int))) σ H fun σ2 H2 => tb { D with nx := Pv (i + 1), ct := Pv (i + 1), bk := D.nx } σ2 H2) → (∀ σ H, Pv j.toNat σ H → D.nx σ H) → R [.int j] H1) → ta σ H R) : tFor (iRng1 ta) g tb D σ H :=
  h _ fun j Pv H1 h1 h2 h0 hst hd => ⟨j, rfl, h1, h2, for_range (lo := 0) (n := j.toNat) Pv h0 hst hd⟩
/-- [e for i in range(n)] -/
theorem lcR {ta : TA} {g : TG} {tt : TT} {te : TE} {vs : List Nat} {σ : L2.St} {H : Hp} {Q : VK}
    (h : ∀ R : List V → Hp → Prop, (∀ (j : Int) (H1 : Hp), -(2 ^ 62) ≤ j → j < 2 ^ 62 → (∀ D, H1 D = none → ∃ Pv : Nat → Hp → Prop, Pv 0 (upd H1 D (.lst [])) ∧
      (∀ i H, i < j.toNat → Pv i H → g (.int (0 + (i : Int))) (wipe σ vs) H fun σ2 H2 => wipe σ2 vs = wipe σ vs ∧ tt σ2 H2 fun b H3 =>
        if b = true then te σ2 H3 fun y H4 => ∃ acc, H4 D = some (.lst acc) ∧ acc.length < sizeLine ∧ Pv (i + 1) (upd H4 D (.lst (acc ++ [y]))) else Pv (i + 1) H3) ∧ ∀ H, Pv j.toNat H → Q (.ref D) H) → R [.int j] H1) → ta σ H R) : tLc (iRng1 ta) g tt te vs σ H Q :=
  h _ fun j H1 h1 h2 hk => ⟨j, rfl, h1, h2, fun D hD => by
    obtain ⟨Pv, h0, hs, hd⟩ := hk D hD
    exact lc_range (lo := 0) (n := j.toNat) Pv h0 hs hd⟩
/-- [e for x in a list] -/
theorem lcL {K : PySem.W.Frag} {tl : TE} {g : TG} {tt : TT} {te : TE} {vs : List Nat} {σ : L2.St} {H : Hp} {Q : VK}
    (h : ∀ R : VK, (∀ (a : Addr) (xs : List V) (H1 : Hp), SqL K H1 a xs → (∀ D, H1 D = none → ∃ Pv : Nat → Hp → Prop, Pv 0 (upd H1 D (.lst [])) ∧ (∀ i H, i ≤ xs.length → Pv i H → SqL K H a xs) ∧
      (∀ i x H, xs[i]? = some x → Pv i H → g x (wipe σ vs) H fun σ2 H2 => wipe σ2 vs = wipe σ vs ∧ tt σ2 H2 fun b H3 =>
        if b = true then te σ2 H3 fun y H4 => ∃ acc, H4 D = some (.lst acc) ∧ acc.length < sizeLine ∧ Pv (i + 1) (upd H4 D (.lst (acc ++ [y]))) else Pv (i + 1) H3) ∧ ∀ H, Pv xs.length H → Q (.ref D) H) → R (.ref a) H1) → tl σ H R) : tLc (iList K tl) g tt te vs σ H Q :=
  h _ fun a xs H1 hs hk => ⟨a, rfl, ⟨xs, hs⟩, fun D hD => by
    obtain ⟨Pv, h0, hl, hst, hd⟩ := hk D hD
    exact lc_list (K := K) (a := a) (xs := xs) Pv h0 hl hst hd⟩
theorem sz_of {n : Nat} (h : n ≤ 100000) : n ≤ sizeLine := Nat.le_trans h (by decide)
theorem same_mut {H H' : Hp} {p : Addr} {o : HO} (s : Same H H') (h : H p = none) : Same H (upd H' p o) := fun b u q => by rw [upd_ne (ne_of_none q h)]; exact s b u q

theorem same_but {H H0 H1 : Hp} {p : Addr} (s : Same H H0) (hp : H p = none) (k : ∀ q o, q ≠ p → H0 q = some o → H1 q = some o) : Same H H1 := fun b o e => k b o (ne_of_none e hp) (s b o e)
theorem free_but {H0 H1 : Hp} {p q : Addr} {o : HO} (k : ∀ q o, q ≠ p → H0 q = some o → H1 q = some o) (ep : H1 p = some o) (h : H1 q = none) : H0 q = none := by
  cases e : H0 q with
  | none => rfl
  | some u =>
    have hq : q ≠ p := fun z => by rw [z, ep] at h; cases h
    rw [k q u hq e] at h
    cases h
/-! ### texts as lists of signs -/
theorem tl_inj {x y : Str} (h : tl x = tl y) : x = y := str_ext h
theorem tl_len (x : Str) : (tl x).length = x.length := Array.length_toList
theorem tl_app (x y : Str) : tl (x ++ y) = tl x ++ tl y := tl_append x y
theorem joinL_nil : ∀ l : List (List Nat), joinL [] l = l.flatten
  | [] => rfl
  | [p] => by simp [joinL]
  | p :: q :: r => by
    rw [joinL, joinL_nil (q :: r)]
    simp
theorem tl_join0 (ys : List Str) : tl (Txt.join ("" : Str) ys) = (ys.map tl).flatten := by
  rw [join_eq, tl_join, show tl ("" : Str) = [] from by decide +kernel, joinL_nil]
def sg (c : Nat) : Str := ⟨#[c]⟩
theorem tl_sg (c : Nat) : tl (sg c) = [c] := rfl
theorem flat_sg : ∀ cs : List Nat, ((cs.map sg).map tl).flatten = cs
  | [] => rfl
  | c :: cs => by
    rw [List.map_cons, List.map_cons, List.flatten_cons, flat_sg cs]
    rfl
theorem len_sg (cs : List Nat) : ((cs.map sg).map (·.length)).sum = cs.length := by
  induction cs with
  | nil => rfl
  | cons c cs ih =>
    rw [List.map_cons, List.map_cons, List.sum_cons, ih]
    show 1 + _ = _
    rw [List.length_cons]; omega

/-! ### texts repeated -/
def srep (z : Str) (k : Nat) : Str := ⟨(List.replicate k (tl z)).flatten.toArray⟩
theorem tl_srep (z : Str) (k : Nat) : tl (srep z k) = (List.replicate k (tl z)).flatten := rfl
theorem len_flat_rep (l : List Nat) (k : Nat) : (List.replicate k l).flatten.length = k * l.length := by
  induction k with
  | zero => simp
  | succ k ih => rw [List.replicate_succ, List.flatten_cons, List.length_append, ih, Nat.succ_mul]; omega
theorem foldl_arr (a : Array Nat) : ∀ (k : Nat) (b : Array Nat), ((List.replicate k a).foldl (· ++ ·) b).toList = b.toList ++ (List.replicate k a.toList).flatten
  | 0, b => by simp
  | k + 1, b => by rw [List.replicate_succ, List.foldl_cons, foldl_arr a k]; simp [List.replicate_succ]
def rRepS : R2 := fun x y H Q => ∃ z n, x = .str z ∧ y = .int n ∧ 0 ≤ n ∧ n < 2 ^ 62 ∧ z.length * n.toNat ≤ 1000000 ∧ Q (.str (srep z n.toNat)) H
theorem op_rep_str {X : Cx} : OpR X (binaryOp .Mult) rRepS := by
  intro pins s σ H x y v u Q I rx ry h
  obtain ⟨z, n, rfl, rfl, h1, h2, hz, q⟩ := h
  obtain ⟨t, rfl⟩ := rx
  obtain ⟨t', rfl⟩ := ry
  have e24 : (2 : Nat) ^ 24 = 16777216 := by decide
  have hl : (z.length : Int) * n ≤ 1000000 := by
    have : ((z.length * n.toNat : Nat) : Int) ≤ 1000000 := by omega
    rw [Int.natCast_mul, Int.toNat_of_nonneg h1] at this
    exact this
  refine PySem.P.mul_str ?_ ?_ ?_ ?_
  · rw [decide_eq_false (by omega), decide_eq_false (by omega)]; rfl
  · intro hn _ hgt
    have hd : (2 ^ 63 - 1) / n ≥ z.length := by
      refine (Int.le_ediv_iff_mul_le (by omega)).mpr ?_
      omega
    omega
  · intro _ _
    show decide (_ > sizeLine) = false
    refine decide_eq_false ?_
    rw [sizeLine_eq]
    omega
  · have fin : ∀ w : Str, tl w = (List.replicate n.toNat (tl z)).flatten → w = srep z n.toNat := fun w hw => ext_tl hw
    have small : ∀ w : Str, tl w = (List.replicate n.toNat (tl z)).flatten → w.length ≤ sizeLine := fun w hw => by
      rw [len_tl, hw, len_flat_rep, sizeLine_eq, ← len_tl, Nat.mul_comm]
      omega
    by_cases hn : n < 1
    · rw [if_pos hn]
      have e : Str.empty = srep z n.toNat := fin _ (by rw [show n.toNat = 0 by omega]; rfl)
      exact ⟨by decide, by rw [e]; exact ⟨.str _, H, I.tok _, ⟨_, rfl⟩, q⟩⟩
    · rw [if_neg hn]
      by_cases hc : (n == 1 || z.length == 0) = true
      · rw [if_pos hc]
        have e : z = srep z n.toNat := fin _ (by
          rw [Bool.or_eq_true, beq_iff_eq, beq_iff_eq] at hc
          rcases hc with hc | hc
          · rw [hc]; simp
          · have h0 : tl z = [] := List.eq_nil_of_length_eq_zero (by rw [← len_tl]; exact hc)
            rw [h0]; simp)
        show EP X pins σ Q (.str z t) s
        exact ⟨.str (srep z n.toNat), H, I, by rw [← e]; exact ⟨_, rfl⟩, q⟩
      · rw [if_neg hc]
        have e : tl (⟨(List.replicate n.toNat z.cps).foldl (· ++ ·) #[]⟩ : Str) = (List.replicate n.toNat (tl z)).flatten := by
          show ((List.replicate n.toNat z.cps).foldl (· ++ ·) #[]).toList = _
          rw [foldl_arr]; rfl
        have e2 := fin _ e
        exact ⟨small _ e, by rw [e2]; exact ⟨.str _, H, I.tok _, ⟨_, rfl⟩, q⟩⟩
/-! ### trees in the heap -/
inductive PVs (H : Hp) : List V → Parts → Prop where
  | nil : PVs H [] .nil
  | seq {s : Str} {vs r} : PVs H vs r → PVs H (.str s :: vs) (.seq (tl s) r)
  | rep {q p : Addr} {n : Nat} {vb vs b r} : H q = some (.tup [.ref p, .int (n : Int)]) → H p = some (.lst vb) → vb.length ≤ 100000 → PVs H vb b → PVs H vs r → PVs H (.ref q :: vs) (.rep b n r)
theorem PVs.mono {H H' : Hp} (s : Same H H') {vs ps} (h : PVs H vs ps) : PVs H' vs ps := by
  induction h with
  | nil => exact .nil
  | seq _ ih => exact .seq ih
  | rep h1 h2 h3 _ _ ih1 ih2 => exact .rep (s _ _ h1) (s _ _ h2) h3 ih1 ih2
theorem PVs.app {H : Hp} {vs ps} (h : PVs H vs ps) {vs' ps'} (h' : PVs H vs' ps') : PVs H (vs ++ vs') (ps.app ps') := by
  induction h with
  | nil => exact h'
  | seq _ ih => exact .seq ih
  | rep h1 h2 h3 h4 _ _ ih2 => exact .rep h1 h2 h3 h4 ih2
def PartsAt (H : Hp) (p : Addr) (ps : Parts) : Prop := ∃ vs, H p = some (.lst vs) ∧ vs.length ≤ 100000 ∧ PVs H vs ps
theorem PartsAt.mono {H H' : Hp} (s : Same H H') {p ps} (h : PartsAt H p ps) : PartsAt H' p ps := by
  obtain ⟨vs, h1, h2, h3⟩ := h
  exact ⟨vs, s _ _ h1, h2, h3.mono s⟩
def Opn (F H' : Hp) (m : Nat) : List Addr → List Parts → Prop
  | [], [] => True
  | a :: as, o :: os => (∃ va, H' a = some (.lst va) ∧ PVs F va o ∧ va.length ≤ m) ∧ Opn F H' m as os
  | _, _ => False
theorem Opn.len {F H' : Hp} {m : Nat} : ∀ {as os}, Opn F H' m as os → as.length = os.length
  | [], [], _ => rfl
  | a :: as, o :: os, h => by rw [List.length_cons, List.length_cons, Opn.len h.2]
theorem Opn.mono {F F' H' H'' : Hp} {m m' : Nat} (s : Same F F') (hm : m ≤ m') : ∀ {as os}, (∀ a ∈ as, H'' a = H' a) → Opn F H' m as os → Opn F' H'' m' as os
  | [], [], _, _ => trivial
  | a :: as, o :: os, k, ⟨⟨va, h1, h2, h3⟩, h⟩ => ⟨⟨va, by rw [k a List.mem_cons_self]; exact h1, h2.mono s, by omega⟩, Opn.mono s hm (fun b hb => k b (List.mem_cons_of_mem _ hb)) h⟩
theorem Opn.some {F H' : Hp} {m : Nat} : ∀ {as os}, Opn F H' m as os → ∀ a ∈ as, ∃ o, H' a = some o
  | a :: as, o :: os, ⟨⟨va, h1, _⟩, h⟩, b, hb => by
    rcases List.mem_cons.mp hb with rfl | hb
    · exact ⟨_, h1⟩
    · exact Opn.some h b hb
/-! ### the reader's lists in the heap -/
structure Lay (H0 F H' : Hp) (p q : Addr) (as : List Addr) (os : List Parts) (ps : Parts) (n : Nat) : Prop where
  s0 : Same H0 F
  s1 : Same F H'
  nd : (p :: q :: as).Nodup
  fr : ∀ a ∈ p :: q :: as, F a = none
  hp : H' p = some (.lst (as.reverse.map V.ref))
  hq : ∃ vq, H' q = some (.lst vq) ∧ PVs F vq ps ∧ vq.length ≤ n
  op : Opn F H' n as os
theorem Lay.init {H : Hp} {p q : Addr} (h1 : H p = none) (h2 : upd H p (.lst []) q = none) : Lay H H (upd (upd H p (.lst [])) q (.lst [])) p q [] [] .nil 0 := by
  have hpq : p ≠ q := fun e => by rw [← e, upd_same] at h2; cases h2
  have hq : H q = none := by rw [← h2, upd_ne (Ne.symm hpq)]
  refine ⟨fun _ _ h => h, (same_new h1 _).trans (same_new h2 _), ?_, ?_, ?_, ⟨[], upd_same, .nil, Nat.le_refl _⟩, trivial⟩
  · simp [hpq]
  · intro a ha
    simp only [List.mem_cons, List.not_mem_nil, or_false] at ha
    rcases ha with rfl | rfl
    · exact h1
    · exact hq
  · rw [upd_ne hpq, upd_same]; rfl
theorem Lay.opn {H0 F H' : Hp} {p q r : Addr} {as os ps n} (h : Lay H0 F H' p q as os ps n) (hr : upd H' p (.lst (as.reverse.map V.ref ++ [.ref q])) r = none) :
    Lay H0 F (upd (upd H' p (.lst (as.reverse.map V.ref ++ [.ref q]))) r (.lst [])) p r (q :: as) (ps :: os) .nil (n + 1) := by
  obtain ⟨vq, hq, pq, lq⟩ := h.hq
  have nd := h.nd
  simp only [List.nodup_cons, List.mem_cons, not_or] at nd
  have rp : r ≠ p := fun e => by rw [e, upd_same] at hr; cases hr
  have hr' : H' r = none := by rw [← hr, upd_ne rp]
  have rq : r ≠ q := fun e => by rw [e, hq] at hr'; cases hr'
  have ra : r ∉ as := fun e => by obtain ⟨o, ho⟩ := h.op.some r e; rw [ho] at hr'; cases hr'
  have fr : F r = none := by
    cases e : F r with
    | none => rfl
    | some u => rw [h.s1 _ _ e] at hr'; cases hr'
  have fp := h.fr p List.mem_cons_self
  refine ⟨h.s0, (same_mut h.s1 fp).trans (same_new hr _), ?_, ?_, ?_, ⟨[], upd_same, .nil, Nat.zero_le _⟩, ?_⟩
  · simp only [List.nodup_cons, List.mem_cons, not_or]
    exact ⟨⟨Ne.symm rp, nd.1.1, nd.1.2⟩, ⟨rq, ra⟩, nd.2⟩
  · intro a ha
    simp only [List.mem_cons] at ha
    rcases ha with rfl | rfl | rfl | ha
    · exact fp
    · exact fr
    · exact h.fr _ (by simp)
    · exact h.fr _ (by simp [ha])
  · rw [upd_ne (Ne.symm rp), upd_same, List.reverse_cons, List.map_append]; rfl
  · refine ⟨⟨vq, ?_, pq, by omega⟩, h.op.mono (fun _ _ e => e) (by omega) fun a ha => ?_⟩
    · rw [upd_ne (Ne.symm rq), upd_ne (Ne.symm nd.1.1), hq]
    · rw [upd_ne (fun e => ra (by rw [← e]; exact ha)), upd_ne (fun e => nd.1.2 (by rw [← e]; exact ha))]
theorem Lay.add {H0 F H' : Hp} {p q : Addr} {as os ps n vq} {s : Str} (h : Lay H0 F H' p q as os ps n) (hq : H' q = some (.lst vq)) {m : Nat} (hm : n + 1 ≤ m) :
    Lay H0 F (upd H' q (.lst (vq ++ [.str s]))) p q as os (ps.app (.seq (tl s) .nil)) m := by
  obtain ⟨vq', hq', pq, lq⟩ := h.hq
  rw [hq] at hq'
  injection hq' with e
  injection e with e
  subst e
  have nd := h.nd
  simp only [List.nodup_cons, List.mem_cons, not_or] at nd
  refine ⟨h.s0, same_mut h.s1 (h.fr q (by simp)), h.nd, h.fr, ?_, ⟨_, upd_same, pq.app (.seq .nil), ?_⟩, h.op.mono (fun _ _ e => e) (by omega) fun a ha => ?_⟩
  · rw [upd_ne nd.1.1]; exact h.hp
  · rw [List.length_append, List.length_singleton]; omega
  · rw [upd_ne (fun e => nd.2.1 (by rw [← e]; exact ha))]
theorem Lay.cls {H0 F H' : Hp} {p q r a : Addr} {as os ps o n va} {c : Nat} (h : Lay H0 F H' p q (a :: as) (o :: os) ps n) (hr : H' r = none) (ha : H' a = some (.lst va)) (hn : n ≤ 100000) {m : Nat} (hm : n + 1 ≤ m) :
    ∃ F', Lay H0 F' (upd (upd (upd H' r (.tup [.ref q, .int (c : Int)])) p (.lst ((a :: as).reverse.map V.ref).dropLast)) a (.lst (va ++ [.ref r]))) p a as os (o.app (.rep ps c .nil)) m := by
  obtain ⟨vq, hq, pq, lq⟩ := h.hq
  have op := h.op
  obtain ⟨⟨va', ha', pa, la⟩, op⟩ := op
  rw [ha] at ha'
  injection ha' with e
  injection e with e
  subst e
  have nd := h.nd
  simp only [List.nodup_cons, List.mem_cons, not_or] at nd
  obtain ⟨⟨pq', pa', pas⟩, ⟨qa, qas⟩, aas, ndas⟩ := nd
  have nr : ∀ b, (∃ o, H' b = some o) → b ≠ r := fun b ⟨o, ho⟩ e => by rw [e, hr] at ho; cases ho
  have rp := nr p ⟨_, h.hp⟩
  have rq := nr q ⟨_, hq⟩
  have ra := nr a ⟨_, ha⟩
  have fr : F r = none := by
    cases e : F r with
    | none => rfl
    | some u => rw [h.s1 _ _ e] at hr; cases hr
  have fq : F q = none := h.fr q (by simp)
  have sF : Same F (upd (upd F q (.lst vq)) r (.tup [.ref q, .int (c : Int)])) := (same_new fq _).trans (same_new (by rw [upd_ne (Ne.symm rq)]; exact fr) _)
  have hq3 : upd (upd F q (.lst vq)) r (.tup [.ref q, .int (c : Int)]) q = some (.lst vq) := by rw [upd_ne rq, upd_same]
  refine ⟨upd (upd F q (.lst vq)) r (.tup [.ref q, .int (c : Int)]), fun b u e => sF b u (h.s0 b u e), ?_, ?_, ?_, ?_, ⟨_, upd_same, ?_, ?_⟩, ?_⟩
  · intro b u e
    by_cases eb : b = r
    · subst eb
      rw [upd_same] at e
      rw [upd_ne (Ne.symm ra), upd_ne (Ne.symm rp), upd_same]; exact e
    · rw [upd_ne eb] at e
      by_cases eq : b = q
      · subst eq
        rw [upd_same] at e
        rw [upd_ne qa, upd_ne (Ne.symm pq'), upd_ne rq, hq]; exact e
      · rw [upd_ne eq] at e
        have np : b ≠ p := fun z => by rw [z, h.fr p (by simp)] at e; cases e
        have na : b ≠ a := fun z => by rw [z, h.fr a (by simp)] at e; cases e
        rw [upd_ne na, upd_ne np, upd_ne eb]
        exact h.s1 _ _ e
  · simp only [List.nodup_cons, List.mem_cons, not_or]
    exact ⟨⟨pa', pas⟩, aas, ndas⟩
  · intro b hb
    have hb2 : b ≠ r ∧ b ≠ q ∧ F b = none := by
      simp only [List.mem_cons] at hb
      rcases hb with rfl | rfl | hb
      · exact ⟨rp, pq', h.fr _ (by simp)⟩
      · exact ⟨ra, Ne.symm qa, h.fr _ (by simp)⟩
      · exact ⟨nr b (op.some b hb), fun e => qas (by rw [← e]; exact hb), h.fr _ (by simp [hb])⟩
    rw [upd_ne hb2.1, upd_ne hb2.2.1]; exact hb2.2.2
  · rw [upd_ne pa', upd_same, List.reverse_cons, List.map_append, List.map_singleton, List.dropLast_concat]
  · exact (pa.mono sF).app (.rep upd_same hq3 (by omega) (pq.mono sF) .nil)
  · rw [List.length_append, List.length_singleton]; omega
  · refine op.mono sF (by omega) fun b hb => ?_
    rw [upd_ne (fun e => aas (by rw [← e]; exact hb)), upd_ne (fun e => pas (by rw [← e]; exact hb)), upd_ne (nr b (op.some b hb))]
theorem Lay.free {H0 F H' : Hp} {p q : Addr} {as os ps n} (h : Lay H0 F H' p q as os ps n) {b : Addr} (hb : b ∈ p :: q :: as) : H0 b = none := by
  cases e : H0 b with
  | none => rfl
  | some u =>
    have := h.s0 b u e
    rw [h.fr b hb] at this; cases this
theorem PVs.uncons {H : Hp} {x : V} {r : List V} {ps : Parts} (h : PVs H (x :: r) ps) : ∃ a b, PVs H [x] a ∧ PVs H r b ∧ ps.den = a.den ++ b.den ∧ a.dep ≤ ps.dep ∧ b.dep ≤ ps.dep ∧ (ps.ok → a.ok ∧ b.ok) := by
  cases h with
  | @seq s _ r0 pr =>
    exact ⟨.seq (tl s) .nil, r0, .seq .nil, pr, by simp [Parts.den], Nat.zero_le _, Nat.le_refl _, fun h => ⟨⟨h.1, h.2.1, trivial⟩, h.2.2⟩⟩
  | @rep q p n vb vs b r0 h1 h2 h3 hb pr =>
    exact ⟨.rep b n .nil, r0, .rep h1 h2 h3 hb .nil, pr, by simp [Parts.den], by simp only [Parts.dep]; omega, by simp only [Parts.dep]; omega, fun h => ⟨⟨h.1, h.2.1, trivial⟩, h.2.2⟩⟩
theorem exm_of {K : PySem.W.Frag} {S C : Addr} {b : Bool} (h1 : PySem.W.subIn K (.ref C) (.type "BaseException") = some true) (h2 : PySem.W.isClsIn K C = true) (h3 : PySem.W.typeIn K (.ref C) = some (.type "type")) (h4 : PySem.W.subIn K (.ref S) (.ref C) = some b) :
    PySem.W.exmOne K (.ref S) (.ref C) = some b := by
  have e1 : (PySem.W.subIn K (.ref C) (.type "BaseException") == some true) = true := by rw [h1] <;> rfl
  have e2 : ((PySem.W.clsIn K C).isSome && PySem.W.typeIn K (.ref C) == some (.type "type")) = true := by
    rw [show (PySem.W.clsIn K C).isSome = true from h2, h3] <;> rfl
  unfold PySem.W.exmOne
  rw [if_pos e1]
  show (if ((PySem.W.clsIn K C).isSome && PySem.W.typeIn K (.ref C) == some (.type "type")) = true then PySem.W.subIn K (.ref S) (.ref C) else none) = some b
  rw [if_pos e2]
  exact h4

end My
namespace My
open PySem L2 TL
/-! ### rows, by themselves -/
abbrev Rw := Option (Int × Str)
def endS (x : Str) (n : Int) : Str := cutS x (some (max 0 ((x.length : Int) - n))) none
def rafter (r : Rw) (rs : List Rw) : Rw := match r with
  | none => none
  | some (k, x) => match rs.getD (k + x.length).toNat none with
    | none => none
    | some (k2, x2) => if k2 ≤ x.length then some (0, endS x k2 ++ x2) else some (k2 - x.length, x ++ x2)
def okRw (r : Rw) (n C : Int) : Bool := match r with
  | none => true
  | some (k, x) => decide (0 ≤ k) && decide (k ≤ n) && (lettersOnly x && decide (k + x.length ≤ C))
def okRows (rs : List Rw) (C : Int) : Prop := ∀ (i : Nat) (r : Rw), rs[i]? = some r → okRw r i C = true
structure EffOk (c : Nat) (rs : List Rw) : Prop where
  c1 : 1 ≤ c
  c2 : c ≤ 100
  len : rs.length = c + 1
  ok : okRows rs c
theorem okRw_len {r : Rw} {n C : Int} (h : okRw r n C = true) : ∀ k x, r = some (k, x) → 0 ≤ k ∧ k ≤ n ∧ lettersOnly x = true ∧ k + x.length ≤ C := by
  rintro k x rfl
  unfold okRw at h
  simp only [Bool.and_eq_true, decide_eq_true_eq] at h
  exact ⟨h.1.1, h.1.2, h.2.1, h.2.2⟩
theorem okRw_mk {n C k : Int} {x : Str} (h0 : 0 ≤ k) (h1 : k ≤ n) (h2 : lettersOnly x = true) (h3 : k + x.length ≤ C) : okRw (some (k, x)) n C = true := by
  unfold okRw
  simp only [Bool.and_eq_true, decide_eq_true_eq]
  exact ⟨⟨h0, h1⟩, h2, h3⟩
theorem tl_end (x : Str) (n : Nat) : tl (endS x n) = (tl x).drop ((tl x).length - n) := by
  have hl : (tl x).length = x.length := tl_len x
  show ((x.cps.toList.drop (HT.sIx x.length 0 (some (max 0 ((x.length : Int) - n))))).take (HT.sIx x.length x.length none - HT.sIx x.length 0 (some (max 0 ((x.length : Int) - n))))).toArray.toList = _
  have e1 : HT.sIx x.length 0 (some (max 0 ((x.length : Int) - n))) = x.length - n := by
    simp only [HT.sIx]
    rw [if_neg (by omega)]; omega
  have e2 : HT.sIx x.length x.length none = x.length := rfl
  rw [e1, e2, hl]
  show (((tl x).drop (x.length - n)).take (x.length - (x.length - n))) = _
  exact List.take_of_length_le (by rw [List.length_drop]; omega)
theorem lo_tl (x : Str) : lettersOnly x = (tl x).all isLet := rfl
theorem lo_app {x y : Str} (h1 : lettersOnly x = true) (h2 : lettersOnly y = true) : lettersOnly (x ++ y) = true := by
  rw [lo_tl] at *
  rw [tl_app, List.all_append, h1, h2]; rfl
theorem lo_end {x : Str} (h : lettersOnly x = true) (n : Nat) : lettersOnly (endS x n) = true := by
  rw [lo_tl] at *
  rw [tl_end]
  rw [List.all_eq_true] at *
  exact fun c hc => h c (List.mem_of_mem_drop hc)
theorem len_end (x : Str) (n : Nat) : (endS x n).length = min n x.length := by
  rw [← tl_len, tl_end, List.length_drop, tl_len]; omega
theorem len_app (x y : Str) : (x ++ y).length = x.length + y.length := by
  rw [← tl_len, tl_app, List.length_append, tl_len, tl_len]
theorem nat_of {k : Int} (h : 0 ≤ k) : ∃ n : Nat, k = n := ⟨k.toNat, by omega⟩
theorem EffOk.at {c : Nat} {rs : List Rw} (h : EffOk c rs) {i : Nat} (hi : i ≤ c) : ∃ r, rs[i]? = some r ∧ rs.getD i none = r ∧ okRw r i c = true := by
  have hl := h.len
  have hi' : i < rs.length := by omega
  refine ⟨rs[i], List.getElem?_eq_getElem hi', ?_, h.ok i _ (List.getElem?_eq_getElem hi')⟩
  rw [List.getD_eq_getElem?_getD, List.getElem?_eq_getElem hi']; rfl
theorem lookR {rs : List Rw} {i : Nat} {r : Rw} (h : rs[i]? = some r) : rs.getD i none = r := by
  rw [List.getD_eq_getElem?_getD, h]; rfl
/-- what follows a row, its lengths named -/
theorem rafter_some {c : Nat} {rs : List Rw} (h : EffOk c rs) {k : Nat} {x : Str} (hk : k + x.length ≤ c) :
    (rafter (some ((k : Int), x)) rs = none ∧ rs.getD (k + x.length) none = none) ∨ ∃ (k2 : Nat) (x2 : Str), rs.getD (k + x.length) none = some ((k2 : Int), x2) ∧ k2 ≤ k + x.length ∧ lettersOnly x2 = true ∧ k2 + x2.length ≤ c ∧
      rafter (some ((k : Int), x)) rs = if k2 ≤ x.length then some (0, endS x k2 ++ x2) else some (((k2 - x.length : Nat) : Int), x ++ x2) := by
  obtain ⟨r, h1, h2, h3⟩ := h.at hk
  have e : ((k : Int) + (x.length : Int)).toNat = k + x.length := by omega
  cases r with
  | none =>
    refine .inl ⟨?_, h2⟩
    show (match rs.getD ((k : Int) + (x.length : Int)).toNat none with
      | none => none
      | some (k2, x2) => if k2 ≤ (x.length : Int) then some (0, endS x k2 ++ x2) else some (k2 - x.length, x ++ x2)) = none
    rw [e, h2]
  | some kx =>
    obtain ⟨k2, x2⟩ := kx
    obtain ⟨g1, g2, g3, g4⟩ := okRw_len h3 k2 x2 rfl
    obtain ⟨m, rfl⟩ := nat_of g1
    refine .inr ⟨m, x2, h2, by omega, g3, by omega, ?_⟩
    show (match rs.getD ((k : Int) + (x.length : Int)).toNat none with
      | none => none
      | some (k2, x2) => if k2 ≤ (x.length : Int) then some (0, endS x k2 ++ x2) else some (k2 - x.length, x ++ x2)) = _
    rw [e, h2]
    dsimp only
    by_cases hm : m ≤ x.length
    · rw [if_pos (by omega), if_pos hm]
    · rw [if_neg (by omega), if_neg hm, show (m : Int) - (x.length : Int) = ((m - x.length : Nat) : Int) by omega]
def prodR (r1 r2 : List Rw) : List Rw := r1.map fun r => rafter r r2
theorem prod_at {r1 r2 : List Rw} {i : Nat} {r : Rw} (h : (prodR r1 r2)[i]? = some r) : ∃ r0, r1[i]? = some r0 ∧ r = rafter r0 r2 := by
  unfold prodR at h
  rw [List.getElem?_map] at h
  obtain ⟨r0, h3, h4⟩ := Option.map_eq_some_iff.mp h
  exact ⟨r0, h3, h4.symm⟩
theorem rafter_ok {c : Nat} {r2 : List Rw} (h2 : EffOk c r2) {r : Rw} {i : Nat} (h : okRw r i c = true) : okRw (rafter r r2) i c = true := by
  cases r with
  | none => rfl
  | some kx =>
    obtain ⟨k, x⟩ := kx
    obtain ⟨g1, g2, g3, g4⟩ := okRw_len h k x rfl
    obtain ⟨k, rfl⟩ := nat_of g1
    rcases rafter_some h2 (k := k) (x := x) (by omega) with ⟨e, _⟩ | ⟨k2, x2, e1, e2, e3, e4, e5⟩
    · rw [e]; rfl
    · rw [e5]
      by_cases hk : k2 ≤ x.length
      · rw [if_pos hk]
        refine okRw_mk (by omega) (by omega) (lo_app (lo_end g3 _) e3) ?_
        rw [len_app, len_end]; omega
      · rw [if_neg hk]
        refine okRw_mk (by omega) (by omega) (lo_app g3 e3) ?_
        rw [len_app]; omega
theorem prod_ok {c : Nat} {r1 r2 : List Rw} (h1 : EffOk c r1) (h2 : EffOk c r2) : EffOk c (prodR r1 r2) where
  c1 := h1.c1
  c2 := h1.c2
  len := by unfold prodR; rw [List.length_map]; exact h1.len
  ok := fun i r h => by
    obtain ⟨r0, h3, rfl⟩ := prod_at h
    exact rafter_ok h2 (h1.ok i r0 h3)
theorem EffOk.mem {c : Nat} {rs : List Rw} (h : EffOk c rs) {r : Rw} (hr : r ∈ rs) : ∃ i : Nat, i ≤ c ∧ okRw r i c = true := by
  obtain ⟨i, hi⟩ := List.mem_iff_getElem?.mp hr
  have := (List.getElem?_eq_some_iff.mp hi).1
  have hl := h.len
  exact ⟨i, by omega, h.ok i r hi⟩
/-! ### products: applied, associative -/
/-- what a row makes of a queue, both as lists -/
def apL (r : Rw) (q : List Nat) : Option (List Nat) := match r with
  | none => none
  | some (k, x) => some (q.drop (q.length - k.toNat) ++ tl x)
theorem drop_split {α : Type} (a b : List α) (n : Nat) : (a ++ b).drop ((a ++ b).length - n) = if n ≤ b.length then b.drop (b.length - n) else a.drop (a.length - (n - b.length)) ++ b := by
  rw [List.drop_append, List.length_append]
  by_cases h : n ≤ b.length
  · rw [if_pos h, List.drop_eq_nil_of_le (by omega), List.nil_append]
    congr 1; omega
  · rw [if_neg h]
    congr 1
    · congr 1; omega
    · rw [show a.length + b.length - n - a.length = 0 by omega]; rfl
theorem drop_drop_end {α : Type} (a : List α) {m n : Nat} (h : n ≤ m) : (a.drop (a.length - m)).drop ((a.drop (a.length - m)).length - n) = a.drop (a.length - n) := by
  rw [List.drop_drop, List.length_drop]
  congr 1; omega
theorem tl_end_app (x y : Str) (n : Nat) : tl (endS x n ++ y) = (tl x).drop ((tl x).length - n) ++ tl y := by rw [tl_app, tl_end]
theorem drop_zero_end {α : Type} (a : List α) : a.drop (a.length - 0) = [] := List.drop_eq_nil_of_le (by omega)
theorem ap_prod {c : Nat} {r2 : List Rw} (h2 : EffOk c r2) {r : Rw} {q : List Nat} (h : okRw r q.length c = true) :
    apL (rafter r r2) q = (apL r q).bind fun m => apL (r2.getD m.length none) m := by
  cases r with
  | none => rfl
  | some kx =>
    obtain ⟨k, x⟩ := kx
    obtain ⟨g1, g2, g3, g4⟩ := okRw_len h k x rfl
    obtain ⟨k, rfl⟩ := nat_of g1
    have hx := tl_len x
    show _ = apL (r2.getD (q.drop (q.length - ((k : Int)).toNat) ++ tl x).length none) (q.drop (q.length - ((k : Int)).toNat) ++ tl x)
    have hlen : (q.drop (q.length - ((k : Int)).toNat) ++ tl x).length = k + x.length := by
      rw [List.length_append, List.length_drop, hx]; omega
    rw [hlen]
    rcases rafter_some h2 (k := k) (x := x) (by omega) with ⟨e, e'⟩ | ⟨k2, x2, e1, e2, e3, e4, e5⟩
    · rw [e, e']; rfl
    · rw [e5, e1]
      show _ = some ((q.drop (q.length - ((k : Int)).toNat) ++ tl x).drop ((q.drop (q.length - ((k : Int)).toNat) ++ tl x).length - ((k2 : Int)).toNat) ++ tl x2)
      rw [drop_split, show ((k2 : Int)).toNat = k2 by omega, show ((k : Int)).toNat = k by omega]
      by_cases hk : k2 ≤ x.length
      · rw [if_pos hk, if_pos (by omega)]
        show some (q.drop (q.length - (0 : Int).toNat) ++ tl (endS x k2 ++ x2)) = _
        rw [show (0 : Int).toNat = 0 from rfl, drop_zero_end, List.nil_append, tl_end_app]
      · rw [if_neg hk, if_neg (by omega)]
        show some (q.drop (q.length - (((k2 - x.length : Nat) : Int)).toNat) ++ tl (x ++ x2)) = _
        rw [drop_drop_end q (by omega), tl_app, List.append_assoc, show (((k2 - x.length : Nat) : Int)).toNat = k2 - (tl x).length by rw [hx]; omega]
theorem rw_ext {k k' : Int} {x x' : Str} (h1 : k = k') (h2 : tl x = tl x') : (some (k, x) : Rw) = some (k', x') := by
  rw [h1, tl_inj h2]
theorem rafter_assoc {c : Nat} {r2 r3 : List Rw} (h2 : EffOk c r2) (h3 : EffOk c r3) {r : Rw} {i : Nat} (h : okRw r i c = true) : rafter (rafter r r2) r3 = rafter r (prodR r2 r3) := by
  cases r with
  | none => rfl
  | some kx =>
    obtain ⟨k, x⟩ := kx
    obtain ⟨g1, g2, g3, g4⟩ := okRw_len h k x rfl
    obtain ⟨k, rfl⟩ := nat_of g1
    have h23 := prod_ok h2 h3
    have hx := tl_len x
    have hidx : (prodR r2 r3).getD (k + x.length) none = rafter (r2.getD (k + x.length) none) r3 := by
      obtain ⟨r0, e1, e2, _⟩ := h2.at (i := k + x.length) (by omega)
      rw [e2]
      refine lookR ?_
      unfold prodR
      rw [List.getElem?_map, e1]; rfl
    rcases rafter_some h2 (k := k) (x := x) (by omega) with ⟨e, e'⟩ | ⟨k2, x2, e1, e2, e3, e4, e5⟩
    · rw [e]
      rcases rafter_some h23 (k := k) (x := x) (by omega) with ⟨f, f'⟩ | ⟨k3, x3, f1, _⟩
      · rw [f]; rfl
      · rw [hidx, e'] at f1; cases f1
    · rw [e1] at hidx
      have hx2 := tl_len x2
      -- the second row, followed by the third ones
      rcases rafter_some h3 (k := k2) (x := x2) (by omega) with ⟨d, d'⟩ | ⟨k3, x3, d1, d2, d3, d4, d5⟩
      · -- the third fails
        rw [d] at hidx
        have hR : rafter (some ((k : Int), x)) (prodR r2 r3) = none := by
          rcases rafter_some h23 (k := k) (x := x) (by omega) with ⟨f, f'⟩ | ⟨k4, x4, f1, _⟩
          · exact f
          · rw [hidx] at f1; cases f1
        rw [hR, e5]
        by_cases hk : k2 ≤ x.length
        · rw [if_pos hk]
          rcases rafter_some h3 (k := 0) (x := endS x k2 ++ x2) (by rw [len_app, len_end]; omega) with ⟨f, f'⟩ | ⟨k4, x4, f1, _⟩
          · exact f
          · rw [len_app, len_end, show 0 + (min k2 x.length + x2.length) = k2 + x2.length by omega, d'] at f1; cases f1
        · rw [if_neg hk]
          rcases rafter_some h3 (k := k2 - x.length) (x := x ++ x2) (by rw [len_app]; omega) with ⟨f, f'⟩ | ⟨k4, x4, f1, _⟩
          · exact f
          · rw [len_app, show k2 - x.length + (x.length + x2.length) = k2 + x2.length by omega, d'] at f1; cases f1
      · rw [d5] at hidx
        -- the right side
        have hR : rafter (some ((k : Int), x)) (prodR r2 r3) = if k3 ≤ x2.length then some (0, endS x2 k3 ++ x3) else if k3 - x2.length ≤ x.length then some (0, endS x (k3 - x2.length : Nat) ++ (x2 ++ x3)) else some (((k3 - x2.length - x.length : Nat) : Int), x ++ (x2 ++ x3)) := by
          rcases rafter_some h23 (k := k) (x := x) (by omega) with ⟨f, f'⟩ | ⟨k4, x4, f1, f2, f3, f4, f5⟩
          · rw [hidx] at f'
            split at f' <;> cases f'
          · rw [hidx] at f1
            rw [f5]
            by_cases hk3 : k3 ≤ x2.length
            · rw [if_pos hk3] at f1 ⊢
              injection f1 with f1
              injection f1 with fa fb
              have : k4 = 0 := by omega
              subst this
              subst fb
              rw [if_pos (Nat.zero_le _)]
              refine rw_ext rfl ?_
              rw [tl_end_app x, drop_zero_end, List.nil_append]
            · rw [if_neg hk3] at f1 ⊢
              injection f1 with f1
              injection f1 with fa fb
              have : k4 = k3 - x2.length := by omega
              subst this
              subst fb
              rfl
        rw [hR, e5]
        by_cases hk : k2 ≤ x.length
        · rw [if_pos hk]
          rcases rafter_some h3 (k := 0) (x := endS x k2 ++ x2) (by rw [len_app, len_end]; omega) with ⟨f, f'⟩ | ⟨k4, x4, f1, f2, f3, f4, f5⟩
          · rw [len_app, len_end, show 0 + (min k2 x.length + x2.length) = k2 + x2.length by omega, d1] at f'; cases f'
          · rw [len_app, len_end, show 0 + (min k2 x.length + x2.length) = k2 + x2.length by omega, d1] at f1
            injection f1 with f1
            injection f1 with fa fb
            have : k4 = k3 := by omega
            subst this
            subst fb
            have hl : (endS x k2 ++ x2).length = k2 + x2.length := by rw [len_app, len_end]; omega
            have f5' : rafter (some ((0 : Int), endS x k2 ++ x2)) r3 = _ := f5
            rw [f5', if_pos (by omega)]
            by_cases hk3 : k4 ≤ x2.length
            · rw [if_pos hk3]
              refine rw_ext rfl ?_
              rw [tl_end_app, tl_end_app, tl_app, drop_split, if_pos (by omega), tl_end]
            · rw [if_neg hk3, if_pos (by omega)]
              refine rw_ext rfl ?_
              rw [tl_end_app, tl_end_app, tl_app, tl_app, drop_split, if_neg (by omega), tl_end, drop_drop_end _ (by omega), List.append_assoc, hx2]
        · rw [if_neg hk]
          rcases rafter_some h3 (k := k2 - x.length) (x := x ++ x2) (by rw [len_app]; omega) with ⟨f, f'⟩ | ⟨k4, x4, f1, f2, f3, f4, f5⟩
          · rw [len_app, show k2 - x.length + (x.length + x2.length) = k2 + x2.length by omega, d1] at f'; cases f'
          · rw [len_app, show k2 - x.length + (x.length + x2.length) = k2 + x2.length by omega, d1] at f1
            injection f1 with f1
            injection f1 with fa fb
            have : k4 = k3 := by omega
            subst this
            subst fb
            rw [f5, len_app]
            by_cases hk3 : k4 ≤ x2.length
            · rw [if_pos hk3, if_pos (by omega)]
              refine rw_ext rfl ?_
              rw [tl_end_app, tl_end_app, tl_app, drop_split, if_pos (by omega)]
            · rw [if_neg hk3]
              by_cases hk4 : k4 - x2.length ≤ x.length
              · rw [if_pos hk4, if_pos (by omega)]
                refine rw_ext rfl ?_
                rw [tl_end_app, tl_end_app, tl_app, tl_app, drop_split, if_neg (by omega), List.append_assoc, hx2]
              · rw [if_neg hk4, if_neg (by omega)]
                refine rw_ext (by omega) ?_
                rw [tl_app, tl_app, tl_app, tl_app, List.append_assoc]
theorem prod_assoc {c : Nat} {r1 r2 r3 : List Rw} (h1 : EffOk c r1) (h2 : EffOk c r2) (h3 : EffOk c r3) : prodR r1 (prodR r2 r3) = prodR (prodR r1 r2) r3 := by
  unfold prodR
  rw [List.map_map]
  refine List.map_congr_left fun r hr => ?_
  obtain ⟨i, _, hi⟩ := h1.mem hr
  exact (rafter_assoc h2 h3 hi).symm
end My

namespace My
open PySem L2 TL
/-! ### rows as data -/
theorem lo_ok {x : Str} (h : lettersOnly x = true) : PyData.strOk x = true := by
  unfold PyData.strOk
  rw [Array.all_toList.symm]
  rw [lo_tl, List.all_eq_true] at h
  rw [List.all_eq_true]
  intro c hc
  have := h c hc
  simp only [isLet, Bool.and_eq_true, decide_eq_true_eq] at this
  exact decide_eq_true (by omega)
def rowD : Rw → PyData
  | none => .none
  | some (k, x) => .tuple [.int k, .str x]
theorem eqv_row : ∀ r r' : Rw, PyData.eqv (rowD r) (rowD r') = decide (r = r')
  | none, none => by simp [rowD, PyData.eqv]
  | none, some (k, x) => by simp [rowD, PyData.eqv]
  | some (k, x), none => by simp [rowD, PyData.eqv]
  | some (k, x), some (k', x') => by
    simp only [rowD, PyData.eqv, PyData.eqvAll, Bool.and_true]
    rw [Bool.eq_iff_iff]
    simp
theorem eqv_rows : ∀ rs rs' : List Rw, PyData.eqvAll (rs.map rowD) (rs'.map rowD) = decide (rs = rs')
  | [], [] => by simp [PyData.eqvAll]
  | [], _ :: _ => by simp [PyData.eqvAll]
  | _ :: _, [] => by simp [PyData.eqvAll]
  | r :: rs, r' :: rs' => by
    rw [List.map_cons, List.map_cons, PyData.eqvAll, eqv_row, eqv_rows rs rs', Bool.eq_iff_iff]
    simp
def rowLt (r : Rw) : Prop := ∀ k x, r = some (k, x) → PyData.strOk x = true
theorem row_shape {r : Rw} (h : rowLt r) : (rowD r).canLay0 = true ∧ (rowD r).depth ≤ 1 := by
  cases r with
  | none => exact ⟨by simp [rowD, PyData.canLay0], by simp [rowD, PyData.depth]⟩
  | some kx =>
    obtain ⟨k, x⟩ := kx
    have := h k x rfl
    exact ⟨by simp [rowD, PyData.canLay0, PyData.canLayAll0, this], by simp [rowD, PyData.depth, PyData.depthAll]⟩
theorem rows_shape : ∀ {rs : List Rw}, (∀ r ∈ rs, rowLt r) → PyData.canLayAll0 (rs.map rowD) = true ∧ PyData.depthAll (rs.map rowD) ≤ 1
  | [], _ => ⟨by simp [PyData.canLayAll0], by simp [PyData.depthAll]⟩
  | r :: rs, h => by
    obtain ⟨h1, h2⟩ := rows_shape (rs := rs) (fun r hr => h r (List.mem_cons_of_mem _ hr))
    obtain ⟨g1, g2⟩ := row_shape (h r List.mem_cons_self)
    rw [List.map_cons]
    exact ⟨by rw [PyData.canLayAll0, g1, h1]; rfl, by rw [PyData.depthAll]; omega⟩
theorem shaped_rowsT {rs : List Rw} (h : ∀ r ∈ rs, rowLt r) : SeqAt.shaped (.tuple (rs.map rowD)) = true := by
  obtain ⟨h1, h2⟩ := rows_shape h
  unfold SeqAt.shaped
  rw [PyData.canLay0, h1, PyData.depth, decide_eq_true (by omega)]; rfl
theorem shaped_rowsL {rs : List Rw} (h : ∀ r ∈ rs, rowLt r) : SeqAt.shaped (.list (rs.map rowD)) = true := by
  obtain ⟨h1, h2⟩ := rows_shape h
  unfold SeqAt.shaped
  rw [PyData.canLay0, h1, PyData.depth, decide_eq_true (by omega)]; rfl
theorem shaped_row {r : Rw} (h : rowLt r) : SeqAt.shaped (rowD r) = true := by
  obtain ⟨h1, h2⟩ := row_shape h
  unfold SeqAt.shaped
  rw [h1, decide_eq_true (by omega)]; rfl
theorem EffOk.lt {c : Nat} {rs : List Rw} (h : EffOk c rs) : ∀ r ∈ rs, rowLt r := fun r hr k x e => by
  obtain ⟨i, _, hi⟩ := h.mem hr
  obtain ⟨_, _, g3, _⟩ := okRw_len hi k x e
  exact lo_ok g3
def partR (r1 r2 : List Rw) : Bool := (r1.zip r2).all fun p => decide (p.1 = none) || decide (p.1 = p.2)
theorem part_refl {r1 : List Rw} : partR r1 r1 = true := by
  unfold partR
  rw [List.all_eq_true]
  rintro ⟨a, b⟩ h
  have : a = b := by
    obtain ⟨i, hi⟩ := List.mem_iff_getElem?.mp h
    rw [List.getElem?_zip_eq_some] at hi
    have := hi.1.symm.trans hi.2
    injection this
  simp [this]
theorem part_iff {r1 r2 : List Rw} (hl : r1.length = r2.length) : partR r1 r2 = true ↔ ∀ (i : Nat) (a b : Rw), r1[i]? = some a → r2[i]? = some b → a = none ∨ a = b := by
  unfold partR
  rw [List.all_eq_true]
  constructor
  · intro h i a b ha hb
    have := h (a, b) (List.mem_iff_getElem?.mpr ⟨i, List.getElem?_zip_eq_some.mpr ⟨ha, hb⟩⟩)
    simpa [Bool.or_eq_true] using this
  · rintro h ⟨a, b⟩ hm
    obtain ⟨i, hi⟩ := List.mem_iff_getElem?.mp hm
    obtain ⟨ha, hb⟩ := List.getElem?_zip_eq_some.mp hi
    simpa [Bool.or_eq_true] using h i a b ha hb
theorem rafter_part {c : Nat} {r1 r2 : List Rw} (h1 : EffOk c r1) (h2 : EffOk c r2) (h : partR r1 r2 = true) {r : Rw} {i : Nat} (hr : okRw r i c = true) : rafter r r1 = none ∨ rafter r r1 = rafter r r2 := by
  cases r with
  | none => exact .inl rfl
  | some kx =>
    obtain ⟨k, x⟩ := kx
    obtain ⟨g1, g2, g3, g4⟩ := okRw_len hr k x rfl
    obtain ⟨k, rfl⟩ := nat_of g1
    have hl : r1.length = r2.length := by rw [h1.len, h2.len]
    obtain ⟨a, a1, a2, _⟩ := h1.at (i := k + x.length) (by omega)
    obtain ⟨b, b1, b2, _⟩ := h2.at (i := k + x.length) (by omega)
    rcases (part_iff hl).mp h _ a b a1 b1 with e | e
    · rcases rafter_some h1 (k := k) (x := x) (by omega) with ⟨f, _⟩ | ⟨k3, x3, f1, _⟩
      · exact .inl f
      · rw [a2, e] at f1; cases f1
    · right
      show (match r1.getD ((k : Int) + (x.length : Int)).toNat none with
        | none => none
        | some (k2, x2) => if k2 ≤ (x.length : Int) then some (0, endS x k2 ++ x2) else some (k2 - x.length, x ++ x2)) = (match r2.getD ((k : Int) + (x.length : Int)).toNat none with
        | none => none
        | some (k2, x2) => if k2 ≤ (x.length : Int) then some (0, endS x k2 ++ x2) else some (k2 - x.length, x ++ x2))
      rw [show ((k : Int) + (x.length : Int)).toNat = k + x.length by omega, a2, b2, e]
theorem prod_part {c : Nat} {r r1 r2 : List Rw} (h : EffOk c r) (h1 : EffOk c r1) (h2 : EffOk c r2) (hp : partR r1 r2 = true) : partR (prodR r r1) (prodR r r2) = true := by
  refine (part_iff (by unfold prodR; simp)).mpr fun i a b ha hb => ?_
  obtain ⟨r0, e1, rfl⟩ := prod_at ha
  obtain ⟨r0', e2, rfl⟩ := prod_at hb
  rw [e1] at e2
  injection e2 with e2
  subst e2
  exact rafter_part h1 h2 hp (h.ok i r0 e1)
/-! ### the identity and the failing effect -/
def idRows (C : Nat) : List Rw := (List.range (C + 1)).map fun (n : Nat) => some ((n : Int), Str.ofString "")
def failRows (c : Nat) : List Rw := List.replicate (c + 1) none
theorem idRows_at {c i : Nat} (hi : i ≤ c) : (idRows c)[i]? = some (some ((i : Int), Str.ofString "")) := by
  unfold idRows
  rw [List.getElem?_map, List.getElem?_range (by omega)]; rfl
theorem tl_empty : tl (Str.ofString "") = [] := by decide +kernel
theorem len_empty : (Str.ofString "").length = 0 := by decide +kernel
theorem lettersOnly_nil : lettersOnly (Str.ofString "") = true := by decide +kernel
theorem idRows_ok {c : Nat} (h1 : 1 ≤ c) (h2 : c ≤ 100) : EffOk c (idRows c) where
  c1 := h1
  c2 := h2
  len := by unfold idRows; simp
  ok := fun i r h => by
    have hi : i ≤ c := by
      have := (List.getElem?_eq_some_iff.mp h).1
      unfold idRows at this
      simp at this
      omega
    rw [idRows_at hi] at h
    injection h with h
    rw [← h]
    exact okRw_mk (by omega) (by omega) lettersOnly_nil (by rw [len_empty]; omega)
theorem failRows_ok {c : Nat} (h1 : 1 ≤ c) (h2 : c ≤ 100) : EffOk c (failRows c) where
  c1 := h1
  c2 := h2
  len := by unfold failRows; simp
  ok := fun i r h => by
    unfold failRows at h
    rw [List.getElem?_replicate] at h
    split at h
    · injection h with h; rw [← h]; rfl
    · cases h
theorem prod_id {c : Nat} {rs : List Rw} (h : EffOk c rs) : prodR rs (idRows c) = rs := by
  unfold prodR
  conv => rhs; rw [← List.map_id rs]
  refine List.map_congr_left fun r hr => ?_
  obtain ⟨i, hi, ho⟩ := h.mem hr
  cases r with
  | none => rfl
  | some kx =>
    obtain ⟨k, x⟩ := kx
    obtain ⟨g1, g2, g3, g4⟩ := okRw_len ho k x rfl
    obtain ⟨k, rfl⟩ := nat_of g1
    have hx := tl_len x
    rcases rafter_some (idRows_ok h.c1 h.c2) (k := k) (x := x) (by omega) with ⟨f, f'⟩ | ⟨k3, x3, f1, f2, f3, f4, f5⟩
    · rw [lookR (idRows_at (by omega))] at f'; cases f'
    · rw [lookR (idRows_at (by omega))] at f1
      injection f1 with f1
      injection f1 with fa fb
      have : k3 = k + x.length := by omega
      subst this
      subst fb
      rw [f5]
      by_cases hk : k + x.length ≤ x.length
      · rw [if_pos hk]
        refine rw_ext (by omega) ?_
        rw [tl_end_app, tl_empty, List.append_nil, show (tl x).length - (k + x.length) = 0 by omega]; rfl
      · rw [if_neg hk]
        refine rw_ext (by omega) ?_
        rw [tl_app, tl_empty, List.append_nil]
theorem id_prod {c : Nat} {rs : List Rw} (h : EffOk c rs) : prodR (idRows c) rs = rs := by
  refine List.ext_getElem? fun i => ?_
  unfold prodR
  rw [List.getElem?_map]
  by_cases hi : i ≤ c
  · rw [idRows_at hi]
    obtain ⟨r, e1, e2, e3⟩ := h.at hi
    rw [e1]
    show some (rafter (some ((i : Int), Str.ofString "")) rs) = some r
    have hi' : i + (Str.ofString "").length ≤ c := by rw [len_empty]; omega
    rcases rafter_some h (k := i) (x := Str.ofString "") hi' with ⟨f, f'⟩ | ⟨k3, x3, f1, f2, f3, f4, f5⟩
    · rw [len_empty, Nat.add_zero, e2] at f'
      rw [f, f']
    · rw [len_empty, Nat.add_zero, e2] at f1
      rw [f5, f1, len_empty]
      by_cases hk : k3 ≤ 0
      · rw [if_pos hk]
        congr 1
        refine rw_ext (by omega) ?_
        rw [tl_end_app, tl_empty, List.drop_nil, List.nil_append]
      · rw [if_neg hk]
        congr 1
        refine rw_ext (by omega) ?_
        rw [tl_app, tl_empty]; rfl
  · have hl := h.len
    rw [List.getElem?_eq_none (by unfold idRows; simp; omega), List.getElem?_eq_none (by omega)]; rfl
theorem fail_prod {c : Nat} {rs : List Rw} : prodR (failRows c) rs = failRows c := by
  unfold prodR failRows
  rw [List.map_replicate]; rfl
theorem prod_fail {c : Nat} {rs : List Rw} (h : EffOk c rs) : prodR rs (failRows c) = failRows c := by
  refine List.ext_getElem? fun i => ?_
  unfold prodR
  rw [List.getElem?_map]
  have hl := h.len
  by_cases hi : i ≤ c
  · obtain ⟨r, e1, e2, e3⟩ := h.at hi
    rw [e1]
    have hf : (failRows c)[i]? = some none := by unfold failRows; rw [List.getElem?_replicate, if_pos (by omega)]
    rw [hf]
    show some (rafter r (failRows c)) = some none
    congr 1
    cases r with
    | none => rfl
    | some kx =>
      obtain ⟨k, x⟩ := kx
      obtain ⟨g1, g2, g3, g4⟩ := okRw_len e3 k x rfl
      obtain ⟨k, rfl⟩ := nat_of g1
      rcases rafter_some (failRows_ok h.c1 h.c2) (k := k) (x := x) (by omega) with ⟨f, f'⟩ | ⟨k3, x3, f1, _⟩
      · exact f
      · have hf2 : (failRows c)[k + x.length]? = some none := by unfold failRows; rw [List.getElem?_replicate, if_pos (by omega)]
        rw [lookR hf2] at f1; cases f1
  · rw [List.getElem?_eq_none (by omega), List.getElem?_eq_none (by unfold failRows; simp; omega)]; rfl
end My

/-! ### own classes: made through a local name, own operators, own ==, != -/
namespace My
open PySem PySem.Spec PyProof.Rows L2
/-- x(..), x a local name that holds the class at C -/
def tMakeL (i : Nat) (C : Addr) (sp : Sp) (dvs : List V) (E : XK) (t : TA) : TE := fun σ H Q => σ[i]? = some (some (.ref C)) ∧ tMake C sp dvs E t σ H Q
section
variable {X : Cx} {CX : CXT} {k i : Nat} {f C : Addr} {fd : FuncData} {ps : List Str} {sp : Sp} {dvs : List V} {ds : List Value} {E : XK} {x : Str} {p pos : Pos} {e : Expr} {es : List Expr} {t : TA}
theorem pe_makeL (M : Mk X.K C f) (F : FnOk X.prog X.w X.K X.mg X.base CX k f fd ps sp) (hr : Room (k + 1) X.A) (hN : X.N[i]? = some x) (hv : Vis X.env.scope x) (hb : Binds X.K fd ps ds) (hd : Vals dvs ds) (hx : Passes CX X E) (ha : PA X (e :: es) t)
    (hdb : (x == ("__debug__" : Str)) = false := by decide) (hcd : (x == ("__classdict__" : Str)) = false := by decide)
    (he : starEach (e :: es) X.env = (false, eval e X.env) :: starEach es X.env := by rfl) (hpl : (backTo pos (starEach es X.env)).any (·.1) = false := by rfl) : PE X (.Call (.Name x p) (e :: es) [] pos) (tMakeL i C sp dvs E t) := by
  refine ⟨fun pins s σ H Q I h => ?_⟩
  obtain ⟨hs, ht⟩ := h
  refine wpAny_Call_Name_kw (thn ((pe_var (pos := p) hN hv hdb hcd).run pins s σ H (fun v H1 => v = .ref C ∧ H1 = H) I ⟨.ref C, hs, rfl, rfl⟩) fun u s1 ⟨v, H1, I1, r1, q1⟩ => ?_)
  obtain ⟨rfl, rfl⟩ := q1
  cases r1
  refine PySem.W.callWith_K (h₀ := X.base) I.ok.mod.kin M.kp (thn (ha.run pos pins s1 σ _ _ I1 ht) fun us s2 ⟨vs, H2, I2, r, q⟩ => ⟨I2.kIn, ?_⟩) he hpl
  exact run_make M F hr hb hd hx I2 r q
/-- a value of the layer is never NotImplemented -/
theorem ep_back {pins : List (Addr × Obj)} {σ : L2.St} {Q : VK} {w : Value} {s : Shared} (h : EP X pins σ Q w s) : PySem.W.CmpBack (EP X pins σ Q) w s := by
  obtain ⟨v, H', I, r, q⟩ := id h
  cases w <;> first | exact h | skip
  cases v <;> first | (obtain ⟨_, r⟩ := r; exact nomatch r) | exact nomatch r
/-- a + b, a * b by the class's own method -/
def rOwn (K : PySem.W.Frag) (C : Addr) (sp : Sp) (E : XK) : R2 := fun x y H Q => ∃ a dx fs b dy gs, x = .ref a ∧ y = .ref b ∧ H a = some (.ins C dx fs) ∧ H b = some (.ins C dy gs) ∧ sp [x, y] H Q E
theorem op_own {op : Operator} (F : FnOk X.prog X.w X.K X.mg X.base CX k f fd ps sp) (hr : Room k X.A) (hb : Binds X.K fd ps []) (hx : Passes CX X E) (hc : PySem.W.selfFirst X.K C = true)
    (hs : PySem.W.findIn X.K (.ref C) (PySem.dunder op.info.2) = some (some (.ref f))) (hf : PySem.W.isFn X.K (.ref f) = true) : OpR X (binaryOp op) (rOwn X.K C sp E) := by
  intro pins s σ H x y v u Q I rx ry h
  obtain ⟨a, dx, fs, b, dy, gs, rfl, rfl, ha, hb', q⟩ := h
  cases rx
  cases ry
  obtain ⟨mA, J, _⟩ := ins_get I.hok ha
  obtain ⟨mB, J', _⟩ := ins_get I.hok hb'
  obtain ⟨od, J, _⟩ := J.look
  obtain ⟨od', J', _⟩ := J'.look
  obtain ⟨m, hF⟩ := I.fr
  refine PySem.W.binop_K hF I.ok.mod.kin J J'.type hc hs hf ?_
  refine wpAny_mono (run_fn (us := [.ref a, .ref b]) (vs := [.ref a, .ref b]) (dvs := []) (ds := []) F hr hb .nil hx I (.cons rfl (.cons rfl .nil)) (by exact q)) (fun w s' z => ep_back z) fun _ _ e => e
/-- what of a built-in class the library asks where it stands at the right of an own operator -/
structure RightT (K : PySem.W.Frag) (C : Addr) (nm T : String) : Prop where
  fo : ∃ fo, PySem.W.findIn K (.type T) (PySem.dunder nm) = some fo
  ro : ∃ ro, PySem.W.findIn K (.type T) (dunderR nm) = some ro
  su : PySem.W.subIn K (.type T) (.ref C) = some false
def tyN : V → Option String
  | .non => some "NoneType"
  | .bl _ => some "bool"
  | .int _ => some "int"
  | .str _ => some "str"
  | _ => none
def rOwnT (C : Addr) (sp : Sp) (E : XK) (Ts : List String) : R2 := fun x y H Q => ∃ a dx fs T, x = .ref a ∧ H a = some (.ins C dx fs) ∧ tyN y = some T ∧ T ∈ Ts ∧ sp [x, y] H Q E
theorem op_ownT {op : Operator} {Ts : List String} (F : FnOk X.prog X.w X.K X.mg X.base CX k f fd ps sp) (hr : Room k X.A) (hb : Binds X.K fd ps []) (hx : Passes CX X E) (hc : PySem.W.selfFirst X.K C = true)
    (hs : PySem.W.findIn X.K (.ref C) (PySem.dunder op.info.2) = some (some (.ref f))) (hf : PySem.W.isFn X.K (.ref f) = true) (hno : PySem.W.findIn X.K (.ref C) (dunderR op.info.2) = some none)
    (hT : ∀ T ∈ Ts, RightT X.K C op.info.2 T) : OpR X (binaryOp op) (rOwnT C sp E Ts) := by
  intro pins s σ H x y v u Q I rx ry h
  obtain ⟨a, dx, fs, T, rfl, ha, hty, hmem, q⟩ := h
  cases rx
  obtain ⟨mA, J, _⟩ := ins_get I.hok ha
  obtain ⟨od, J, _⟩ := J.look
  obtain ⟨m, hF⟩ := I.fr
  obtain ⟨⟨fo, h1⟩, ⟨ro, h2⟩, h3⟩ := hT T hmem
  have ht : typeOf u = pure (.type T) := by
    cases y <;> first | (cases hty; done) | skip
    · cases hty; cases ry; rfl
    · cases hty; cases ry; rfl
    · cases hty; obtain ⟨t, rfl⟩ := ry; rfl
    · cases hty; obtain ⟨t, rfl⟩ := ry; rfl
  refine PySem.W.ksp_binT hF I.ok.mod.kin J ht hc hs hf hno (.inl rfl) h1 h2 h3 ?_
  refine wpAny_mono (run_fn (us := [.ref a, u]) (vs := [.ref a, y]) (dvs := []) (ds := []) F hr hb .nil hx I (.cons rfl (.cons ry .nil)) (by exact q)) (fun w s' z => ep_back z) fun _ _ e => e
/-! ### ==, != -/
/-- what == and != of an own class need -/
structure EqK (K : PySem.W.Frag) (C f : Addr) : Prop where
  eq : PySem.W.findIn K (.ref C) "__eq__" = some (some (.ref f))
  fn : PySem.W.isFn K (.ref f) = true
  ne : PySem.W.findIn K (.ref C) "__ne__" = some (some (.builtin "object.__ne__"))
  ob : PySem.W.mroIn K C (.type "object") = some true
/-- the right operand: its type comes not ahead of C -/
def tyNot (K : PySem.W.Frag) (C : Addr) (y : V) (H : Hp) : Prop := ∃ tb, TyX K H y tb ∧ PySem.W.notFirst K C tb = true
def rOwnEq (K : PySem.W.Frag) (C : Addr) (sp : Sp) (E : XK) (neg : Bool) : R2 := fun x y H Q => ∃ a dx fs, x = .ref a ∧ H a = some (.ins C dx fs) ∧ tyNot K C y H ∧ sp [x, y] H (fun v H1 => ∃ b, v = .bl b ∧ Q (.bl (b != neg)) H1) E
theorem op_ownEq (F : FnOk X.prog X.w X.K X.mg X.base CX k f fd ps sp) (hr : Room k X.A) (hb : Binds X.K fd ps []) (hx : Passes CX X E) (q : EqK X.K C f) : OpR X (compareOp .Eq) (rOwnEq X.K C sp E false) := by
  intro pins s σ H x y v u Q I rx ry h
  obtain ⟨a, dx, fs, rfl, ha, ⟨tb, hty, hnf⟩, hsp⟩ := h
  cases rx
  obtain ⟨mA, J, _⟩ := ins_get I.hok ha
  obtain ⟨od, J, _⟩ := J.look
  obtain ⟨m, hF⟩ := I.fr
  obtain ⟨P, Z, hp, _⟩ := kit_of I ry hty
  refine PySem.W.cmp_ofEq (PySem.W.cmp_K (op := .Eq) (tb := tb) hr.units0 hF I.ok.mod.kin J (Z.ty _ _ I.kIn hp) hnf q.eq q.fn ?_)
  refine wpAny_mono (run_fn (us := [.ref a, u]) (vs := [.ref a, y]) (dvs := []) (ds := []) F hr hb .nil hx I (.cons rfl (.cons ry .nil)) (by exact hsp)) (fun w s' z => ?_) fun _ _ e => e
  refine ep_back ?_
  obtain ⟨v', H', I', r', b, rfl, q'⟩ := z
  rw [Bool.bne_false] at q'
  exact ⟨.bl b, H', I', r', q'⟩
theorem run_in1 {pins : List (Addr × Obj)} {σ : L2.St} {H : Hp} {s : Shared} {Q : VK} {us : List Value} {vs : List V} (F : FnOk X.prog X.w X.K X.mg X.base CX k f fd ps sp) (hr : Room (k + 1) X.A) (hb : Binds X.K fd ps []) (hx : Passes CX X E)
    (I : Inv X pins σ H s) (r : Vals vs us) (h : sp vs H Q E) : wpAny (model X.prog X.w) X.A.in1 (call (.ref f) us) (EP X pins σ Q) X.xe s := by
  have hl : (us ++ []).length = ps.length := by rw [List.append_nil, ← r.length]; exact F.len _ _ _ _ h
  have hb2 := hb s us I.kIn hl
  rw [List.append_nil] at hb2
  refine wpAny_call (codeAny_mono (F.run X.A.in1 X.stack s H ⟨us, []⟩ us vs Q E hr.in1 I.env0.in1 hb2 r h) fun r s' hq => ?_)
  cases r with
  | error e => exact hx pins σ H s e s' I hq
  | ok fl =>
    cases fl with
    | ret u => exact I.after hq
    | next => exact False.elim hq
    | brk => exact False.elim hq
    | cont => exact False.elim hq
end
end My
namespace PySem.W
open PySem PySem.Calls PyProof.Rows Builtin
section
variable {prog : Program} {w : World} {A : Around} {E : Value → Shared → Prop} {s : Shared} {K : Frag} {x C L f : Addr} {h₀ : Heap} {m : Str → Option Value} {ox : Obj} {od : Option Obj} {b tb : Value}
theorem my_objNe {b : Value} (X : K.In s.heap) (I : InstAt s.heap x ox C od) (hs : findIn K (.ref C) "__eq__" = some (some (.ref f))) (hf : isFn K (.ref f) = true) (hu : A.units < cLine) {Q : Fin → Shared → Prop}
    (hcall : wpAny (model prog w) A (call (.ref f) [.ref x, b]) (fun v s' => ∃ b, v = .bool b ∧ Q (.done (.ret (.bool (!b)))) s') E s) :
    wpAny (model prog w) A (Builtin.«object.__ne__» ⟨[.ref x, b], []⟩) Q E s := by
  have key : ∀ {Q' : Option Value → Shared → Prop}, wpAny (model prog w) A (call (.ref f) (.ref x :: [b])) (fun v => Q' (some v)) E s → wpAny (model prog w) A (callSpecialIfBound? (.ref x) (Str.ofString "__eq__") [b]) Q' E s := fun h => ifBound_K X I hs hf h
  unfold Builtin.«object.__ne__»
  repeat (first
    | with_reducible refine wpAny_cRoomFor hu ?_
    | (refine wpAny_bind (m := callSpecialIfBound? (.ref x) (Str.ofString "__eq__") [b])
        (key (wpAny_mono hcall (fun r s' hr => by
          obtain ⟨b, rfl, hq⟩ := hr
          repeat (first | exact hq | exact wpAny_pure hq | exact wpAny_truthy_bool hq | (refine wpAny_bind (m := truthy (.bool _)) (wpAny_truthy_bool ?_)) | wp_step)) fun _ _ e => e)))
    | wp_step)
theorem ifBound_B {M : Model} {id : String} {name : Str} {args : List Value} {Q : Option Value → Shared → Prop} (X : K.In s.heap) (I : InstAt s.heap x ox C od) (hs : findIn K (.ref C) name = some (some (.builtin id)))
    (hbd : ∀ self, bindSpecial (.builtin id) self = pure (.builtin id, [self])) (h : wpAny M A (call (.builtin id) (.ref x :: args)) (fun v => Q (some v)) E s) : wpAny M A (callSpecialIfBound? (.ref x) name args) Q E s := by
  simp only [callSpecialIfBound?, bindSpecialIfBound?]
  refine wpAny_holding (wpAny_bind (wpAny_bind (wpAny_bind (I.type.here ((looks_findIn X hs).here ?_)))))
  simp only [hbd]
  refine wpAny_bind (wpAny_askSetting (wpAny_ite ?_))
  have fin : wpAny M A (call (.builtin id) ([.ref x] ++ args) >>= fun v => pure (some v)) Q E s := wpAny_bind (wpAny_mono h (fun v s' h' => wpAny_pure h') fun _ _ h' => h')
  split
  · exact wpAny_bind (wpAny_pure (wpAny_pure fin))
  · exact wpAny_tryCatch (wpAny_bind (wpAny_pure (wpAny_pure fin)))
theorem my_ne {Q : Value → Shared → Prop} (hu : A.units + 1 < cLine) (F : Fr h₀ L s.heap m) (X₀ : K.In h₀) (I : InstAt s.heap x ox C od) (hb : Looks (model prog w) s.heap (typeOf b) tb) (hn : notFirst K C tb = true)
    (hs : findIn K (.ref C) "__eq__" = some (some (.ref f))) (hf : isFn K (.ref f) = true) (hne : findIn K (.ref C) "__ne__" = some (some (.builtin "object.__ne__"))) (hob : mroIn K C (.type "object") = some true)
    (h : wpAny (model prog w) A.in1 (call (.ref f) [.ref x, b]) (fun v s' => ∃ r, v = .bool r ∧ Q (.bool (!r)) s') E s) : wpAny (model prog w) A (richCompare .NotEq (.ref x) b) Q E s := by
  have X := X₀.keeps F.keep
  have one : wpAny (model prog w) A (tryCompare (.ref x) (cmpInfo .NotEq).2.1 b) (fun r s' => ∃ v, r = some v ∧ Q v s') E s := by
    unfold tryCompare
    refine wpAny_bind (ifBound_B X I hne PySem.F.slot_object_ne.bind ?_)
    refine wpAny_call (codeAny_call_builtin PySem.F.slot_object_ne.plain PySem.F.entry_object_ne (check_slot (i := "object.__ne__") (owner := "object") (n := "__ne__") PySem.F.cmpKind_ne PySem.F.cmpSplit_ne (I.type.andThen (looks_mroIn X hob)) (PySem.F.cmpArgs_ne _ _) ?_))
    refine wpAny_mono (my_objNe (A := A.in1) (Q := fun fin s' => ∃ r, fin = .done (.ret (.bool r)) ∧ Q (.bool r) s') X I hs hf hu (wpAny_mono h (fun v s' hv => ?_) fun _ _ e => e)) (fun fin s' hf' => ?_) fun _ _ e => e
    · obtain ⟨r, rfl, hq⟩ := hv
      exact ⟨r, rfl, !r, rfl, hq⟩
    · obtain ⟨r, rfl, hq⟩ := hf'
      exact wpAny_pure ⟨_, rfl, hq⟩
  unfold richCompare
  simp only [oneThing_ref]
  refine wpAny_holding (wpAny_bind (wpAny_cRoomFor (Nat.lt_of_succ_lt hu) ?_))
  refine wpAny_bind (I.type.here (wpAny_bind (hb.here ?_)))
  split
  · rename_i q
    have e : subIn K tb (.ref C) = some false := by
      rcases Bool.or_eq_true_iff.mp hn with e | e
      · rw [beq_iff_eq.mp e] at q; simp at q
      · exact beq_iff_eq.mp e
    refine wpAny_bind ((looks_subIn X e).here ?_)
    simp only [Bool.false_eq_true, if_false]
    refine wpAny_bind (wpAny_mono one (fun r s' z => ?_) fun _ _ e => e)
    obtain ⟨v, rfl, hq⟩ := z
    exact wpAny_pure hq
  · refine wpAny_bind (wpAny_pure ?_)
    simp only [Bool.false_eq_true, if_false]
    refine wpAny_bind (wpAny_mono one (fun r s' z => ?_) fun _ _ e => e)
    obtain ⟨v, rfl, hq⟩ := z
    exact wpAny_pure hq
end
end PySem.W
namespace My
open PySem PySem.Spec PyProof.Rows L2
section
variable {X : Cx} {CX : CXT} {k i : Nat} {f C : Addr} {fd : FuncData} {ps : List Str} {sp : Sp} {dvs : List V} {ds : List Value} {E : XK} {x : Str} {p pos : Pos} {e : Expr} {es : List Expr} {t : TA}
theorem op_ownNe (F : FnOk X.prog X.w X.K X.mg X.base CX k f fd ps sp) (hr : Room (k + 1) X.A) (hb : Binds X.K fd ps []) (hx : Passes CX X E) (q : EqK X.K C f) : OpR X (compareOp .NotEq) (rOwnEq X.K C sp E true) := by
  intro pins s σ H x y v u Q I rx ry h
  obtain ⟨a, dx, fs, rfl, ha, ⟨tb, hty, hnf⟩, hsp⟩ := h
  cases rx
  obtain ⟨mA, J, _⟩ := ins_get I.hok ha
  obtain ⟨od, J, _⟩ := J.look
  obtain ⟨m, hF⟩ := I.fr
  obtain ⟨P, Z, hp, _⟩ := kit_of I ry hty
  refine PySem.W.cmp_ofNotEq (PySem.W.my_ne (tb := tb) (hu_of hr) hF I.ok.mod.kin J (Z.ty _ _ I.kIn hp) hnf q.eq q.fn q.ne q.ob ?_)
  refine wpAny_mono (run_in1 (us := [.ref a, u]) (vs := [.ref a, y]) F hr hb hx I (.cons rfl (.cons ry .nil)) hsp) (fun w s' z => ?_) fun _ _ e => e
  obtain ⟨v', H', I', r', b, rfl, q'⟩ := z
  cases r'
  rw [Bool.bne_true] at q'
  exact ⟨b, rfl, .bl (!b), H', I', rfl, q'⟩
end
/-- max of three ints -/
theorem call_max3I {X : Cx} (hc : X.calm = true) : CallR X (.builtin "max") (fun xs H Q => ∃ i j l : Int, xs = [.int i, .int j, .int l] ∧ Q (.int (max (max i j) l)) H) := by
  intro pins s σ H xs us Q I r h
  obtain ⟨i, j, l, rfl, q⟩ := h
  refine call_max3Nu hc pins s σ H _ us Q I r ⟨_, _, _, .int (max (max i j) l), rfl, ?_, q⟩
  have e : ∀ a b : Int, nuMax2 (.int a) (.int b) = some (.int (max a b)) := fun a b => by
    show some (if decide (a < b) = true then V.int b else V.int a) = _
    by_cases h : a < b
    · rw [decide_eq_true h, if_pos rfl, show max a b = b by omega]
    · rw [decide_eq_false h, if_neg (by decide), show max a b = a by omega]
  unfold nuMax3
  rw [e]
  exact e _ _
/-- t1 = t2 = t3 = t4 = e -/
def tAsg4 (te : TE) (g1 g2 g3 g4 : TG) : TS := fun D σ H => te σ H fun x H1 => g1 x σ H1 fun σ1 H2 => g2 x σ1 H2 fun σ2 H3 => g3 x σ2 H3 fun σ3 H4 => g4 x σ3 H4 D.nx
theorem ps_asg4 {X : Cx} {e : Expr} {te : TE} {pos : Pos} {t1 t2 t3 t4 : Expr} {g1 g2 g3 g4 : TG} (he : PE X e te) (h1 : PG X t1 g1) (h2 : PG X t2 g2) (h3 : PG X t3 g3) (h4 : PG X t4 g4)
    (ha : (assignEach [t1, t2, t3, t4] X.env).map (·.2) = [assign t1 X.env, assign t2 X.env, assign t3 X.env, assign t4 X.env] := by rfl) (hw : swappedStores [t1, t2, t3, t4] e X.env = pure none := by rfl) :
    PS X (.Assign [t1, t2, t3, t4] e pos) (tAsg4 te g1 g2 g3 g4) := by
  refine ⟨fun pins s σ H D I h => ?_⟩
  refine wpAny_Assign_stores (thn (he.run pins s σ H _ I h) fun v s1 ⟨x, H1, I1, r1, q1⟩ => ?_) rfl hw
  rw [ha]
  refine wpAny_bind (wpAny_holding (thn (h1.run pins s1 σ H1 x v _ I1 r1 q1) fun _ s2 ⟨σ2, H2, I2, q2⟩ => ?_))
  refine wpAny_bind (wpAny_holding (thn (h2.run pins s2 σ2 H2 x v _ I2 r1 q2) fun _ s3 ⟨σ3, H3, I3, q3⟩ => ?_))
  refine wpAny_bind (wpAny_holding (thn (h3.run pins s3 σ3 H3 x v _ I3 r1 q3) fun _ s4 ⟨σ4, H4, I4, q4⟩ => ?_))
  exact thn (h4.run pins s4 σ4 H4 x v _ I4 r1 q4) fun _ s5 q => q
end My

namespace My
open PySem PySem.Spec PyProof.Rows L2
/-! ### enumerate(a tuple) -/
section
open Builtin
variable {prog : Program} {w : World} {A : Around} {E : Value → Shared → Prop} {s : Shared}
theorem nextOf_tuple_item {it t : Addr} {i : Nat} {items} {x : Value} {Q : Value → Shared → Prop} (hit : s.heap.IsTupleIter it t i) (ht : s.heap.IsTuple t items) (hx : items[i]? = some x)
    (hQ : ∀ h', h'.IsTupleIter it t (i + 1) → Heap.SameBut it s.heap h' → Q x { s with heap := h' }) : wpAny (model prog w) A (Builtin.SmallTypes.nextOf (.ref it)) Q E s := by
  obtain ⟨o, ho, hc, hd⟩ := id hit
  obtain ⟨ol, hol, _, nl, hdl⟩ := ht
  unfold Builtin.SmallTypes.nextOf
  refine wpAny_bind (wpAny_callSpecial?_slot (name := Str.ofString "__next__") hit.typeIs PySem.F.slot_tuple_iterator_next
    (wpAny_call_entry PySem.F.slot_tuple_iterator_next hit.typeIs PySem.F.entry_tuple_iterator_next ?_ (PySem.F.args_tuple_iterator_next_1 _)))
  show wpAny _ _ (field (.ref it) 0 >>= _) _ _ s
  refine wpAny_bind (wpAny_field ho hd (x := .ref t) rfl ?_)
  show wpAny _ _ (if (Value.ref t == Value.none) = true then _ else _) _ _ s
  rw [if_neg (show ¬ ((Value.ref t == Value.none) = true) from Bool.false_ne_true)]
  show wpAny _ _ (field (.ref it) 1 >>= _) _ _ s
  refine wpAny_bind (wpAny_field ho hd (x := .int i 0) rfl ?_)
  show wpAny _ _ (seqItems? (.ref t) >>= _) _ _ s
  refine wpAny_bind (wpAny_seqItems hol hdl ?_)
  simp only [Int.toNat_natCast, hx]
  refine wpAny_bind (wpAny_setField ho hd (by simp) (wpAny_pure ⟨x, rfl, wpAny_pure (hQ _ ?_ (Heap.SameBut.update ..))⟩))
  exact ⟨_, Heap.get?_update_self _ ho (Obj.isFreed_of_fields (Obj.data_mapFields hd _)), (Obj.cls_mapFields ..).trans hc, by
    rw [Obj.data_mapFields hd]; simp [rawInt]⟩
theorem nextOf_tuple_end {it t : Addr} {i : Nat} {items} {Q : Value → Shared → Prop} (hh : A.handled = none) (hit : s.heap.IsTupleIter it t i) (ht : s.heap.IsTuple t items) (hx : items[i]? = none)
    (hE : ∀ h' e, Heap.ExtBut it s.heap h' → (∃ o, h'.get? e = some o ∧ o.cls = .type "StopIteration") → E (.ref e) { s with heap := h' }) : wpAny (model prog w) A (Builtin.SmallTypes.nextOf (.ref it)) Q E s := by
  obtain ⟨o, ho, hc, hd⟩ := id hit
  obtain ⟨ol, hol, _, nl, hdl⟩ := ht
  unfold Builtin.SmallTypes.nextOf
  refine wpAny_bind (wpAny_callSpecial?_slot (name := Str.ofString "__next__") hit.typeIs PySem.F.slot_tuple_iterator_next
    (wpAny_call_entry PySem.F.slot_tuple_iterator_next hit.typeIs PySem.F.entry_tuple_iterator_next ?_ (PySem.F.args_tuple_iterator_next_1 _)))
  show wpAny _ _ (field (.ref it) 0 >>= _) _ _ s
  refine wpAny_bind (wpAny_field ho hd (x := .ref t) rfl ?_)
  show wpAny _ _ (if (Value.ref t == Value.none) = true then _ else _) _ _ s
  rw [if_neg (show ¬ ((Value.ref t == Value.none) = true) from Bool.false_ne_true)]
  show wpAny _ _ (field (.ref it) 1 >>= _) _ _ s
  refine wpAny_bind (wpAny_field ho hd (x := .int i 0) rfl ?_)
  show wpAny _ _ (seqItems? (.ref t) >>= _) _ _ s
  refine wpAny_bind (wpAny_seqItems hol hdl ?_)
  simp only [Int.toNat_natCast, hx]
  refine wpAny_bind (wpAny_rule (wpAny_bind (wpAny_setField ho hd (by simp) ?_)))
  show wpAny _ _ (newExc (.type "StopIteration") [] >>= _) _ _ _
  refine wpAny_bind ?_
  simp only [newExc, newTuple]
  refine wpAny_bind (wpAny_newObj_type ?_ (by size_fits))
  refine wpAny_bind (m := firstArgMember _ _) (wpAny_of_eq (a := Value.none) (by first | rfl | (simp only [firstArgMember]; rfl)) ?_)
  refine wpAny_newObj_type ?_ (by size_fits)
  simp only [raiseNew]
  refine wpAny_bind (wpAny_handled ?_)
  first | rw [show A.in1.handled = none from hh] | rw [hh]
  refine wpAny_bind (wpAny_pure (wpAny_throw ?_))
  exact hE _ _ (((Heap.SameBut.update ..).extBut.push _).push _) ⟨_, Heap.get?_push_size _ rfl, rfl⟩
theorem drawsTuple (hh : A.handled = none) (it l : Addr) (hne : l ≠ it) (items : Array Value) :
    Draws prog w A it [it, l] items.size (fun i v => items[i]? = some v) (fun i h => h.IsTupleIter it l i ∧ h.IsTuple l items) where
  live := fun _ _ st => let ⟨o, ho, _⟩ := st.1; ⟨o, ho⟩
  frame := fun _ _ _ st hk => ⟨let ⟨o, e, r⟩ := st.1; ⟨o, hk it (by simp) o e, r⟩, let ⟨o, e, r⟩ := st.2; ⟨o, hk l (by simp) o e, r⟩⟩
  item := fun i s Q E hi st hQ => by
    refine nextOf_tuple_item st.1 st.2 (x := items[i]) (by simp [hi]) fun h' hit' hs' => ?_
    exact hQ _ h' s.toks (by simp [hi]) ⟨hit', st.2.extBut hs'.extBut hne⟩ hs'
  done := fun s Q E st hE => nextOf_tuple_end hh st.1 st.2 (by simp) hE
end
open AutoSeq1 (wpAny_loadPart') in
set_option maxRecDepth 100000 in
theorem meets_enumerate_newT (l : Addr) (items : Array Value) (n : Nat) (dct : Option Addr) (sl : Array (Option Value)) :
    Meets (Builtin.«enumerate.__new__» ⟨[.type "enumerate", .ref l], []⟩) (fun _ R s => s.heap.get? l = some { cls := .type "tuple", dict := dct, data := .seq items n, slots := sl } ∧
      R (.ok (.ret (.ref (s.heap.push { cls := .type "tuple_iterator", data := .fields #[.ref l, .int 0 0] }).objs.size)))
        { s with heap := (s.heap.push { cls := .type "tuple_iterator", data := .fields #[.ref l, .int 0 0] }).push { cls := .type "enumerate", data := .fields #[.none, .bool false, .ref s.heap.objs.size, rawInt 0, .none, .none] } }) :=
  .of_wp fun prog w A R s h => by
    obtain ⟨hp, g, d, tk, os⟩ := s; obtain ⟨hl, h⟩ := h
    have hsub := sub_enumerate
    have hL : Heap.IsTuple (Shared.heap ⟨hp, g, d, tk, os⟩) l items := ⟨_, hl, rfl, n, rfl⟩
    wp_walk using wpAny_loadPart' hl
    refine wpAny_stack_any fun st => wpAny_pure ?_
    split
    · rename_i c _ _ _ _ _
      cases (c == Value.type "enumerate")
      · wp_walk using wpAny_loadPart' hl, wpAny_pyIter_tuple hL
        exact ⟨_, rfl, h⟩
      · wp_walk using wpAny_loadPart' hl, wpAny_pyIter_tuple hL
        exact ⟨_, rfl, h⟩
    · wp_walk using wpAny_loadPart' hl, wpAny_pyIter_tuple hL
      exact ⟨_, rfl, h⟩
theorem call_enumerate_tuple {prog : Program} {w : World} {A : Around} {E : Value → Shared → Prop} {s : Shared} {l : Addr} {items : Array Value} {Q : Value → Shared → Prop} (hL : s.heap.IsTuple l items)
    (h : ∀ h', IsEnum h' (s.heap.objs.size + 1) s.heap.objs.size 0 .none → h'.IsTupleIter s.heap.objs.size l 0 → h'.objs.size = s.heap.objs.size + 2 →
      (∀ b o, s.heap.get? b = some o → h'.get? b = some o) → Q (.ref (s.heap.objs.size + 1)) { s with heap := h' }) :
    wpAny (model prog w) A (call (.type "enumerate") [.ref l]) Q E s := by
  obtain ⟨⟨c, dct, dt, sl⟩, hl, hc, n, hd⟩ := hL
  replace hc : c = .type "tuple" := hc
  replace hd : dt = .seq items n := hd
  subst hc hd
  refine callType_new PySem.F.called_enumerate (by decide) (PySem.F.typeCall_enumerate_1 _) (PySem.F.newCall_enumerate_1 _) (fun obj => PySem.F.args_object_init_2 obj _) PySem.F.entry_enumerate_new
    (meets_enumerate_newT l items n dct sl) ⟨hl, ?_⟩
  have hz : (s.heap.push { cls := .type "tuple_iterator", data := .fields #[.ref l, .int 0 0] }).objs.size = s.heap.objs.size + 1 := Heap.size_push ..
  show _ ∧ _
  rw [hz]
  have he : IsEnum ((s.heap.push { cls := .type "tuple_iterator", data := .fields #[.ref l, .int 0 0] }).push
      { cls := .type "enumerate", data := .fields #[.none, .bool false, .ref s.heap.objs.size, rawInt 0, .none, .none] }) (s.heap.objs.size + 1) s.heap.objs.size 0 .none := by
    have := Heap.get?_push_size (s.heap.push { cls := .type "tuple_iterator", data := .fields #[.ref l, .int 0 0] })
      (o := { cls := .type "enumerate", data := .fields #[.none, .bool false, .ref s.heap.objs.size, rawInt 0, .none, .none] }) rfl
    rw [hz] at this; exact this
  refine ⟨⟨_, he, rfl⟩, h _ he ⟨_, Heap.get?_push_of_some _ (Heap.get?_push_size _ rfl), rfl, rfl⟩ (by rw [Heap.size_push, hz]) fun b o x => Heap.get?_push_of_some _ (Heap.get?_push_of_some _ x)⟩
def Itet (K : PySem.W.Frag) (a : Addr) : It :=
  ⟨fun i H => ∃ (xs : List V) (x : V), SqT K H a xs ∧ xs[i]? = some x, fun i H v H' => ∃ T x, v = .ref T ∧ H T = none ∧ H' = upd H T (.tup [.int (i : Nat), x]) ∧ ∀ xs, SqT K H a xs → xs[i]? = some x, fun i H => ∃ xs : List V, SqT K H a xs ∧ xs.length ≤ i⟩
theorem turn_enumT {P : Program} {w : World} {K : PySem.W.Frag} {elts : List Expr} {kk : Nat} {tpos : Pos} (a e it : Addr) :
    Turn P w K (.Tuple elts kk tpos) (Itet K a) [e, it] e (fun i h => (∃ old, IsEnum h e it ((i : Nat) : Int) old) ∧ h.IsTupleIter it a i ∧ e ≠ it) where
  mem := by simp
  obj := fun i h st b hb => by
    obtain ⟨⟨old, he⟩, ⟨o, ho, hc, hd⟩, _⟩ := st
    have e' : b = e ∨ b = it := by simpa using hb
    rcases e' with z | z
    · rw [z]; exact ⟨_, he, fun v q => nomatch q⟩
    · rw [z]; exact ⟨o, ho, fun v q => by rw [hd] at q; cases q⟩
  keep := fun i h h' st k => let ⟨⟨old, he⟩, ⟨o, ho, r⟩, hne⟩ := st; ⟨⟨old, k e (by simp) _ he⟩, ⟨o, k it (by simp) o ho, r⟩, hne⟩
  item := by
    intro X hP hw hK hc i pins s σ H E I hf st hg
    subst hP hw hK
    obtain ⟨⟨old, he⟩, hit, hne⟩ := st
    obtain ⟨xs, x, hq, hx⟩ := hg
    obtain ⟨its, rv, p, hz⟩ := I.tuple hq
    obtain ⟨u, hu, ru⟩ := rv.get hx
    have hel : e < s.heap.objs.size := Heap.lt_size he
    have hil : it < s.heap.objs.size := by obtain ⟨_, q, _⟩ := hit; exact Heap.lt_size q
    have p' : s.heap.IsTuple a its.toArray := p
    have hai : a ≠ it := fun z => by
      obtain ⟨o1, e1, c1, _⟩ := p'
      obtain ⟨o2, e2, c2, _⟩ := hit
      rw [z, e2] at e1
      injection e1 with e1
      rw [← e1, c2] at c1
      injection c1 with c1
      exact absurd c1 (by decide)
    have hae : e ∉ [it, a] := fun z => by
      rcases List.mem_cons.mp z with z | z
      · exact hne z
      · have z' : e = a := by simpa using z
        obtain ⟨o1, e1, c1, _⟩ := p'
        have he2 : s.heap.get? e = _ := he
        rw [← z', he2] at e1
        injection e1 with e1
        rw [← e1] at c1
        have c2 : Value.type "enumerate" = .type "tuple" := c1
        injection c2 with c2
        exact absurd c2 (by decide)
    have hil2 : i < its.toArray.size := by
      have := (List.getElem?_eq_some_iff.mp hu).1
      simpa using this
    refine wpAny_pyNext_enum_itemD (drawsTuple (A := X.A.in1) (I.ok.hd hc) it a hai its.toArray) he ⟨hit, p'⟩ hil2 hne hae fun v h' tk hP ho hit' hT hsz hk => ?_
    have ev : v = u := by
      have : its.toArray[i]? = some u := by simpa using hu
      rw [this] at hP
      injection hP with hP
      exact hP.symm
    subst ev
    refine ⟨_, rfl, wpAny_letOwnedTupleGo_enum (s := { s with heap := h', toks := tk + 1 }) ho fun h'' he' sb => ?_⟩
    have hT2 : h''.get? s.heap.objs.size = some { cls := .type "tuple", data := .seq #[.int i tk, v] } := (sb.2 _ (Nat.ne_of_gt hel)).trans hT
    have new : ObjOk X.prog X.w (upd H s.heap.objs.size (.tup [.int (i : Nat), x])) h'' s.heap.objs.size (.tup [.int (i : Nat), x]) :=
      ⟨by show 2 ≤ sizeLine; decide, [.int i tk, v], .cons ⟨_, rfl⟩ (.cons ru .nil), ⟨_, hT2, rfl, _, rfl⟩⟩
    have I1 : Inv X pins σ (upd H s.heap.objs.size (.tup [.int (i : Nat), x])) { s with heap := h'', toks := tk + 1 } :=
      I.turnedNew (ch := [e, it]) (fun b ob hb q => (sb.2 b (fun z => hb (by simp [z]))).trans (hk b ob (fun z => hb (by simp [z])) (fun z => hb (by simp [z])) q)) hf (Nat.le_refl _) new
    refine ⟨.ref s.heap.objs.size, _, I1, rfl, ⟨_, x, rfl, I.hok.fresh (Nat.le_refl _), rfl, fun ys hy => by rw [I.tuple_inj hy hq]; exact hx⟩, ⟨⟨v, ?_⟩, ?_, hne⟩, fun b hb => ?_⟩
    · have e1 : ((i + 1 : Nat) : Int) = (i : Int) + 1 := by omega
      rw [e1]; exact he'
    · obtain ⟨⟨o, q, r⟩, _⟩ := hit'
      exact ⟨o, (sb.2 it (Ne.symm hne)).trans q, r⟩
    · have hb' : b < s.heap.objs.size := by
        have e' : b = e ∨ b = it := by simpa using hb
        rcases e' with z | z
        · rw [z]; exact hel
        · rw [z]; exact hil
      rw [upd_ne (Nat.ne_of_lt hb')]
      exact (hf b hb).1
  done := by
    intro X hP hw hK hc i pins s σ H E I hf st hg
    subst hP hw hK
    obtain ⟨⟨old, he⟩, hit, hne⟩ := st
    obtain ⟨xs, hq, hx⟩ := hg
    obtain ⟨its, rv, p, hz⟩ := I.tuple hq
    have p' : s.heap.IsTuple a its.toArray := p
    have hai : a ≠ it := fun z => by
      obtain ⟨o1, e1, c1, _⟩ := p'
      obtain ⟨o2, e2, c2, _⟩ := hit
      rw [z, e2] at e1
      injection e1 with e1
      rw [← e1, c2] at c1
      injection c1 with c1
      exact absurd c1 (by decide)
    obtain ⟨f0, f1, f2, f3, f4, f5⟩ := hf it (by simp)
    have hl := rv.length
    have hT : s.TypeIs (.ref e) "enumerate" := ⟨_, he, rfl⟩
    unfold pyNext
    refine wpAny_bind (wpAny_attempt (wpAny_callSpecial?_slot (name := Str.ofString "__next__") hT PySem.F.slot_enumerate_next
      (wpAny_call_entry PySem.F.slot_enumerate_next hT PySem.F.entry_enumerate_next ?_ (PySem.F.args_enumerate_next_1 _))))
    show wpAny _ _ (field (.ref e) 2 >>= _) _ _ _
    refine wpAny_bind (wpAny_field he rfl (x := .ref it) rfl ?_)
    refine wpAny_bind (nextOf_tuple_end (A := X.A.in1) (I.ok.hd hc) hit p' (by simp; omega) fun h' x he' hx' => ?_)
    obtain ⟨o, ho, hc'⟩ := hx'
    refine wpAny_bind (wpAny_isInstance (T := "StopIteration") (b := true) ⟨o, ho, hc'⟩ isSubtype_stop ?_)
    exact wpAny_pure ⟨rfl, I.turned (t' := s.toks) (fun b o hb q => he' b o hb q) f0 f1 f3 f4 f5⟩
  self := fun A i s Q E st h => let ⟨⟨_, he⟩, _⟩ := st; wpAny_pyIter_enum he h
/-- a list or a tuple -/
def SqX (K : PySem.W.Frag) (b : Bool) (H : Hp) (a : Addr) (xs : List V) : Prop := if b = true then SqL K H a xs else SqT K H a xs
def iEnumX (K : PySem.W.Frag) (ta : TA) : TI := fun σ H R => ta σ H fun vs H1 => ∃ a xs b, vs = [.ref a] ∧ SqX K b H1 a xs ∧ R (if b = true then Ite K a else Itet K a) H1
theorem pi_enumX {X : Cx} {e : Expr} {ta : TA} {p pos tpos : Pos} {elts : List Expr} {kk : Nat} (hg : Gl X "enumerate") (hm : X.mg "enumerate" = none) (ha : PA X [e] ta) (hs : starEach [e] X.env = [(false, eval e X.env)] := by rfl) :
    PI X (.Tuple elts kk tpos) (.Call (.Name "enumerate" p) [e] [] pos) (iEnumX X.K ta) := by
  refine ⟨fun pins s σ H R I h => ?_⟩
  refine Call_ (ld_blt I hg hm boot_enumerate (PyProof.Rows.callWith_type1 (thn (ha.run pos pins s σ H _ I h) fun us s1 ⟨vs, H1, I1, r1, q1⟩ => ?_) hs rfl))
  obtain ⟨a, xs, b, ex, hq, q⟩ := q1
  subst ex
  cases r1 with
  | cons r rr =>
    cases rr
    cases r
    have fp : ∀ {h' : Heap}, ∀ b ∈ [s1.heap.objs.size + 1, s1.heap.objs.size], FpOk X pins H1 b := fun {h'} b hb => by
      have e' : b = s1.heap.objs.size + 1 ∨ b = s1.heap.objs.size := by simpa using hb
      have hle : s1.heap.objs.size ≤ b := by
        rcases e' with z | z
        · rw [z]; exact Nat.le_add_right _ _
        · rw [z]; exact Nat.le_refl _
      exact I1.fpOk hle (I1.hok.fresh hle)
    cases b with
    | true =>
      obtain ⟨its, rv, p', hz⟩ := I1.list (show SqL X.K H1 a xs from hq)
      refine call_enumerate_list p'.isList fun h' he hit hsz hk => wpAny_pyIter_enum he ?_
      have I2 : Inv X pins σ H1 { s1 with heap := h' } := I1.kept (t' := s1.toks) hk
      exact ⟨s1.heap.objs.size + 1, [s1.heap.objs.size + 1, s1.heap.objs.size], _, _, H1, rfl, I2, turn_enum a (s1.heap.objs.size + 1) s1.heap.objs.size, ⟨⟨.none, he⟩, hit, Nat.succ_ne_self _⟩, fp (h' := h'), q⟩
    | false =>
      obtain ⟨its, rv, p', hz⟩ := I1.tuple (show SqT X.K H1 a xs from hq)
      refine call_enumerate_tuple (show s1.heap.IsTuple a its.toArray from p') fun h' he hit hsz hk => wpAny_pyIter_enum he ?_
      have I2 : Inv X pins σ H1 { s1 with heap := h' } := I1.kept (t' := s1.toks) hk
      exact ⟨s1.heap.objs.size + 1, [s1.heap.objs.size + 1, s1.heap.objs.size], _, _, H1, rfl, I2, turn_enumT a (s1.heap.objs.size + 1) s1.heap.objs.size, ⟨⟨.none, he⟩, hit, Nat.succ_ne_self _⟩, fp (h' := h'), q⟩
/-- for i, x in enumerate(a list or a tuple) -/
theorem forEX {K : PySem.W.Frag} {ta : TA} {g : TG} {tb : TS} {D : Ends} {σ : L2.St} {H : Hp}
    (h : ∀ R : List V → Hp → Prop, (∀ (b : Bool) (a : Addr) (xs : List V) (Pv : Nat → L2.St → Hp → Prop) (H1 : Hp), SqX K b H1 a xs → Pv 0 σ H1 → (∀ i σ H, i ≤ xs.length → Pv i σ H → SqX K b H a xs) →
      (∀ i x σ H T, xs[i]? = some x → Pv i σ H → H T = none → g (.ref T) σ (upd H T (.tup [.int (i : Nat), x])) fun σ2 H2 => tb { D with nx := Pv (i + 1), ct := Pv (i + 1), bk := D.nx } σ2 H2) → (∀ σ H, Pv xs.length σ H → D.nx σ H) → R [.ref a] H1) → ta σ H R) : tFor (iEnumX K ta) g tb D σ H :=
  h _ fun b a xs Pv H1 hq h0 hl hs hd => ⟨a, xs, b, rfl, hq, by
    refine ⟨fun i m σ H => m = xs.length - i ∧ i ≤ xs.length ∧ Pv i σ H, ⟨xs.length, by simp, Nat.zero_le _, h0⟩, ?_⟩
    rintro i m σ H ⟨rfl, hi, p⟩
    have hqi := hl i σ H hi p
    by_cases hlt : i < xs.length
    · have hx : xs[i]? = some xs[i] := List.getElem?_eq_getElem hlt
      refine .inr ⟨?_, Pv (i + 1), fun σ' H' p' => ⟨xs.length - (i + 1), by omega, rfl, hlt, p'⟩, fun v H' y => ?_⟩
      · cases b with
        | true => exact ⟨xs, _, hqi, hx⟩
        | false => exact ⟨xs, _, hqi, hx⟩
      · cases b with
        | true =>
          obtain ⟨T, x, ev, hT, eH, hc⟩ := y
          subst ev
          subst eH
          exact hs i x σ H T (hc xs hqi) p hT
        | false =>
          obtain ⟨T, x, ev, hT, eH, hc⟩ := y
          subst ev
          subst eH
          exact hs i x σ H T (hc xs hqi) p hT
    · have e : i = xs.length := by omega
      subst e
      refine .inl ⟨?_, hd σ H p⟩
      cases b with
      | true => exact ⟨xs, hqi, Nat.le_refl _⟩
      | false => exact ⟨xs, hqi, Nat.le_refl _⟩⟩
/-! ### x[i], x(..) of an own class -/
section
variable {X : Cx} {CX : CXT} {k i : Nat} {f C : Addr} {fd : FuncData} {ps : List Str} {sp : Sp} {E : XK} {p pos : Pos} {a b : Expr} {ta tb : TE}
/-- what x[i] of an own class needs -/
structure ItemK (K : PySem.W.Frag) (C f : Addr) : Prop where
  at_ : PySem.W.findIn K (.ref C) "__getitem__" = some (some (.ref f))
  fi : PySem.W.fnIn K f = true
  fn : PySem.W.isFn K (.ref f) = true
def rIxOwn (C : Addr) (sp : Sp) (E : XK) : R2 := fun x y H Q => ∃ a dx fs, x = .ref a ∧ H a = some (.ins C dx fs) ∧ sp [x, y] H Q E
theorem pe_ixOwn (F : FnOk X.prog X.w X.K X.mg X.base CX k f fd ps sp) (hr : Room (k + 1) X.A) (hb : Binds X.K fd ps []) (hx : Passes CX X E) (g : ItemK X.K C f) (pa : PE X a ta) (pb : PE X b tb)
    (hs : ∀ o i, subscripted b true o i = runValue (.builtin "lifetime.subscript" ⟨[o, i], []⟩) := by intro _ _; rfl) : PE X (.Subscript a b pos) (tOp (rIxOwn C sp E) ta tb) := by
  refine ⟨fun pins s σ H Q I h => ?_⟩
  refine Subscript_ (binT pa pb I h fun v u s2 x y H2 I2 rx ry q => ?_)
  obtain ⟨a', dx, fs, rfl, ha, q⟩ := q
  cases rx
  obtain ⟨mA, J, _⟩ := ins_get I2.hok ha
  obtain ⟨od, J, _⟩ := J.look
  obtain ⟨m, hF⟩ := I2.fr
  exact PySem.W.sub_K hF I2.ok.mod.kin J g.at_ g.fi g.fn (run_in1 (us := [.ref a', u]) (vs := [.ref a', y]) F hr hb hx I2 (.cons rfl (.cons ry .nil)) q) (hs _ _)
theorem raw0 {P : Program} {w : World} {K : PySem.W.Frag} {mg : Str → Option Value} {base : Heap} {CX : CXT} {k : Nat} {f : Addr} {sp : Sp} {fd : FuncData} {ps : List Str} (F : FnOk P w K mg base CX k f fd ps sp) (hb : Binds K fd ps []) : FnR P w K mg base CX k f sp :=
  (FnOk.raw F hb .nil).imp fun vs H Q E h => by rw [List.append_nil]; exact h
/-- o(..), o an instance of C -/
def tCallI (C : Addr) (sp : Sp) (E : XK) (tf : TE) (t : TA) : TE := fun σ H Q => tf σ H fun y H1 => ∃ a, y = .ref a ∧ t σ H1 fun vs H2 => (∃ dx fs, H2 a = some (.ins C dx fs)) ∧ sp (.ref a :: vs) H2 Q E
theorem pe_callI {fe e : Expr} {es : List Expr} {tf : TE} {t : TA} {g : Addr} (hf : PE X fe tf) (c : StX.CallO X.K C g) (F : FnR X.prog X.w X.K X.mg X.base CX k g sp) (hr : Room k X.A) (hx : Passes CX X E) (ha : PA X (e :: es) t)
    (ht : eval (.Call fe (e :: es) [] pos) X.env = (do callWith pos (← eval fe X.env) [] (backTo pos (starEach (e :: es) X.env)) (backToKw pos (keywordEach [] X.env))) := by rfl)
    (he : starEach (e :: es) X.env = (false, eval e X.env) :: starEach es X.env := by rfl) (hpl : (backTo pos (starEach es X.env)).any (·.1) = false := by rfl) : PE X (.Call fe (e :: es) [] pos) (tCallI C sp E tf t) := by
  refine ⟨fun pins s σ H Q I h => ?_⟩
  refine Call_ (thn (hf.run pins s σ H _ I h) fun u s1 ⟨y, H1, I1, ry, a, ey, q⟩ => ?_) ht
  subst ey
  obtain rfl : u = Value.ref a := ry
  refine StX.callO_with (thn (ha.run pos pins s1 σ H1 _ I1 q) fun us s2 ⟨vs, H2, I2, r, hi, q2⟩ => ?_) he hpl
  obtain ⟨ox, od, J, hd⟩ := StX.insC_at I2 (.inr hi)
  exact ⟨⟨C, ox, od, J, hd⟩, StX.run_callO c F hr hx I2 (.inr hi) r q2⟩
end
end My

namespace My
open PySem L2 TL RZ
/-- [e for x, y in zip(a tuple, a tuple)] of one length -/
theorem lcZT {K : PySem.W.Frag} {ta : TA} {g : TG} {tt : TT} {te : TE} {vs : List Nat} {σ : L2.St} {H : Hp} {Q : VK}
    (h : ∀ R : List V → Hp → Prop, (∀ (a b : Addr) (xs ys : List V) (H1 : Hp), SqT K H1 a xs → SqT K H1 b ys → xs.length = ys.length → (∀ D, H1 D = none → ∃ Pv : Nat → Hp → Prop, Pv 0 (upd H1 D (.lst [])) ∧ (∀ i H, i ≤ xs.length → Pv i H → SqT K H a xs ∧ SqT K H b ys) ∧
      (∀ i x y H T, xs[i]? = some x → ys[i]? = some y → Pv i H → H T = none → g (.ref T) (wipe σ vs) (upd H T (.tup [x, y])) fun σ2 H2 => wipe σ2 vs = wipe σ vs ∧ tt σ2 H2 fun b H3 =>
        if b = true then te σ2 H3 fun y H4 => ∃ acc, H4 D = some (.lst acc) ∧ acc.length < sizeLine ∧ Pv (i + 1) (upd H4 D (.lst (acc ++ [y]))) else Pv (i + 1) H3) ∧ ∀ H, Pv xs.length H → Q (.ref D) H) → R [.ref a, .ref b] H1) → ta σ H R) : tLc (iZipA K ta) g tt te vs σ H Q :=
  h _ fun a b xs ys H1 hs hs2 hlen hk => ⟨a, b, xs, ys, rfl, .inr ⟨hs, hs2, fun D hD => by
    obtain ⟨Pv, h0, hl, hst, hd⟩ := hk D hD
    refine ⟨fun i m H => m = xs.length - i ∧ i ≤ xs.length ∧ Pv i H, ⟨xs.length, by simp, Nat.zero_le _, h0⟩, ?_⟩
    rintro i m H ⟨rfl, hi, p⟩
    obtain ⟨q1, q2⟩ := hl i H hi p
    by_cases hlt : i < xs.length
    · have e1 : xs[i]? = some xs[i] := List.getElem?_eq_getElem hlt
      have hlt2 : i < ys.length := by omega
      have e2 : ys[i]? = some ys[i] := List.getElem?_eq_getElem hlt2
      refine .inr ⟨⟨xs, ys, _, _, q1, q2, e1, e2⟩, Pv (i + 1), fun H' p' => ⟨xs.length - (i + 1), by omega, rfl, hlt, p'⟩, fun v H' y => ?_⟩
      obtain ⟨T, x, y', ev, hT, eH, c1, c2⟩ := y
      subst ev
      subst eH
      exact hst i x y' H T (c1 xs q1) (c2 ys q2) p hT
    · have e : i = xs.length := by omega
      subst e
      exact .inl ⟨⟨xs, ys, q1, q2, .inl (Nat.le_refl _)⟩, hd H p⟩⟩⟩
end My
namespace My
open PySem L2 TL
theorem op_eqDK {X : Cx} {K : PySem.W.Frag} (h : X.K = K) (hu : X.A.units + 64 < cLine) : OpR X (compareOp .Eq) (rEqD K) := by
  subst h
  exact op_eqD hu
theorem op_neDK {X : Cx} {K : PySem.W.Frag} (h : X.K = K) (hu : X.A.units + 64 < cLine) : OpR X (compareOp .NotEq) (rNeD K) := by
  subst h
  exact op_neD hu
end My

set_option maxHeartbeats 4000000
/-! ### profiles: numbers, the sum, the product -/
namespace My
open PySem
structure Prf where
  puts : Int
  takes : Int
  low : Int
  high : Int
  fall : Int
namespace Prf
def off (p : Prf) : Int := p.puts - p.takes
def zero : Prf := ⟨0, 0, 0, 0, 0⟩
def pstp (p : Prf) (c : Nat) : Prf :=
  let o := p.off + (if c = 45 then -1 else 1)
  ⟨p.puts + (if c = 45 then 0 else 1), p.takes + (if c = 45 then 1 else 0), min p.low o, max p.high o, max p.fall (max p.high o - o)⟩
def add (p q : Prf) : Prf := ⟨p.puts + q.puts, p.takes + q.takes, min p.low (p.off + q.low), max p.high (p.off + q.high), max (max p.fall q.fall) (p.high - (p.off + q.low))⟩
def mul (p : Prf) (n : Int) : Prf :=
  if n = 0 then zero else
  let ls := p.off * (n - 1)
  ⟨p.puts * n, p.takes * n, p.low + min 0 ls, p.high + max 0 ls, if n = 1 then p.fall else max (max p.fall ((p.high - p.low) - p.off)) ((p.high - p.low) - ls)⟩
structure Ok (p : Prf) : Prop where
  p0 : 0 ≤ p.puts
  t0 : 0 ≤ p.takes
  l0 : p.low ≤ 0
  h0 : 0 ≤ p.high
  lo : p.low ≤ p.off
  oh : p.off ≤ p.high
  f1 : p.high - p.off ≤ p.fall
  f2 : -p.low ≤ p.fall
  f3 : p.fall ≤ p.high - p.low
theorem ext {p q : Prf} (h1 : p.puts = q.puts) (h2 : p.takes = q.takes) (h3 : p.low = q.low) (h4 : p.high = q.high) (h5 : p.fall = q.fall) : p = q := by
  cases p; cases q; simp only at h1 h2 h3 h4 h5; subst h1; subst h2; subst h3; subst h4; subst h5; rfl
theorem ok_zero : zero.Ok := by constructor <;> decide
theorem ok_pstp {p : Prf} (h : p.Ok) (c : Nat) : (p.pstp c).Ok := by
  obtain ⟨a, b, d, e, f, g, i, j, k⟩ := h
  unfold off at *
  unfold pstp off
  by_cases hc : c = 45
  · simp only [hc, if_true]
    constructor <;> simp only [off] <;> omega
  · simp only [hc, if_false]
    constructor <;> simp only [off] <;> omega
theorem add_pstp (p q : Prf) (c : Nat) : (p.add q).pstp c = p.add (q.pstp c) := by
  have ho : (p.add q).off = p.off + q.off := by simp only [add, off]; omega
  have hq : (q.pstp c).off = q.off + (if c = 45 then -1 else 1) := by simp only [pstp, off]; split <;> omega
  unfold pstp
  rw [ho]
  refine ext ?_ ?_ ?_ ?_ ?_
  · simp only [add]; omega
  · simp only [add]; omega
  · simp only [add]; split <;> omega
  · simp only [add]; split <;> omega
  · simp only [add]
    generalize (if c = 45 then (-1 : Int) else 1) = d
    generalize p.off = po
    generalize q.off = qo
    omega
theorem add_zero {p : Prf} (h : p.Ok) : p.add zero = p := by
  obtain ⟨a, b, d, e, f, g, i, j, k⟩ := h
  refine ext ?_ ?_ ?_ ?_ ?_ <;> simp only [add, zero] <;> omega
theorem zero_add {p : Prf} (h : p.Ok) : zero.add p = p := by
  obtain ⟨a, b, d, e, f, g, i, j, k⟩ := h
  refine ext ?_ ?_ ?_ ?_ ?_ <;> simp only [add, zero, off] <;> omega
theorem off_add (p q : Prf) : (p.add q).off = p.off + q.off := by simp only [add, off]; omega
theorem ok_add {p q : Prf} (h : p.Ok) (h' : q.Ok) : (p.add q).Ok := by
  have ho := off_add p q
  obtain ⟨a, b, d, e, f, g, i, j, k⟩ := h
  obtain ⟨a', b', d', e', f', g', i', j', k'⟩ := h'
  constructor <;> (try rw [ho]) <;> simp only [add] <;> omega
theorem add_assoc (p q r : Prf) : (p.add q).add r = p.add (q.add r) := by
  have ho := off_add p q
  have h2 := off_add q r
  refine ext ?_ ?_ ?_ ?_ ?_
  · simp only [add]; omega
  · simp only [add]; omega
  · show min (p.add q).low ((p.add q).off + r.low) = min p.low (p.off + (q.add r).low)
    rw [ho]; simp only [add]; omega
  · show max (p.add q).high ((p.add q).off + r.high) = max p.high (p.off + (q.add r).high)
    rw [ho]; simp only [add]; omega
  · show max (max (p.add q).fall r.fall) ((p.add q).high - ((p.add q).off + r.low)) = max (max p.fall (q.add r).fall) (p.high - (p.off + (q.add r).low))
    rw [ho]; simp only [add]; omega
theorem off_mul (p : Prf) (n : Nat) : (p.mul n).off = p.off * n := by
  unfold mul
  by_cases h : (n : Int) = 0
  · rw [if_pos h, h, Int.mul_zero]; rfl
  · rw [if_neg h]; simp only [off]; rw [Int.sub_mul]
theorem mul_succ {p : Prf} (h : p.Ok) (n : Nat) : (p.mul n).add p = p.mul (n + 1 : Nat) := by
  have ho := off_mul p n
  obtain ⟨a, b, d, e, f, g, i, j, k⟩ := h
  cases n with
  | zero =>
    rw [show p.mul (0 : Nat) = zero from rfl]
    unfold mul
    simp only [Nat.zero_add, Int.natCast_one, Int.sub_self, Int.mul_zero, Int.mul_one]
    refine ext ?_ ?_ ?_ ?_ ?_ <;> simp only [add, zero, off] <;> simp <;> omega
  | succ m =>
    have x1 : ((m + 1 + 1 : Nat) : Int) - 1 = ((m : Int) + 1) := by omega
    have x2 : ((m + 1 : Nat) : Int) - 1 = (m : Int) := by omega
    have x3 : p.off * ((m : Int) + 1) = p.off * m + p.off := by rw [Int.mul_add, Int.mul_one]
    have n0 : ¬ ((m + 1 + 1 : Nat) : Int) = 0 := by omega
    have n1 : ¬ ((m + 1 : Nat) : Int) = 0 := by omega
    have n2 : ¬ ((m + 1 + 1 : Nat) : Int) = 1 := by omega
    have hpos : 0 ≤ p.off → 0 ≤ p.off * (m : Int) := fun h => Int.mul_nonneg h (Int.natCast_nonneg m)
    have hneg : p.off ≤ 0 → p.off * (m : Int) ≤ 0 := fun h => Int.mul_nonpos_of_nonpos_of_nonneg h (Int.natCast_nonneg m)
    have hpos1 : 1 ≤ m → 0 ≤ p.off → p.off ≤ p.off * (m : Int) := fun hm h => by
      have := Int.mul_le_mul_of_nonneg_left (a := 1) (b := (m : Int)) (c := p.off) (by omega) h
      rwa [Int.mul_one] at this
    have y1 : p.puts * ((m + 1 + 1 : Nat) : Int) = p.puts * ((m + 1 : Nat) : Int) + p.puts := by rw [show ((m + 1 + 1 : Nat) : Int) = ((m + 1 : Nat) : Int) + 1 by omega, Int.mul_add, Int.mul_one]
    have y2 : p.takes * ((m + 1 + 1 : Nat) : Int) = p.takes * ((m + 1 : Nat) : Int) + p.takes := by rw [show ((m + 1 + 1 : Nat) : Int) = ((m + 1 : Nat) : Int) + 1 by omega, Int.mul_add, Int.mul_one]
    have y3 : p.off * ((m + 1 : Nat) : Int) = p.off * m + p.off := by rw [show ((m + 1 : Nat) : Int) = (m : Int) + 1 by omega, x3]
    rw [y3] at ho
    have em : p.mul (m + 1 + 1 : Nat) = ⟨p.puts * ((m + 1 + 1 : Nat) : Int), p.takes * ((m + 1 + 1 : Nat) : Int), p.low + min 0 (p.off * m + p.off), p.high + max 0 (p.off * m + p.off), max (max p.fall ((p.high - p.low) - p.off)) ((p.high - p.low) - (p.off * m + p.off))⟩ := by
      unfold mul; simp only [n0, n2, if_false, x1, x3]
    have en : p.mul (m + 1 : Nat) = ⟨p.puts * ((m + 1 : Nat) : Int), p.takes * ((m + 1 : Nat) : Int), p.low + min 0 (p.off * m), p.high + max 0 (p.off * m), if ((m + 1 : Nat) : Int) = 1 then p.fall else max (max p.fall ((p.high - p.low) - p.off)) ((p.high - p.low) - (p.off * m))⟩ := by
      unfold mul; simp only [n1, if_false, x2]
    rw [em]
    unfold add
    rw [ho, en]
    have hz : m = 0 → p.off * (m : Int) = 0 := fun h => by rw [h]; exact Int.mul_zero _
    generalize p.off * (m : Int) = z at *
    generalize p.off = o at *
    refine ext ?_ ?_ ?_ ?_ ?_
    · simp only; omega
    · simp only; omega
    · simp only
      rcases Int.le_total 0 o with q | q
      · have := hpos q; omega
      · have := hneg q; omega
    · simp only
      rcases Int.le_total 0 o with q | q
      · have := hpos q; omega
      · have := hneg q; omega
    · simp only
      by_cases hm : m = 0
      · subst hm
        have z0 : z = 0 := hz rfl
        rw [if_pos (by rfl), z0]
        omega
      · rw [if_neg (by omega)]
        rcases Int.le_total 0 o with q | q
        · have := hpos1 (by omega) q; omega
        · have := hneg q; omega
theorem ok_mul {p : Prf} (h : p.Ok) : ∀ n : Nat, (p.mul n).Ok
  | 0 => ok_zero
  | n + 1 => by rw [← mul_succ h]; exact ok_add (ok_mul h n) h
end Prf
open Prf
def prof (s : List Nat) : Prf := s.foldl pstp zero
theorem prof_ok_from : ∀ (s : List Nat) {p : Prf}, p.Ok → (s.foldl pstp p).Ok
  | [], _, h => h
  | c :: s, _, h => prof_ok_from s (ok_pstp h c)
theorem prof_ok (s : List Nat) : (prof s).Ok := prof_ok_from s ok_zero
theorem foldl_add (p : Prf) : ∀ (s : List Nat) (q : Prf), s.foldl pstp (p.add q) = p.add (s.foldl pstp q)
  | [], _ => rfl
  | c :: s, q => by rw [List.foldl_cons, List.foldl_cons, add_pstp, foldl_add p s]
theorem prof_app (a b : List Nat) : prof (a ++ b) = (prof a).add (prof b) := by
  unfold prof
  rw [List.foldl_append]
  have := foldl_add (a.foldl pstp zero) b zero
  have e : (a.foldl pstp zero).add zero = a.foldl pstp zero := add_zero (prof_ok a)
  rw [e] at this
  exact this
theorem prof_rep (a : List Nat) : ∀ n : Nat, prof (List.replicate n a).flatten = (prof a).mul n
  | 0 => rfl
  | n + 1 => by
    rw [List.replicate_succ', List.flatten_append, prof_app, prof_rep a n, List.flatten_cons, List.flatten_nil, List.append_nil, mul_succ (prof_ok a)]
theorem prof_take (s : List Nat) (k : Nat) (c : Nat) (h : s[k]? = some c) : prof (s.take (k + 1)) = (prof (s.take k)).pstp c := by
  have : s.take (k + 1) = s.take k ++ [c] := by rw [List.take_add_one, h]; rfl
  unfold prof
  rw [this, List.foldl_append]
  rfl
/-- the offset after the first i steps -/
def ofs (s : List Nat) (i : Nat) : Int := (prof (s.take i)).off
theorem low_le (s : List Nat) : ∀ k : Nat, k ≤ s.length → (∀ i, i ≤ k → (prof (s.take k)).low ≤ ofs s i) ∧ ∃ i, i ≤ k ∧ (prof (s.take k)).low = ofs s i
  | 0, _ => ⟨fun i hi => by rw [show i = 0 by omega]; exact Int.le_refl _, 0, Nat.le_refl _, rfl⟩
  | k + 1, h => by
    obtain ⟨h1, j, hj, h2⟩ := low_le s k (by omega)
    obtain ⟨c, hc⟩ : ∃ c, s[k]? = some c := ⟨_, List.getElem?_eq_getElem (by omega)⟩
    have e := prof_take s k c hc
    have eo : ofs s (k + 1) = (prof (s.take k)).off + (if c = 45 then -1 else 1) := by unfold ofs; rw [e]; simp only [pstp, off]; split <;> omega
    have el : (prof (s.take (k + 1))).low = min (prof (s.take k)).low (ofs s (k + 1)) := by rw [e, eo]; rfl
    rw [el]
    refine ⟨fun i hi => ?_, ?_⟩
    · by_cases q : i = k + 1
      · rw [q]; omega
      · have := h1 i (by omega); omega
    · by_cases q : (prof (s.take k)).low ≤ ofs s (k + 1)
      · exact ⟨j, by omega, by omega⟩
      · exact ⟨k + 1, Nat.le_refl _, by omega⟩
theorem high_ge (s : List Nat) : ∀ k : Nat, k ≤ s.length → (∀ i, i ≤ k → ofs s i ≤ (prof (s.take k)).high) ∧ ∃ i, i ≤ k ∧ (prof (s.take k)).high = ofs s i
  | 0, _ => ⟨fun i hi => by rw [show i = 0 by omega]; exact Int.le_refl _, 0, Nat.le_refl _, rfl⟩
  | k + 1, h => by
    obtain ⟨h1, j, hj, h2⟩ := high_ge s k (by omega)
    obtain ⟨c, hc⟩ : ∃ c, s[k]? = some c := ⟨_, List.getElem?_eq_getElem (by omega)⟩
    have e := prof_take s k c hc
    have eo : ofs s (k + 1) = (prof (s.take k)).off + (if c = 45 then -1 else 1) := by unfold ofs; rw [e]; simp only [pstp, off]; split <;> omega
    have el : (prof (s.take (k + 1))).high = max (prof (s.take k)).high (ofs s (k + 1)) := by rw [e, eo]; rfl
    rw [el]
    refine ⟨fun i hi => ?_, ?_⟩
    · by_cases q : i = k + 1
      · rw [q]; omega
      · have := h1 i (by omega); omega
    · by_cases q : ofs s (k + 1) ≤ (prof (s.take k)).high
      · exact ⟨j, by omega, by omega⟩
      · exact ⟨k + 1, Nat.le_refl _, by omega⟩
theorem prof_takes (s : List Nat) : (prof s).takes = (s.count 45 : Nat) ∧ (prof s).puts = (s.length : Int) - (s.count 45 : Nat) := by
  have gen : ∀ (s : List Nat) (p : Prf), (s.foldl pstp p).takes = p.takes + (s.count 45 : Nat) ∧ (s.foldl pstp p).puts = p.puts + (s.length : Int) - (s.count 45 : Nat) := by
    intro s
    induction s with
    | nil => intro p; simp
    | cons c s ih =>
      intro p
      obtain ⟨h1, h2⟩ := ih (p.pstp c)
      rw [List.foldl_cons, h1, h2, List.count_cons, List.length_cons]
      by_cases hc : c = 45
      · simp only [pstp, hc, if_true, beq_self_eq_true]; omega
      · simp only [pstp, hc, if_false, beq_iff_eq]; omega
  have := gen s zero
  simp only [zero, Int.zero_add] at this
  exact this
theorem prof_bound (s : List Nat) : ∀ n : Nat, s.length ≤ n → (prof s).puts ≤ n ∧ (prof s).takes ≤ n ∧ -(n : Int) ≤ (prof s).low ∧ (prof s).high ≤ n ∧ (prof s).fall ≤ 2 * n := by
  intro n hn
  have h1 := prof_takes s
  have h2 := low_le s s.length (Nat.le_refl _)
  have h3 := high_ge s s.length (Nat.le_refl _)
  have h4 := (prof_ok s)
  have hc : s.count 45 ≤ s.length := List.count_le_length
  rw [List.take_length] at h2 h3
  have ob : ∀ i, i ≤ s.length → -(n : Int) ≤ ofs s i ∧ ofs s i ≤ n := fun i hi => by
    have q := prof_takes (s.take i)
    have q2 : (s.take i).count 45 ≤ (s.take i).length := List.count_le_length
    have q3 : (s.take i).length ≤ s.length := by rw [List.length_take]; omega
    unfold ofs off
    rw [q.1, q.2]
    omega
  obtain ⟨i, hi, ei⟩ := h2.2
  obtain ⟨j, hj, ej⟩ := h3.2
  have a1 := ob i hi
  have a2 := ob j hj
  have a3 := h4.f3
  refine ⟨by omega, by omega, by omega, by omega, by omega⟩
end My

namespace My
open PySem L2 TL
theorem vals_take {vs : List V} {us : List Value} (h : Vals vs us) : ∀ n, Vals (vs.take n) (us.take n) := by
  induction h with
  | nil => intro n; cases n <;> exact .nil
  | cons r _ ih =>
    intro n
    cases n with
    | zero => exact .nil
    | succ n => exact .cons r (ih n)
theorem vals_drop {vs : List V} {us : List Value} (h : Vals vs us) : ∀ n, Vals (vs.drop n) (us.drop n) := by
  induction h with
  | nil => intro n; cases n <;> exact .nil
  | cons r h ih =>
    intro n
    cases n with
    | zero => exact .cons r h
    | succ n => exact ih n
theorem kbn_mk {K : PySem.W.Frag} {x qual : Str} {st : Stmt} {f : Addr} {oc : Value} {od an : Option Addr} {osl : Array (Option Value)} {kV doc pm cdv ct : Value} {ps : List Str} {ks : List Str}
    (l : K.lookup f = some ⟨oc, od, .func (PySem.W.fnOf x qual (defArgs st) (defBody st) (defScope st) .none kV doc pm an cdv ct), osl⟩)
    (h : ∀ us ws : List Value, us.length = 1 → ws.length = ks.length → bindArgs (PySem.W.fnOf x qual (defArgs st) (defBody st) (defScope st) .none kV doc pm an cdv ct) ⟨us, ks.zip ws⟩ = pure (ps.zip (us ++ (ws.drop 3 ++ ws.take 3)))) :
    KBn K (PySem.W.fnOf x qual (defArgs st) (defBody st) (defScope st) .none kV doc pm an cdv ct) ps 1 ks (fun us ws => us ++ (ws.drop 3 ++ ws.take 3)) (fun us ws => us ++ (ws.drop 3 ++ ws.take 3)) :=
  ⟨fun s us ws _ l1 l2 => .of_eq (h us ws l1 l2), fun r1 r2 => r1.append ((vals_drop r2 3).append (vals_take r2 3))⟩
/-- what an except clause wishes at all slots -/
def WA (W : WX) : XK := fun cls d H => ∀ σ, W cls d σ H
theorem passAll {X : Cx} {W : WX} (tk : Takes X W) : Passes (L2.CX X.prog X.w) X (WA W) := fun _ σ _ _ e s' I c => tk e s' (XE.of_call I (fun _ _ _ h => h σ) c)
/-- at every slots of the caller's number -/
def WN (n : Nat) (W : WX) : XK := fun cls d H => ∀ σ : L2.St, σ.length = n → W cls d σ H
theorem passLen {X : Cx} {W : WX} {n : Nat} (tk : Takes X W) (hn : X.N.length = n) : Passes (L2.CX X.prog X.w) X (WN n W) := fun _ σ _ _ e s' I c => tk e s' (XE.of_call I (fun _ _ _ h => h σ (by rw [I.len, hn])) c)
theorem len_three {α : Type} {σ : List α} (h : σ.length = 3) : ∃ a b c, σ = [a, b, c] := by
  match σ, h with
  | [a, b, c], _ => exact ⟨a, b, c, rfl⟩
/-- x.replace("-", ""), x.count("-") -/
theorem replL_one (c : Nat) : ∀ l : List Nat, PySem.StrLaws.replL [c] [] l = l.filter (fun x => decide (x ≠ c))
  | [] => PySem.StrLaws.replL_nil
  | x :: l => by
    by_cases h : x = c
    · subst h
      rw [PySem.StrLaws.replL_hit (by simp) (by simp), List.filter_cons, if_neg (by simp)]
      simpa using replL_one x l
    · rw [PySem.StrLaws.replL_miss (by simpa using h), List.filter_cons, if_pos (by simpa using h), replL_one c l]
theorem replace_one (x : Str) : tl (Txt.replace x ("-" : Str) ("" : Str)) = (tl x).filter (fun c => decide (c ≠ 45)) := by
  have h := PySem.StrLaws.replace_list (x := x) (y := ("-" : Str)) (z := ("" : Str)) (by decide +kernel)
  show (Txt.replace x ("-" : Str) ("" : Str)).cps.toList = _
  rw [h, show ("-" : Str).cps.toList = [45] from by decide +kernel, show ("" : Str).cps.toList = [] from by decide +kernel, replL_one]
open Builtin Builtin.Str in
theorem count_one (x : Str) : Txt.count x ("-" : Str) = ((tl x).count 45 : Nat) := by
  have hr := replace_one x
  have hy : (glued ("-" : Str) (partsBetween x (occurrences x ("-" : Str) 0 x.length (x.length + 1)) ("-" : Str).length)).length = x.length := by rw [PySem.StrLaws.glued_between_self]
  have l1 : ("-" : Str).length = 1 := by decide +kernel
  have l0 : ("" : Str).length = 0 := by decide +kernel
  have hc : ((tl x).filter (fun c => decide (c ≠ 45))).length + (tl x).count 45 = (tl x).length := by
    generalize tl x = l
    induction l with
    | nil => rfl
    | cons a l ih =>
      rw [List.filter_cons, List.count_cons, List.length_cons]
      by_cases h : a = 45
      · simp [h] at ih ⊢; omega
      · simp [h] at ih ⊢; omega
  have hx : (tl x).length = x.length := tl_len x
  unfold Txt.count
  have hl := congrArg List.length hr
  rw [tl_len] at hl
  unfold Txt.replace at hl
  rw [l0] at hl
  generalize occurrences x ("-" : Str) 0 x.length (x.length + 1) = occ at *
  cases hoc : occ with
  | nil =>
    rw [hoc] at hl
    simp only [List.isEmpty_nil, Bool.true_or, if_true] at hl
    simp only [List.length_nil]
    omega
  | cons a r =>
    rw [hoc] at hl hy
    rw [if_neg (by rw [l1]; simp)] at hl
    rw [size_glued, length_partsBetween] at hl hy
    rw [l1] at hl hy
    rw [l0] at hl
    simp only [Nat.add_sub_cancel, Nat.mul_zero, Nat.mul_one] at hl hy
    omega
end My

namespace My
open PySem L2 TL
/-! ### instances' fields -/
theorem lk_cons {k m : Str} {v : V} {r : List (Str × V)} : List.lookup m ((k, v) :: r) = if m = k then some v else r.lookup m := by
  by_cases h : m = k
  · have hb : (m == k) = true := beq_iff_eq.mpr h
    simp only [List.lookup, hb, if_pos h]
  · have hb : (m == k) = false := beq_eq_false_iff_ne.mpr h
    simp only [List.lookup, hb, if_neg h]
theorem putF_len (f : Str) (v : V) : ∀ fs : List (Str × V), (putF f v fs).length ≤ fs.length + 1
  | [] => Nat.le_refl _
  | (g, x) :: r => by
    show (if g = f then (g, v) :: r else (g, x) :: putF f v r).length ≤ _
    split
    · rw [List.length_cons, List.length_cons]; omega
    · rw [List.length_cons, List.length_cons]; have := putF_len f v r; omega
theorem rd_fld {K : PySem.W.Frag} {H : Hp} {x C dx : Addr} {fs : List (Str × V)} {f : Str} {v : V} {Q : V → Prop} (hx : H x = some (.ins C dx fs)) (cl : Cls K C) (n : NoAttr K C f) (l : fs.lookup f = some v) (q : Q v) :
    ∃ C' dx' fs', H x = some (.ins C' dx' fs') ∧ Cls K C' ∧ NoAttr K C' f ∧ ∃ y, List.lookup f fs' = some y ∧ Q y := ⟨_, _, _, hx, cl, n, _, l, q⟩
/-! ### the fields of a profile -/
def pfl (p : Prf) : List (Str × V) := [("_puts", .int p.puts), ("_takes", .int p.takes), ("_low", .int p.low), ("_high", .int p.high), ("_fall", .int p.fall)]
theorem pfl_put (a b l h f : Int) : putF "_fall" (.int f) (putF "_high" (.int h) (putF "_low" (.int l) (putF "_takes" (.int b) (putF "_puts" (.int a) [])))) = pfl ⟨a, b, l, h, f⟩ := by
  have h1 : ¬ ("_puts" : Str) = "_takes" := by decide +kernel
  have h2 : ¬ ("_puts" : Str) = "_low" := by decide +kernel
  have h3 : ¬ ("_puts" : Str) = "_high" := by decide +kernel
  have h4 : ¬ ("_puts" : Str) = "_fall" := by decide +kernel
  have h5 : ¬ ("_takes" : Str) = "_low" := by decide +kernel
  have h6 : ¬ ("_takes" : Str) = "_high" := by decide +kernel
  have h7 : ¬ ("_takes" : Str) = "_fall" := by decide +kernel
  have h8 : ¬ ("_low" : Str) = "_high" := by decide +kernel
  have h9 : ¬ ("_low" : Str) = "_fall" := by decide +kernel
  have h10 : ¬ ("_high" : Str) = "_fall" := by decide +kernel
  simp only [putF, h1, h2, h3, h4, h5, h6, h7, h8, h9, h10, if_false, pfl]
section
variable (p : Prf)
theorem pfl_puts : (pfl p).lookup ("_puts" : Str) = some (.int p.puts) := by unfold pfl; rw [lk_cons, if_pos rfl]
theorem pfl_takes : (pfl p).lookup ("_takes" : Str) = some (.int p.takes) := by unfold pfl; rw [lk_cons, if_neg (by decide +kernel), lk_cons, if_pos rfl]
theorem pfl_low : (pfl p).lookup ("_low" : Str) = some (.int p.low) := by unfold pfl; rw [lk_cons, if_neg (by decide +kernel), lk_cons, if_neg (by decide +kernel), lk_cons, if_pos rfl]
theorem pfl_high : (pfl p).lookup ("_high" : Str) = some (.int p.high) := by unfold pfl; rw [lk_cons, if_neg (by decide +kernel), lk_cons, if_neg (by decide +kernel), lk_cons, if_neg (by decide +kernel), lk_cons, if_pos rfl]
theorem pfl_fall : (pfl p).lookup ("_fall" : Str) = some (.int p.fall) := by unfold pfl; rw [lk_cons, if_neg (by decide +kernel), lk_cons, if_neg (by decide +kernel), lk_cons, if_neg (by decide +kernel), lk_cons, if_neg (by decide +kernel), lk_cons, if_pos rfl]
theorem pfl_no {m : Str} (h1 : ¬ m = "_puts") (h2 : ¬ m = "_takes") (h3 : ¬ m = "_low") (h4 : ¬ m = "_high") (h5 : ¬ m = "_fall") : (pfl p).lookup m = none := by
  unfold pfl; rw [lk_cons, if_neg h1, lk_cons, if_neg h2, lk_cons, if_neg h3, lk_cons, if_neg h4, lk_cons, if_neg h5]; rfl
end
def ProfAt (C : Addr) (H : Hp) (x : Addr) (p : Prf) : Prop := ∃ dx, H x = some (.ins C dx (pfl p))
theorem ProfAt.mono {C : Addr} {H H' : Hp} (s : Same H H') {x : Addr} {p : Prf} (h : ProfAt C H x p) : ProfAt C H' x p := let ⟨dx, e⟩ := h; ⟨dx, s _ _ e⟩
theorem prf_eq_iff (p q : Prf) : p = q ↔ p.puts = q.puts ∧ p.takes = q.takes ∧ p.low = q.low ∧ p.high = q.high ∧ p.fall = q.fall :=
  ⟨fun h => by subst h; exact ⟨rfl, rfl, rfl, rfl, rfl⟩, fun ⟨h1, h2, h3, h4, h5⟩ => Prf.ext h1 h2 h3 h4 h5⟩
instance prfDec : DecidableEq Prf := fun p q => decidable_of_iff _ (prf_eq_iff p q).symm
def Prf.bnd (p : Prf) (k : Nat) : Prop := p.puts.natAbs < 2 ^ k ∧ p.takes.natAbs < 2 ^ k ∧ p.low.natAbs < 2 ^ k ∧ p.high.natAbs < 2 ^ k ∧ p.fall.natAbs < 2 ^ k
theorem Prf.bnd_off {p : Prf} {k : Nat} (h : p.bnd k) : p.off.natAbs < 2 ^ (k + 1) := by
  obtain ⟨h1, h2, _⟩ := h
  unfold Prf.off
  rw [Nat.pow_succ]; omega
/-! ### loops -/
/-- [e for x in a tuple] -/
theorem lcT {K : PySem.W.Frag} {tl : TE} {g : TG} {tt : TT} {te : TE} {vs : List Nat} {σ : L2.St} {H : Hp} {Q : VK}
    (h : ∀ R : VK, (∀ (a : Addr) (xs : List V) (H1 : Hp), SqT K H1 a xs → (∀ D, H1 D = none → ∃ Pv : Nat → Hp → Prop, Pv 0 (upd H1 D (.lst [])) ∧ (∀ i H, i ≤ xs.length → Pv i H → SqT K H a xs) ∧
      (∀ i x H, xs[i]? = some x → Pv i H → g x (wipe σ vs) H fun σ2 H2 => wipe σ2 vs = wipe σ vs ∧ tt σ2 H2 fun b H3 =>
        if b = true then te σ2 H3 fun y H4 => ∃ acc, H4 D = some (.lst acc) ∧ acc.length < sizeLine ∧ Pv (i + 1) (upd H4 D (.lst (acc ++ [y]))) else Pv (i + 1) H3) ∧ ∀ H, Pv xs.length H → Q (.ref D) H) → R (.ref a) H1) → tl σ H R) : tLc (iTup K tl) g tt te vs σ H Q :=
  h _ fun a xs H1 hs hk => ⟨a, rfl, ⟨xs, hs⟩, fun D hD => by
    obtain ⟨Pv, h0, hl, hst, hd⟩ := hk D hD
    exact lc_tup (K := K) (a := a) (xs := xs) Pv h0 hl hst hd⟩
/-- for c in a text -/
theorem forS {te : TE} {g : TG} {tb : TS} {D : Ends} {σ : L2.St} {H : Hp}
    (h : ∀ R : VK, (∀ (x : Str) (Pv : Nat → L2.St → Hp → Prop) (H1 : Hp), Pv 0 σ H1 →
      (∀ i c σ H, (tl x)[i]? = some c → Pv i σ H → g (.str ⟨#[c]⟩) σ H fun σ2 H2 => tb { D with nx := Pv (i + 1), ct := Pv (i + 1), bk := D.nx } σ2 H2) → (∀ σ H, Pv (tl x).length σ H → D.nx σ H) → R (.str x) H1) → te σ H R) : tFor (iStr te) g tb D σ H :=
  h _ fun x Pv H1 h0 hs hd => ⟨x, rfl, by
    have hsz : (tl x).length = x.cps.size := Array.length_toList
    refine ⟨fun i m σ H => m = (tl x).length - i ∧ i ≤ (tl x).length ∧ Pv i σ H, ⟨(tl x).length, by simp, Nat.zero_le _, h0⟩, ?_⟩
    rintro i m σ H ⟨rfl, hi, p⟩
    by_cases hlt : i < (tl x).length
    · refine .inr ⟨by show i < x.cps.size; omega, Pv (i + 1), fun σ' H' p' => ⟨(tl x).length - (i + 1), by omega, rfl, hlt, p'⟩, fun v H' y => ?_⟩
      obtain ⟨e, c, hc, ev⟩ := y
      subst e
      subst ev
      exact hs i c σ _ (by show x.cps.toList[i]? = some c; rw [Array.getElem?_toList]; exact hc) p
    · have e : i = (tl x).length := by omega
      subst e
      exact .inl ⟨by show x.cps.size ≤ _; omega, hd σ H p⟩⟩
/-! ### isinstance of an own class -/
theorem isi_own {K : PySem.W.Frag} {H : Hp} {x : V} {C : Addr} {t : Value} {b : Bool} {Q : VK} (h1 : TyX K H x t) (h2 : PySem.W.kitOne K t (.ref C) = some b) (q : Q (.bl b) H) : rIsi K [x, .ref C] H Q :=
  ⟨x, .ref C, t, _, _, rfl, .own C, h1, h2, q⟩
theorem kit_self {K : PySem.W.Frag} {C : Addr} : PySem.W.kitOne K (.ref C) (.ref C) = some true := if_pos (by simp)
theorem kit_not {K : PySem.W.Frag} {C : Addr} {T : String} (h1 : PySem.W.isClsIn K C = true) (h2 : PySem.W.typeIn K (.ref C) = some (.type "type")) (h3 : PySem.W.subIn K (.type T) (.ref C) = some false) : PySem.W.kitOne K (.type T) (.ref C) = some false := by
  unfold PySem.W.kitOne
  rw [if_neg (by simp)]
  show (if ((PySem.W.clsIn K C).isSome && PySem.W.typeIn K (.ref C) == some (.type "type")) = true then PySem.W.subIn K (.type T) (.ref C) else none) = some false
  have h1' : (PySem.W.clsIn K C).isSome = true := h1
  rw [if_pos (by rw [h1', h2]; rfl)]
  exact h3
theorem notf_self {K : PySem.W.Frag} {C : Addr} : PySem.W.notFirst K C (.ref C) = true := by simp [PySem.W.notFirst]
theorem notf_ty {K : PySem.W.Frag} {C : Addr} {T : String} (h : PySem.W.subIn K (.type T) (.ref C) = some false) : PySem.W.notFirst K C (.type T) = true := by
  unfold PySem.W.notFirst; rw [h]; simp
theorem eqL_ints : ∀ (bs cs : List Int), eqL (bs.map V.int) (cs.map V.int) = decide (bs = cs)
  | [], [] => by simp [eqL, PyData.eqvAll]
  | [], c :: cs => by simp [eqL, PyData.eqvAll]
  | b :: bs, [] => by simp [eqL, PyData.eqvAll]
  | b :: bs, c :: cs => by
    have ih := eqL_ints bs cs
    unfold eqL at ih ⊢
    rw [List.map_cons, List.map_cons, List.map_cons, List.map_cons, PyData.eqvAll, ih]
    show ((PyData.eqv (.int b) (.int c)) && _) = _
    rw [PyData.eqv]
    by_cases h : b = c
    · subst h; simp
    · simp [h]
theorem ne_ints {K : PySem.W.Frag} {H : Hp} {a b : Addr} {ns ms : List Int} {Q : VK} (ha : SqL K H a (ns.map V.int)) (hb : SqL K H b (ms.map V.int)) (q : Q (.bl (!decide (ns = ms))) H) : rNeD K (.ref a) (.ref b) H Q :=
  ne_lists ha hb (ok_ints ns) (ok_ints ms) (by rw [eqL_ints]; exact q)
theorem made {H : Hp} {C x dx : Addr} (hx : H x = none) (hd : H dx = none) : Same H (upd (upd H dx (.own x)) x (.ins C dx [])) := fun b o e => by
  rw [upd_ne (ne_of_none e hx), upd_ne (ne_of_none e hd)]; exact e
end My

/-! ### except clauses in a row, some with a name, all that is wished for being caught -/
namespace L2
open PySem PySem.Spec PyProof.Rows
structure Cls1 where
  c : Value
  i : Option Nat
  ts : Addr → Value → Option Addr → TS
def Cls1.ends (q : Cls1) (D : Ends) : Ends := match q.i with
  | none => D
  | some i => { nx := fun σ H => D.nx (σ.set i none) H, rt := D.rt, bk := fun σ H => D.bk (σ.set i none) H, ct := fun σ H => D.ct (σ.set i none) H }
def Cls1.at (q : Cls1) (a : Addr) (σ : St) : St := match q.i with
  | none => σ
  | some i => σ.set i (some (.ref a))
def wMix (K : PySem.W.Frag) (D : Ends) : List Cls1 → WX
  | [] => fun _ _ _ _ => False
  | q :: r => fun cls d σ H => ∃ b, PySem.W.exmOne K cls q.c = some b ∧ (b = true → ∀ a, H a = none → q.ts a cls d (q.ends D) (q.at a σ) H) ∧ (b = false → wMix K D r cls d σ H)
def SuiteOk (X : Cx) (b : List Stmt) (ts : Addr → Value → Option Addr → TS) : Prop :=
  ∀ (a : Addr) (oe : Obj) (cls : Value) (d : Option Addr) (pn : List (Addr × Obj)), Zc cls d oe → (∃ vs, oe.data = .fields vs) → PSs (X.suite a ((a, oe) :: pn)) b (ts a cls d)
inductive ClsOk (X : Cx) : List ExceptHandler → List Cls1 → Prop
  | nil : ClsOk X [] []
  | plain {x : Str} {c : Value} {ts} {b₀ : Stmt} {b : List Stmt} {np p : Pos} {hs l} (hc : Names X x c) (ok : SuiteOk X (b₀ :: b) ts) (r : ClsOk X hs l) : ClsOk X (.ExceptHandler (some (.Name x np)) none (b₀ :: b) p :: hs) (⟨c, none, ts⟩ :: l)
  | named {x n : Str} {c : Value} {i : Nat} {ts} {b₀ : Stmt} {b : List Stmt} {np p : Pos} {hs l} (hi : X.N[i]? = some n) (hln : X.env.kindOf n = some .local) (hc : Names X x c) (ok : SuiteOk X (b₀ :: b) ts) (r : ClsOk X hs l) :
      ClsOk X (.ExceptHandler (some (.Name x np)) (some n) (b₀ :: b) p :: hs) (⟨c, some i, ts⟩ :: l)
theorem ps_try_mix {X : Cx} {body : List Stmt} {hds : List ExceptHandler} {l : List Cls1} {pos : Pos} {tb : WX → TS} (hs : X.stack = X.env :: X.outer) (hf : X.env.frame = some X.env.locals) (hN : X.N.Nodup) (hne : hds ≠ [])
    (hb : ∀ (W : WX) (pn : List (Addr × Obj)) (xe : Value → Shared → Prop), Takes (X.tr pn xe) W → PassesOwn (model X.prog X.w) X.A X.env xe → PSs (X.tr pn xe) body (tb W))
    (hh : ClsOk X hds l) : PS X (.Try body hds [] [] pos) (fun D σ H => tb (wMix X.K D l) D σ H) := by
  obtain ⟨h₀, hd', rfl⟩ : ∃ h t, hds = h :: t := by
    cases hds with
    | nil => exact absurd rfl hne
    | cons h t => exact ⟨h, t, rfl⟩
  refine ⟨fun pins s σ H D I h => wpAny_Try_except ?_⟩
  have ok := I.ok
  refine wpAny_mono ((hb (wMix X.K D l) (X.pn ++ pins) (fun e s₁ => wpAny (model X.prog X.w) X.A (noteFrame e X.env) (fun _ s₂ => wpAny (model X.prog X.w) X.A (setFlight e none) (fun _ s₃ =>
    wpAny (model X.prog X.w) X.A (handleBy e X.env (h₀ :: hd')) (SP X pins D) X.xe s₃) X.xe s₂) X.xe s₁) (fun u s' xx => ?_) PassesOwn.looking).run [] s σ H D (I.toTry _) h) (fun f s1 g => ?_) (fun _ _ he => he)
  case refine_2 =>
    cases f with
    | next => exact let ⟨σ', H', J, q⟩ := g; wpAny_execs_nil ⟨σ', H', J.ofTry ok, q⟩
    | brk => exact let ⟨σ', H', J, q⟩ := g; ⟨σ', H', J.ofTry ok, q⟩
    | cont => exact let ⟨σ', H', J, q⟩ := g; ⟨σ', H', J.ofTry ok, q⟩
    | ret u => exact let ⟨v, σ', H', J, r, q⟩ := g; ⟨v, σ', H', J.ofTry ok, r, q⟩
  obtain ⟨a, B, sI, pins', σ', H', cls, d, rfl, J', nb, up, sky, na, os, ag, w⟩ := xx
  have J : Inv X pins σ' H' sI := J'.ofTry ok
  refine Sky.land Zc.steady (by rw [ok.frames, hs]) hf (show Sky B (X.env :: X.outer) a (Zc cls d) X.env.locals s'.heap by rw [← hs]; exact sky) fun h3 fl up3 => ?_
  have J3 : Inv X pins σ' H' { s' with heap := h3 } := J.landed nb fl.1 (up.trans up3) os ag
  obtain ⟨oe, vs, he, hz, hd⟩ := fl.there
  have away : a ∉ frs (X.env :: X.outer) := fun hm => by
    obtain ⟨_, o', e', nf⟩ := fl.2.2.1.mem hm
    rw [he] at e'; cases e'
    exact nf _ hd
  have nL : a ≠ X.env.locals := fun z => away (List.mem_filterMap.mpr ⟨X.env, List.mem_cons_self, by rw [hf, z]⟩)
  have nF : a ∉ X.fs := fun hm => by
    obtain ⟨e, h1, q⟩ := List.mem_filterMap.mp hm
    exact away (List.mem_filterMap.mpr ⟨e, List.mem_cons_of_mem _ h1, q⟩)
  have S3 := J3.suite he hd na nL nF
  have LT : PySem.W.Looks (model X.prog X.w) h3 (typeOf (.ref a)) cls := fun A Q E s k q => wpAny_typeOf_ref (k _ _ he) (by rw [hz.1]; exact q)
  have look : ∀ {x : Str} {np : Pos} {c : Value}, Names X x c → ∀ {Q : Value → Shared → Prop} {E : Value → Shared → Prop}, Q c { s' with heap := h3 } → wpAny (model X.prog X.w) (X.A.mark (some (.ref a))) (eval (.Name x np) X.env) Q E { s' with heap := h3 } := by
    rintro x np c ⟨hg, hdb, hm | ⟨hm, hv, hnn⟩⟩ Q E q
    · exact ld_glob (X := X.suite a ((a, oe) :: (X.pn ++ pins))) S3 hg hm q hdb
    · exact ld_blt (X := X.suite a ((a, oe) :: (X.pn ++ pins))) S3 hg hm hv q hnn hdb
  have go : ∀ {hs l}, ClsOk X hs l → wMix X.K D l cls d σ' H' → wpAny (model X.prog X.w) X.A (handleBy (.ref a) X.env hs) (SP X pins D) X.xe { s' with heap := h3 } := by
    intro hs l hk
    induction hk with
    | nil => exact fun w => w.elim
    | plain hc su r ih =>
      rintro ⟨b, hb1, yes, no⟩
      refine wpAny_handleBy_cons (codeAny_handlers_test ?_) (by intro q; cases q)
      refine look hc ((PySem.W.exm_one (M := model X.prog X.w) J3.kIn LT hb1).here ?_)
      cases b with
      | false => exact ih (no rfl)
      | true =>
        refine codeAny_handlers_suite (HandSPX.lands_againZ fl fun h4 fl4 up4 => ?_)
        have J4 : Inv X pins σ' H' { s' with heap := h4 } := J.landed nb fl4.1 ((up.trans up3).trans up4) os ag
        obtain ⟨oe4, vs4, he4, hz4, hd4⟩ := fl4.there
        refine wpAny_mono ((su a oe4 cls d (X.pn ++ pins) hz4 ⟨_, hd4⟩).run [] _ _ H' _ (J4.suite he4 hd4 na nL nF) (yes rfl a na)) (fun f s6 g => ?_) (fun _ _ z => z.elim)
        cases f with
        | next => exact let ⟨σ6, H6, S6, q6⟩ := g; ⟨_, _, S6.unsuite ok, q6⟩
        | brk => exact let ⟨σ6, H6, S6, q6⟩ := g; ⟨_, _, S6.unsuite ok, q6⟩
        | cont => exact let ⟨σ6, H6, S6, q6⟩ := g; ⟨_, _, S6.unsuite ok, q6⟩
        | ret u => exact let ⟨v6, σ6, H6, S6, r6, q6⟩ := g; ⟨_, _, _, S6.unsuite ok, r6, q6⟩
    | named hi hln hc su r ih =>
      rintro ⟨b, hb1, yes, no⟩
      refine wpAny_handleBy_cons (codeAny_handlers_test ?_) (by intro q; cases q)
      refine look hc ((PySem.W.exm_one (M := model X.prog X.w) J3.kIn LT hb1).here ?_)
      cases b with
      | false => exact ih (no rfl)
      | true =>
        refine codeAny_handlers_suite_as (HandSPX.lands_againZ fl fun h4 fl4 up4 => ?_)
        have J4 : Inv X pins σ' H' { s' with heap := h4 } := J.landed nb fl4.1 ((up.trans up3).trans up4) os ag
        obtain ⟨oe4, vs4, he4, hz4, hd4⟩ := fl4.there
        refine store_ok (X := X.suite a ((a, oe4) :: (X.pn ++ pins))) (v := .ref a) (J4.suite he4 hd4 na nL nF) hN hi (.inl hln) rfl (fun s5 S5 => ?_) (.inr hln)
        refine wpAny_mono ((su a oe4 cls d (X.pn ++ pins) hz4 ⟨_, hd4⟩).run [] s5 _ H' _ S5 (yes rfl a na)) (fun f s6 g => ?_) (fun _ _ z => z.elim)
        cases f with
        | next => exact let ⟨σ6, H6, S6, q6⟩ := g; gone_ok (S6.unsuite ok) hN hi hln fun s7 J7 => ⟨_, _, J7, q6⟩
        | brk => exact let ⟨σ6, H6, S6, q6⟩ := g; gone_ok (S6.unsuite ok) hN hi hln fun s7 J7 => ⟨_, _, J7, q6⟩
        | cont => exact let ⟨σ6, H6, S6, q6⟩ := g; gone_ok (S6.unsuite ok) hN hi hln fun s7 J7 => ⟨_, _, J7, q6⟩
        | ret u => exact let ⟨v6, σ6, H6, S6, r6, q6⟩ := g; gone_ok (S6.unsuite ok) hN hi hln fun s7 J7 => ⟨_, _, _, J7, r6, q6⟩
  exact go hh w
end L2

/-! ### own exceptions whose __init__ says super().__init__('..') and stores one argument in a field -/
namespace PySem
namespace SupX
open PySem.W PySem.Calls PyProof.Rows PySem.HandSPX Builtin Builtin.ObjectAttr
section
variable {prog : Program} {w : World} {A : Around} {E : Value → Shared → Prop} {R : Result → Shared → Prop} {hp : Heap} {g : Array GenState} {d : Drawn} {t : Nat} {os : OsState}
/-- the wrapper called: the args are laid anew -/
theorem call_mw {B i newId : String} {bmB : List Value} {nm q : Str} {C N u e t0 : Addr} {bs bm : List Value} {hdct : Bool} {sn : List Str} {sub : List Value} {ab : Bool} {col : Option Bool} {dd : Option Addr} {k0 k1 k2 k3 k5 : Option Value} {rest : List Value} {Q : Value → Shared → Prop}
    (FB : ExcBaseFacts B newId i bmB) (hC : hp.get? C = some (excClassObj nm q C N bs bm hdct sn sub ab col dd k0 k1 k2 k3 k5 newId)) (he : hp.get? e = some (excO C t0)) (hu : hp.get? u = some (kxs_mw i e)) (hz : rest.length ≤ sizeLine)
    (hq : ∀ h' t1, (∀ b o, b ≠ e → hp.get? b = some o → h'.get? b = some o) → h'.get? e = some (excO C t1) → Q .none ⟨h', g, d, t, os⟩) :
    wpAny (model prog w) A (call (.ref u) rest) Q E ⟨hp, g, d, t, os⟩ := by
  refine wpAny_call (codeAny_of_tree ?_)
  show wpAny _ A.in1 (callAny (.ref u) ⟨rest, []⟩) _ _ _
  simp only [callAny]
  refine wpAny_bind (wpAny_load hu ?_)
  simp only [kxs_mw, show (Value.type "method-wrapper" == Value.type "method" || Value.type "method-wrapper" == Value.type "builtin_function_or_method" || Value.type "method-wrapper" == Value.type "method-wrapper") = true by decide, if_true]
  refine KFB.if_so (by decide) ?_
  refine wpAny_bind (check_bound_init FB.toExcCallFacts hC he rfl ?_)
  refine wpAny_bind (wpAny_pure (wpAny_pure ?_))
  refine ⟨plainId_quiet FB.init.plain _, codeAny_builtin FB.initEntry ?_⟩
  exact exc_init_tree (cls := .ref C) (t0 := t0) (dv := none) (c2 := .none) (c3 := .none) (b4 := .bool false) he hz fun h' k e' _ => hq h' _ k e'
/-- self.name = v on an exception that has no dict yet, any built-in base -/
theorem osa_new {B : String} {bmB : List Value} {K : W.Frag} {name : Str} {tk : Tok} {v : Value} {x C : Addr} {fv : Array Value} {cd : ClassData} {l : List Value} (SF : StoreFacts B bmB "object.__setattr__" "object")
    (X : K.In hp) (hx : hp.get? x = some { cls := .ref C, data := .fields fv }) (hcd : W.clsIn K C = some cd) (hm : cd.mro = .ref C :: l) (ht : excTail bmB l = true) (hh : cd.hasDict = true) (ha : W.findIn K (.ref C) name = some none)
    (hq : ∀ h' tk' dx, (∀ b o, b ≠ x → hp.get? b = some o → h'.get? b = some o) → hp.objs.size ≤ dx → dx ≠ x → h'.get? x = some { cls := .ref C, dict := some dx, data := .fields fv } →
      h'.Ns1 dx (fun y => if y = name then some v else none) → R (.ok (.ret .none)) ⟨h', g, d, tk', os⟩) :
    codeAny (model prog w) A (.call (.builtin "object.__setattr__") ⟨[.ref x, .str name tk, v], []⟩) R ⟨hp, g, d, t, os⟩ := by
  have I : W.InstAt hp x { cls := .ref C, data := .fields fv } C none := ⟨hx, rfl, rfl, trivial⟩
  have SO := F.store_object
  have hob : cd.mro.contains (.type "object") = true := by
    rw [hm, List.contains_cons, excTail_contains "object" l ht, SF.hasOwner, Bool.or_true]
  have hxs : x ≠ hp.objs.size := Nat.ne_of_lt (Heap.lt_size hx)
  have sub : W.Looks (model prog w) hp (isInstance (.ref x) (.type "object")) true := I.type.andThen (W.looks_mroIn X (by unfold W.mroIn; rw [hcd, Option.bind_some, if_neg (by rw [hm]; exact Bool.false_ne_true), hob]))
  refine codeAny_call_builtin SO.slot.plain SO.entry (@W.check_slot (model prog w) _ _ ⟨hp, g, d, t, os⟩ "object.__setattr__" "object" "__setattr__" (.ref x) [.str name tk, v] [] _ SO.kind SO.split sub (SO.args (.ref x) (.str name tk) v) ?_)
  have hmr : W.Looks (model prog w) hp (mroOf (.ref C)) cd.mro := (W.looks_clsIn X hcd).andThen .now
  have L3 : W.Looks (model prog w) hp (storeTaker? none) none := .now
  have hcls : W.Looks (model prog w) hp (classData C) cd := W.looks_clsIn X hcd
  have hpass : refuseLoop (.ref x) "__setattr__" cd.mro = pure () := by
    rw [hm, refuseLoop_ref]
    exact excTail_pass _ (SF.passes _) l ht
  rw [W.osa_eq, refuse_eq]
  refine wpAny_bind (wpAny_bind (I.type.at (wpAny_bind (hmr.at ?_))))
  rw [hpass]
  refine wpAny_pure (wpAny_bind (I.type.at (wpAny_bind ((W.looks_findIn X ha).at (wpAny_bind (L3.at ?_))))))
  show wpAny _ _ (storeInOwnDict (.ref x) (.ref C) (.str name tk) name v false) _ _ _
  obtain ⟨nm, bs, mro, ns, qn, hd, sn, sb, ab, col, del⟩ := cd
  dsimp only at hh
  subst hh
  unfold storeInOwnDict ownDictForStores
  repeat (first | with_reducible refine store_in_new ?_ ?_ | with_reducible refine wpAny_loadPart_at hx ?_ | with_reducible refine hcls.at ?_ | wp_step)
  · exact ⟨_, #[], _, (Heap.get?_update_ne _ _ _ _ hxs.symm).trans (Heap.get?_push_at rfl rfl), rfl, fun e he => absurd he (by simp), fun _ => rfl⟩
  · intro h' tk' hn' hs
    have hx₁ : (hp.push { cls := .type "dict", data := .dict #[] }).get? x = some { cls := .ref C, data := .fields fv } := Heap.get?_push_of_some _ hx
    refine hq h' tk' hp.objs.size (fun b o hb ho => ?_) (Nat.le_refl _) hxs.symm ?_ hn'
    · exact (hs.2 b (Nat.ne_of_lt (Heap.lt_size ho))).trans ((Heap.get?_update_ne _ _ _ _ hb).trans (Heap.get?_push_of_some _ ho))
    · exact (hs.2 x hxs).trans (Heap.get?_update_self _ hx₁ rfl)
end
/-- the body's shape: super().__init__(msg); self.f = p -/
def initBody (msg f p : Str) (c : Nat) (p0 p1 p2 p3 p4 p5 q1 q2 q3 q4 : Pos) : List Stmt :=
  [.Expr (.Call (.Attribute (.Call (.Name "super" p0) [] [] p1) "__init__" p2) [.Constant (.str msg) c p3] [] p4) p5, .Assign [.Attribute (.Name "self" q1) f q2] (.Name p q3) q4]
/-- what the written part says of the class at C and of its __init__ at fI -/
structure ExF (prog : Program) (K : Frag) (mg : Str → Option Value) (x f p qual : Str) (st : Stmt) (B newId i : String) (bmB : List Value) (C fI : Addr) : Prop where
  g : mg x = some (.ref C)
  q : excInitIn K C bmB newId = true
  ov : excOver K C bmB = true
  sa : findIn K (.ref C) "__setattr__" = some (some (.builtin "object.__setattr__"))
  ga : findIn K (.ref C) "__getattribute__" = some (some (.builtin "BaseException.__getattribute__"))
  gg : findIn K (.ref C) "__getattr__" = some none
  no : findIn K (.ref C) f = some none
  iC : findIn K (.ref C) "__init__" = some (some (.ref fI))
  tC : typeIn K (.ref fI) = some (.type "function")
  kC : keepIn K (.ref C) = true
  exC : subIn K (.ref C) (.type "BaseException") = some true
  suB : subIn K (.ref C) (.type B) = some true
  tyC : typeIn K (.ref C) = some (.type "type")
  hdC : hasDictIn K C = true
  te : exmOne K (.ref C) (.ref C) = some true
  mC : mroIn K C (.ref C) = some true
  su : ks_superIn K C C "__init__" = some (some (.builtin i))
  zs : nsIn K mainGlobals "super" = some none
  zt : nsIn K cStatics "thirdparty.any" = some none
  fn : ∃ (oc : Value) (od : Option Addr) (kV doc pm : Value) (an : Option Addr) (cda : Addr) (ct : Value) (osl : Array (Option Value)) (cc : Addr) (cl : Value) (cld : Option Addr) (csl : Array (Option Value)) (ccl : Value) (cdd : Option Addr) (vs : Array Value) (ccs : Array (Option Value)) (file : Str) (tf : Tok),
    K.lookup fI = some ⟨oc, od, .func (ksFn "__init__" qual (L2.defArgs st) (L2.defBody st) (L2.defScope st) .none kV doc pm an (.ref cda) ct cc), osl⟩ ∧ codeIn K (.ref cda) qual = true ∧ K.lookup cc = some ⟨cl, cld, .cell (some (.ref C)), csl⟩ ∧
    K.lookup cda = some ⟨ccl, cdd, .fields vs, ccs⟩ ∧ vs[2]? = some (.str file tf) ∧ ((prog.main.file : Str) == file) = true
/-- what __init__ leaves of a fresh exception at x -/
structure InitEnd (f : Str) (h h' : Heap) (x C dx t1 : Addr) (v : Value) : Prop where
  keep : ∀ b o, b ≠ x → h.get? b = some o → h'.get? b = some o
  obj : h'.get? x = some { cls := .ref C, dict := some dx, data := .fields #[.ref t1, .none, .none, .none, .bool false, .none] }
  dbig : h.objs.size ≤ dx
  dne : dx ≠ x
  ns : h'.Ns1 dx (fun y => if y = f then some v else none)
section
variable {prog : Program} {w : World} {A : Around} {E : Value → Shared → Prop} {R : Result → Shared → Prop} {s : Shared} {K : Frag} {mg : Str → Option Value} {x f p qual : Str} {st : Stmt} {B newId i : String} {bmB : List Value} {C fI : Addr}
theorem super_node {body : List Stmt} {q : Str} {scope : Scope} {p0 p1 : Pos} {attr : Str} {whole : Sem Value} {fd : FuncData} {ar : Arg} {vs : Array Value} {file : Str} {tf : Tok} {oc ccl cl : Value} {od cdd cld : Option Addr} {osl ccs csl : Array (Option Value)} {cdD : ClassData} {Q : Value → Shared → Prop}
    {h₀ : Heap} {L fI cda cc D xa : Addr} {m mb : Str → Option Value} {ox : Obj} {odx : Option Obj}
    (F : Fr h₀ L s.heap m) (X₀ : K.In h₀) (hg : h₀.Ns mainGlobals mg) (hb : h₀.Ns builtinsNs mb) (hbs : mb "super" = bootBuiltins "super")
    (hf : K.lookup fI = some ⟨oc, od, .func fd, osl⟩) (hp : (fd.params.posonlyargs ++ fd.params.args).head? = some ar) (hv : m ar.arg = some (.ref xa)) (I : InstAt s.heap xa ox C odx)
    (hcode : K.lookup cda = some ⟨ccl, cdd, .fields vs, ccs⟩) (hvs : vs[2]? = some (.str file tf)) (hfile : ((prog.main.file : Str) == file) = true)
    (hcell : K.lookup cc = some ⟨cl, cld, .cell (some (.ref D)), csl⟩) (hD : clsIn K D = some cdD) (hsub : mroIn K C (.ref D) = some true) (hsuper : nsIn K mainGlobals "super" = some none)
    (hat : (attr == ("__class__" : Str)) = false) (hks : scope.names.lookup ("super" : Str) = some .globalImplicit) (hkc : scope.names.lookup ("__class__" : Str) = some .free) (hka : scope.names.lookup ar.arg = some .local) (hk : scope.kind = .function)
    (htop : (prog.main.scope.names.lookup ("super" : Str)).isSome = false)
    (h : ∀ so h', Fr h₀ L h' m → News h₀ L h' [(so, ks_superObj D xa C)] → (∀ b o, s.heap.get? b = some o → h'.get? b = some o) → Q (.ref so) { s with heap := h' }) :
    _root_.PySem.wpAt (model prog w) A (.func body (ksEnv q scope L fI (.ref cda) cc)) (attributeBase (.Call (.Name "super" p0) [] [] p1) attr (ksEnv q scope L fI (.ref cda) cc) whole) Q E s := by
  have X : K.In s.heap := X₀.keeps F.keep
  obtain ⟨hh, g, d, t, os⟩ := s
  obtain ⟨oD, hD1, hD2⟩ : ∃ oD, hh.get? D = some oD ∧ oD.data = .cls cdD := by
    unfold clsIn at hD
    split at hD
    · rename_i c d cd' sl ho
      cases hD
      exact ⟨_, X _ _ ho, rfl⟩
    · cases hD
  refine ks_wpAt_super_base (env := ksEnv q scope L fI (.ref cda) cc) hks hkc hat rfl (X _ _ hf) rfl hp rfl (X _ _ hcode) rfl hvs hfile htop ?_
  refine ks_loadName_global hk hks (loadGlobal_builtin (env := ksEnv q scope L fI (.ref cda) cc) (hg.keeps F.keep) (mg_none_of X₀ hg hsuper) (hb.keeps F.keep) (hbs.trans (by first | boot_by_name | rfl | kernel_rfl)) ⟨rfl, ?_⟩)
  refine wpAny_loadName_free hk hkc rfl ⟨_, X _ _ hcell, rfl⟩ ?_
  refine wpAny_loadName_local hk hka F.ns hv ?_
  refine ks_wpAny_isType_cls hD1 hD2 ⟨rfl, ?_⟩
  refine ks_wpAny_call_super hD1 hD2 I.at_ I.cls (fun c e => ?_) (looks_mroIn X hsub) (fun h' e k => ?_)
  · have := I.no
    unfold notCls at this
    rw [e] at this
    exact Bool.noConfusion this
  · obtain ⟨F', N', l'⟩ := ks_newsPush (s := ⟨hh, g, d, t, os⟩) (news := []) F News.nil rfl e k
    exact h _ _ F' N' k
end
/-- a made one -/
structure OwnMade (f : Str) (h h' : Heap) (e C d : Addr) (v : Value) : Prop where
  keep : ∀ b o, h.get? b = some o → h'.get? b = some o
  new : h.objs.size ≤ e
  obj : ∃ oe vs, h'.get? e = some oe ∧ oe.cls = .ref C ∧ oe.dict = some d ∧ oe.data = .fields vs ∧ vs[1]? = some .none
  dbig : h.objs.size ≤ d
  dne : d ≠ e
  ns : h'.Ns1 d (fun y => if y = f then some v else none)
open L2 in
theorem relO_one {f0 : Str} {v : V} {v' : Value} (r : RelV v v') (f : Str) : RelO (List.lookup f [(f0, v)]) (if f = f0 then some v' else none) := by
  by_cases hw : f = f0
  · subst hw
    rw [if_pos rfl]
    have q : List.lookup f [(f, v)] = some v := by simp [List.lookup]
    rw [q]
    exact r
  · rw [if_neg hw]
    have qw : (f == f0) = false := by simpa using hw
    have q2 : List.lookup f [(f0, v)] = none := by simp [List.lookup, qw]
    rw [q2]
    trivial
open L2 in
/-- X(e): the error's own dict, new, holds the field -/
def tMk1 (f : Str) (C : Addr) (ta : TA) : L2.St → Hp → XK → Prop := fun σ H Q => ta σ H fun vs H1 => ∃ v, vs = [v] ∧ ∀ d, H1 d = none → Q (.ref C) (some d) (upd H1 d (.xd [(f, v)]))
/-- self.name = v on an exception that has its dict, any built-in base -/
theorem osa_more {B : String} {bmB : List Value} {prog : Program} {w : World} {A : Around} {R : Result → Shared → Prop} {hp : Heap} {g : Array GenState} {d : Drawn} {t : Nat} {os : OsState} {K : W.Frag} {name : Str} {tk : Tok} {v : Value} {x C dx : Addr} {fv : Array Value} {cd : ClassData} {l : List Value} {m0 : Str → Option Value} {nl : List Str} (SF : StoreFacts B bmB "object.__setattr__" "object")
    (X : K.In hp) (hx : hp.get? x = some { cls := .ref C, dict := some dx, data := .fields fv }) (hns : hp.Ns1 dx m0) (hw : Within m0 nl) (hz : nl.length ≤ 1000) (hcd : W.clsIn K C = some cd) (hm : cd.mro = .ref C :: l) (ht : excTail bmB l = true) (hh : cd.hasDict = true) (ha : W.findIn K (.ref C) name = some none)
    (hq : ∀ h' tk', (∀ b o, b ≠ dx → hp.get? b = some o → h'.get? b = some o) → h'.Ns1 dx (fun y => if y = name then some v else m0 y) → R (.ok (.ret .none)) ⟨h', g, d, tk', os⟩) :
    codeAny (model prog w) A (.call (.builtin "object.__setattr__") ⟨[.ref x, .str name tk, v], []⟩) R ⟨hp, g, d, t, os⟩ := by
  obtain ⟨oD, esD, epD, hoD, hdD, _⟩ := hns.count hw
  have I : W.InstAt hp x { cls := .ref C, dict := some dx, data := .fields fv } C (some oD) := ⟨hx, rfl, rfl, hoD⟩
  have SO := F.store_object
  have hob : cd.mro.contains (.type "object") = true := by
    rw [hm, List.contains_cons, excTail_contains "object" l ht, SF.hasOwner, Bool.or_true]
  have sub : W.Looks (model prog w) hp (isInstance (.ref x) (.type "object")) true := I.type.andThen (W.looks_mroIn X (by unfold W.mroIn; rw [hcd, Option.bind_some, if_neg (by rw [hm]; exact Bool.false_ne_true), hob]))
  refine codeAny_call_builtin SO.slot.plain SO.entry (@W.check_slot (model prog w) _ _ ⟨hp, g, d, t, os⟩ "object.__setattr__" "object" "__setattr__" (.ref x) [.str name tk, v] [] _ SO.kind SO.split sub (SO.args (.ref x) (.str name tk) v) ?_)
  have hmr : W.Looks (model prog w) hp (mroOf (.ref C)) cd.mro := (W.looks_clsIn X hcd).andThen .now
  have L3 : W.Looks (model prog w) hp (storeTaker? none) none := .now
  have hcls : W.Looks (model prog w) hp (classData C) cd := W.looks_clsIn X hcd
  have hpass : refuseLoop (.ref x) "__setattr__" cd.mro = pure () := by
    rw [hm, refuseLoop_ref]
    exact excTail_pass _ (SF.passes _) l ht
  rw [W.osa_eq, refuse_eq]
  refine wpAny_bind (wpAny_bind (I.type.at (wpAny_bind (hmr.at ?_))))
  rw [hpass]
  refine wpAny_pure (wpAny_bind (I.type.at (wpAny_bind ((W.looks_findIn X ha).at (wpAny_bind (L3.at ?_))))))
  show wpAny _ _ (storeInOwnDict (.ref x) (.ref C) (.str name tk) name v false) _ _ _
  obtain ⟨nm, bs, mro, ns, qn, hd, sn, sb, ab, col, del⟩ := cd
  dsimp only at hh
  subst hh
  unfold storeInOwnDict ownDictForStores
  repeat (first | with_reducible refine OEX.store_in_old hns hw hz ?_ | with_reducible refine wpAny_loadPart_at hx ?_ | with_reducible refine hcls.at ?_ | wp_step)
  intro h' tk' hn' hs
  exact hq h' tk' (fun b o hb ho => (hs.2 b hb).trans ho) hn'
structure InitEndT (f f2 : Str) (h h' : Heap) (x C dx t1 : Addr) (v v2 : Value) : Prop where
  keep : ∀ b o, b ≠ x → h.get? b = some o → h'.get? b = some o
  obj : h'.get? x = some { cls := .ref C, dict := some dx, data := .fields #[.ref t1, .none, .none, .none, .bool false, .none] }
  dbig : h.objs.size ≤ dx
  dne : dx ≠ x
  ns : h'.Ns1 dx (fun y => if y = f2 then some v2 else if y = f then some v else none)
structure OwnMadeT (f f2 : Str) (h h' : Heap) (e C d : Addr) (v v2 : Value) : Prop where
  keep : ∀ b o, h.get? b = some o → h'.get? b = some o
  new : h.objs.size ≤ e
  obj : ∃ oe vs, h'.get? e = some oe ∧ oe.cls = .ref C ∧ oe.dict = some d ∧ oe.data = .fields vs ∧ vs[1]? = some .none
  dbig : h.objs.size ≤ d
  dne : d ≠ e
  ns : h'.Ns1 d (fun y => if y = f2 then some v2 else if y = f then some v else none)
open L2 in
theorem relO_two {f0 f1 : Str} {v v2 : V} {v' v2' : Value} (hf : f0 ≠ f1) (r : RelV v v') (r2 : RelV v2 v2') (f : Str) : RelO (List.lookup f [(f0, v), (f1, v2)]) (if f = f1 then some v2' else if f = f0 then some v' else none) := by
  by_cases hw : f = f0
  · subst hw
    rw [if_neg hf, if_pos rfl]
    have q : List.lookup f [(f, v), (f1, v2)] = some v := by simp [List.lookup]
    rw [q]
    exact r
  · have qw : (f == f0) = false := by simpa using hw
    have q : List.lookup f [(f0, v), (f1, v2)] = List.lookup f [(f1, v2)] := by simp [List.lookup, qw]
    rw [q, if_neg hw]
    exact relO_one r2 f
open L2 in
theorem vals_two {v v2 : V} {us : List Value} (r : Vals [v, v2] us) : ∃ u u2, us = [u, u2] ∧ RelV v u ∧ RelV v2 u2 := by
  cases r with
  | cons r1 rn =>
    cases rn with
    | cons r2 rn =>
      cases rn
      exact ⟨_, _, rfl, r1, r2⟩
open L2 in
/-- X(e, f): the error's own dict, new, holds both -/
def tMk2 (f f2 : Str) (C : Addr) (ta : TA) : L2.St → Hp → XK → Prop := fun σ H Q => ta σ H fun vs H1 => ∃ v v2, vs = [v, v2] ∧ ∀ d, H1 d = none → Q (.ref C) (some d) (upd H1 d (.xd [(f, v), (f2, v2)]))
theorem ExF.second {prog : Program} {K : Frag} {mg : Str → Option Value} {x f p f2 p2 qual : Str} {st : Stmt} {B newId i : String} {bmB : List Value} {C fI : Addr} (T : ExF prog K mg x f p qual st B newId i bmB C fI) (h : findIn K (.ref C) f2 = some none) : ExF prog K mg x f2 p2 qual st B newId i bmB C fI := { T with no := h }
end SupX
end PySem
namespace L2
open PySem PySem.Spec PyProof.Rows
section
variable {X : Cx} {C fI : Addr} {x f p qual : Str} {st : Stmt} {B newId i : String} {bmB : List Value}
/-- e.f, e the exception that the suite holds (at a; its class cls, its dict d) -/
def tBy1 (f : Str) (C : Addr) (a : Addr) (cls : Value) (d : Option Addr) (te : TE) : TE := fun σ H Q => te σ H fun x H1 => x = .ref a ∧ cls = .ref C ∧ ∃ (dd : Addr) (fs : List (Str × V)) (v : V), d = some dd ∧ H1 dd = some (.xd fs) ∧ fs.lookup f = some v ∧ Q v H1
theorem pe_by1 {a : Addr} {oe : Obj} {cls : Value} {d : Option Addr} {pn : List (Addr × Obj)} {e : Expr} {te : TE} {pos : Pos} (T : PySem.SupX.ExF X.prog X.K X.mg x f p qual st B newId i bmB C fI) (hz : Zc cls d oe) (hf : ∃ vs, oe.data = .fields vs) (he : PE (X.suite a ((a, oe) :: pn)) e te)
    (hb : attributeBase e f X.env (eval e X.env) = eval e X.env := by rfl) :
    PE (X.suite a ((a, oe) :: pn)) (.Attribute e f pos) (tBy1 f C a cls d te) := by
  refine ⟨fun pins s σ H Q I h => ?_⟩
  refine attr_of hb (thn (he.run pins s σ H _ I h) fun u s1 hh => ?_)
  obtain ⟨x, H1, I1, rx, ex, ec, dd, fs, v, ed, ea, l, q⟩ := hh
  subst ex
  obtain rfl : u = Value.ref a := rx
  subst ec
  subst ed
  obtain ⟨ha, _⟩ := I1.pin (a, oe) (List.mem_append_left _ List.mem_cons_self)
  obtain ⟨vs, hd⟩ := hf
  have hx : ObjOk X.prog X.w H1 s1.heap dd (.xd fs) := I1.hok dd _ ea
  obtain ⟨mA, hns, hr⟩ := hx
  obtain ⟨od, ho, hl⟩ := lookIn_ns hns
  obtain ⟨u, hu, ru⟩ := RelO.some_of (v := v) (o := mA f) (by rw [← l]; exact hr f)
  have J : PySem.W.InstAt s1.heap a oe C (some od) := ⟨ha, hz.1, by unfold PySem.W.notCls; rw [hd] <;> rfl, by rw [hz.2]; exact ho⟩
  exact HandSPX.exc_get I1.kIn J T.ga T.gg T.exC (PySem.W.findObj_own T.hdC T.no rfl (by rw [hl, hu])) (handed_of ru) ⟨v, H1, I1.tok _, ru, q⟩
end
end L2

namespace My
open PySem L2 TL
abbrev P : Program := PySem.Challenge.pw_fullqueue_k27_separating_queues
def top (i : Nat) : Stmt := PySem.Challenge.pw_fullqueue_k27_separating_queues.main.body.getD i (.Pass ⟨0, 0, 0, 0⟩)
abbrev s__wall : Stmt := top 0
abbrev s_InvalidEffect_init : Stmt := inClass (top 6) 0
abbrev s_CapacityMismatch_init : Stmt := inClass (top 7) 0
abbrev s_EffectFailed_init : Stmt := inClass (top 8) 0
abbrev s_is_int : Stmt := top 10
theorem sc_is_int : FnScope ["value"] ["value"] (defScope s_is_int) := ⟨rfl, rfl, rfl, by decide +kernel, rfl, by decide +kernel, by decide +kernel⟩
abbrev s_is_int_between : Stmt := top 11
theorem sc_is_int_between : FnScope ["value", "least", "most"] ["value", "least", "most"] (defScope s_is_int_between) := ⟨rfl, rfl, rfl, by decide +kernel, rfl, by decide +kernel, by decide +kernel⟩
abbrev s_is_capacity : Stmt := top 15
theorem sc_is_capacity : FnScope ["value"] ["value"] (defScope s_is_capacity) := ⟨rfl, rfl, rfl, by decide +kernel, rfl, by decide +kernel, by decide +kernel⟩
abbrev s_is_queue : Stmt := top 16
theorem sc_is_queue : FnScope ["value", "capacity"] ["value", "capacity"] (defScope s_is_queue) := ⟨rfl, rfl, rfl, by decide +kernel, rfl, by decide +kernel, by decide +kernel⟩
abbrev s_has_letters_only : Stmt := top 17
theorem sc_has_letters_only : FnScope ["value"] ["value"] (defScope s_has_letters_only) := ⟨rfl, rfl, rfl, by decide +kernel, rfl, by decide +kernel, by decide +kernel⟩
abbrev s_check_capacity : Stmt := top 19
theorem sc_check_capacity : FnScope ["value"] ["value"] (defScope s_check_capacity) := ⟨rfl, rfl, rfl, by decide +kernel, rfl, by decide +kernel, by decide +kernel⟩
abbrev s_check_queue : Stmt := top 20
theorem sc_check_queue : FnScope ["value", "capacity"] ["value", "capacity"] (defScope s_check_queue) := ⟨rfl, rfl, rfl, by decide +kernel, rfl, by decide +kernel, by decide +kernel⟩
abbrev s_check_length : Stmt := top 21
theorem sc_check_length : FnScope ["value", "capacity"] ["value", "capacity"] (defScope s_check_length) := ⟨rfl, rfl, rfl, by decide +kernel, rfl, by decide +kernel, by decide +kernel⟩
abbrev s_is_count : Stmt := top 24
theorem sc_is_count : FnScope ["value"] ["value"] (defScope s_is_count) := ⟨rfl, rfl, rfl, by decide +kernel, rfl, by decide +kernel, by decide +kernel⟩
abbrev s_check_count : Stmt := top 25
theorem sc_check_count : FnScope ["value"] ["value"] (defScope s_check_count) := ⟨rfl, rfl, rfl, by decide +kernel, rfl, by decide +kernel, by decide +kernel⟩
abbrev s_ending : Stmt := top 26
theorem sc_ending : FnScope ["text", "most"] ["text", "most"] (defScope s_ending) := ⟨rfl, rfl, rfl, by decide +kernel, rfl, by decide +kernel, by decide +kernel⟩
abbrev s_is_row : Stmt := top 28
theorem sc_is_row : FnScope ["value", "length", "capacity", "kept", "word"] ["value", "length", "capacity"] (defScope s_is_row) := ⟨rfl, rfl, rfl, by decide +kernel, rfl, by decide +kernel, by decide +kernel⟩
abbrev s_identity_rows : Stmt := top 29
theorem sc_identity_rows : FnScope ["capacity", "length"] ["capacity"] (defScope s_identity_rows) := ⟨rfl, rfl, rfl, by decide +kernel, rfl, by decide +kernel, by decide +kernel⟩
abbrev s_product_rows : Stmt := top 30
theorem sc_product_rows : FnScope ["first", "second", "row"] ["first", "second"] (defScope s_product_rows) := ⟨rfl, rfl, rfl, by decide +kernel, rfl, by decide +kernel, by decide +kernel⟩
abbrev s_row_after : Stmt := top 31
theorem sc_row_after : FnScope ["row", "rows", "later", "kept", "word", "later_kept", "later_word"] ["row", "rows"] (defScope s_row_after) := ⟨rfl, rfl, rfl, by decide +kernel, rfl, by decide +kernel, by decide +kernel⟩
abbrev s_end_of_row : Stmt := top 32
theorem sc_end_of_row : FnScope ["row", "kept", "word"] ["row"] (defScope s_end_of_row) := ⟨rfl, rfl, rfl, by decide +kernel, rfl, by decide +kernel, by decide +kernel⟩
abbrev s_result_of_row : Stmt := top 33
theorem sc_result_of_row : FnScope ["row", "queue", "kept", "word"] ["row", "queue"] (defScope s_result_of_row) := ⟨rfl, rfl, rfl, by decide +kernel, rfl, by decide +kernel, by decide +kernel⟩
abbrev s_power_rows : Stmt := top 34
theorem sc_power_rows : FnScope ["rows", "exponent", "power", "bit"] ["rows", "exponent"] (defScope s_power_rows) := ⟨rfl, rfl, rfl, by decide +kernel, rfl, by decide +kernel, by decide +kernel⟩
abbrev s_Effect_init : Stmt := inClass (top 36) 0
theorem sc_Effect_init : FnScope ["self", "capacity", "rows"] ["self", "capacity", "rows"] (defScope s_Effect_init) := ⟨rfl, rfl, rfl, by decide +kernel, rfl, by decide +kernel, by decide +kernel⟩
abbrev s_Effect_capacity : Stmt := inClass (top 36) 1
theorem sc_Effect_capacity : FnScope ["self"] ["self"] (defScope s_Effect_capacity) := ⟨rfl, rfl, rfl, by decide +kernel, rfl, by decide +kernel, by decide +kernel⟩
abbrev s_Effect_rows : Stmt := inClass (top 36) 2
theorem sc_Effect_rows : FnScope ["self"] ["self"] (defScope s_Effect_rows) := ⟨rfl, rfl, rfl, by decide +kernel, rfl, by decide +kernel, by decide +kernel⟩
abbrev s_Effect_identity : Stmt := inClass (top 36) 3
theorem sc_Effect_identity : FnScope ["cls", "capacity"] ["cls", "capacity"] (defScope s_Effect_identity) := ⟨rfl, rfl, rfl, by decide +kernel, rfl, by decide +kernel, by decide +kernel⟩
abbrev s_Effect_failing : Stmt := inClass (top 36) 4
abbrev s_Effect_lengths : Stmt := inClass (top 36) 5
abbrev s_Effect_power : Stmt := inClass (top 36) 6
abbrev s_Effect_is_part_of : Stmt := inClass (top 36) 7
abbrev s_Effect_call : Stmt := inClass (top 36) 8
theorem sc_Effect_call : FnScope ["self", "queue", "result"] ["self", "queue"] (defScope s_Effect_call) := ⟨rfl, rfl, rfl, by decide +kernel, rfl, by decide +kernel, by decide +kernel⟩
abbrev s_Effect_getitem : Stmt := inClass (top 36) 9
theorem sc_Effect_getitem : FnScope ["self", "at"] ["self", "at"] (defScope s_Effect_getitem) := ⟨rfl, rfl, rfl, by decide +kernel, rfl, by decide +kernel, by decide +kernel⟩
abbrev s_Effect_iter : Stmt := inClass (top 36) 10
abbrev s_Effect_contains : Stmt := inClass (top 36) 11
abbrev s_Effect_bool : Stmt := inClass (top 36) 12
abbrev s_Effect_mul : Stmt := inClass (top 36) 13
abbrev s_Effect_pow : Stmt := inClass (top 36) 14
abbrev s_Effect_eq : Stmt := inClass (top 36) 15
abbrev s_Effect_repr : Stmt := inClass (top 36) 16
abbrev s_check_rows : Stmt := top 37
theorem sc_check_rows : FnScope ["value", "capacity", "length", "row"] ["value", "capacity"] (defScope s_check_rows) := ⟨rfl, rfl, rfl, by decide +kernel, rfl, by decide +kernel, by decide +kernel⟩
abbrev s_check_effect : Stmt := top 38
theorem sc_check_effect : FnScope ["value"] ["value"] (defScope s_check_effect) := ⟨rfl, rfl, rfl, by decide +kernel, rfl, by decide +kernel, by decide +kernel⟩
abbrev s_check_same_capacity : Stmt := top 39
theorem sc_check_same_capacity : FnScope ["one", "other"] ["one", "other"] (defScope s_check_same_capacity) := ⟨rfl, rfl, rfl, by decide +kernel, rfl, by decide +kernel, by decide +kernel⟩
abbrev s_separating_queue : Stmt := top 41
theorem sc_separating_queue : FnScope ["one", "other", "length"] ["one", "other"] (defScope s_separating_queue) := ⟨rfl, rfl, rfl, by decide +kernel, rfl, by decide +kernel, by decide +kernel⟩
abbrev s_queue_between : Stmt := top 42
theorem sc_queue_between : FnScope ["length", "row", "other_row", "queue"] ["length", "row", "other_row"] (defScope s_queue_between) := ⟨rfl, rfl, rfl, by decide +kernel, rfl, by decide +kernel, by decide +kernel⟩
abbrev s__law_draws : Stmt := top 44
theorem sc__law_draws : FnScope ["_law_script", "_law_k", "_law_cell", "_law_seed"] ["_law_script", "_law_k"] (defScope s__law_draws) := ⟨rfl, rfl, rfl, by decide +kernel, rfl, by decide +kernel, by decide +kernel⟩
abbrev s__law_draw : Stmt := top 45
theorem sc__law_draw : FnScope ["_law_draws_here", "_law_upto", "_law_digit"] ["_law_draws_here", "_law_upto"] (defScope s__law_draw) := ⟨rfl, rfl, rfl, by decide +kernel, rfl, by decide +kernel, by decide +kernel⟩
abbrev s__law_letter : Stmt := top 46
theorem sc__law_letter : FnScope ["_law_draws_here"] ["_law_draws_here"] (defScope s__law_letter) := ⟨rfl, rfl, rfl, by decide +kernel, rfl, by decide +kernel, by decide +kernel⟩
abbrev s__law_sequence : Stmt := top 47
abbrev s__law_queue : Stmt := top 48
theorem sc__law_queue : FnScope ["_law_draws_here", "_law_most", "_law_turn"] ["_law_draws_here", "_law_most"] (defScope s__law_queue) := ⟨rfl, rfl, rfl, by decide +kernel, rfl, by decide +kernel, by decide +kernel⟩
abbrev s__law_rows : Stmt := top 49
theorem sc__law_rows : FnScope ["_law_draws_here", "_law_capacity", "_law_rows_here", "_law_length", "_law_kept", "_law_row"] ["_law_draws_here", "_law_capacity"] (defScope s__law_rows) := ⟨rfl, rfl, rfl, by decide +kernel, rfl, by decide +kernel, by decide +kernel⟩
abbrev s__law_applied : Stmt := top 50
theorem sc__law_applied : FnScope ["_law_effect", "_law_queue_here"] ["_law_effect", "_law_queue_here"] (defScope s__law_applied) := ⟨rfl, rfl, rfl, by decide +kernel, rfl, by decide +kernel, by decide +kernel⟩
abbrev s__law_other : Stmt := top 51
theorem sc__law_other : FnScope ["_law_draws_here", "_law_rows_here", "_law_capacity", "_law_changed", "_law_at", "_law_row", "_law_letter_here", "_law_menu", "_law_kept", "_law_word", "_law_found"] ["_law_draws_here", "_law_rows_here", "_law_capacity"] (defScope s__law_other) := ⟨rfl, rfl, rfl, by decide +kernel, rfl, by decide +kernel, by decide +kernel⟩
abbrev s__law_error : Stmt := top 52
theorem sc__law_error : FnScope ["_law_one", "_law_other_here", "e"] ["_law_one", "_law_other_here"] (defScope s__law_error) := ⟨rfl, rfl, rfl, by decide +kernel, rfl, by decide +kernel, by decide +kernel⟩
abbrev s_law : Stmt := top 53
theorem sc_law : FnScope ["_law_script", "_law_most", "_law_rows_here", "_law_letter_here", "_law_other_here", "_law_found", "_law_same", "_law_k", "_law_draws_here", "_law_capacity", "_law_one", "_law_two", "_law_near", "_law_length"] ["_law_script"] (defScope s_law) := ⟨rfl, rfl, rfl, by decide +kernel, rfl, by decide +kernel, by decide +kernel⟩
end My
namespace PySem
namespace SupX
open PySem.W PySem.Calls PyProof.Rows PySem.HandSPX Builtin Builtin.ObjectAttr
section
variable {prog : Program} {w : World} {A : Around} {E : Value → Shared → Prop} {R : Result → Shared → Prop} {s : Shared} {K : Frag} {mg : Str → Option Value} {x qual : Str} {B newId i : String} {bmB : List Value} {C fI : Addr}
theorem own_init_InvalidEffect (FB : ExcBaseFacts B newId i bmB) (KF : KxsFacts B i) (SF : StoreFacts B bmB "object.__setattr__" "object") (T : ExF prog K mg x "position" "position" qual My.s_InvalidEffect_init B newId i bmB C fI) (htop : (prog.main.scope.names.lookup ("super" : Str)).isSome = false)
    {xa t0 : Addr} {v : Value} {mb : Str → Option Value} (X : K.In s.heap) (hlim : s.heap.NoLimit) (hg : s.heap.Ns mainGlobals mg) (hb : s.heap.Ns builtinsNs mb) (hbs : mb "super" = bootBuiltins "super")
    (hx : s.heap.get? xa = some (excO C t0)) (hnx : K.lookup xa = none) (hroom : A.depth < recursionLimit)
    (hq : ∀ h' tk dx t1, InitEnd "position" s.heap h' xa C dx t1 v → R (.ok (.ret .none)) { s with heap := h', toks := tk }) :
    codeAny (model prog w) A (.call (.ref fI) ⟨[.ref xa, v], []⟩) R s := by
  obtain ⟨oc, od, kV, doc, pm, an, cda, ct, osl, cc, cl, cld, csl, ccl, cdd, vs, ccs, file, tf, ho, hcd, hcell, hcode, hvs, hfile⟩ := T.fn
  obtain ⟨nm, N', qn, bs, bm, hdct, sn, sub, ab, col, dd, k0, k1, k2, k3, k5, hC, hT⟩ := excInit_of X T.q
  obtain ⟨cd, hcls, l, hm, htl⟩ : ∃ cd, clsIn K C = some cd ∧ ∃ l, cd.mro = .ref C :: l ∧ excTail bmB l = true := by
    have := T.ov
    unfold excOver at this
    rw [Option.any_eq_true] at this
    obtain ⟨cd, h1, h2⟩ := this
    refine ⟨cd, h1, ?_⟩
    split at h2
    · rename_i C' bm' e
      rw [Bool.and_eq_true, beq_iff_eq] at h2
      rw [e, h2.1]
      exact ⟨bm', rfl, h2.2⟩
    · cases h2
  have hhd : cd.hasDict = true := by
    have h := T.hdC
    unfold hasDictIn at h
    rw [hcls] at h
    exact h
  refine ks_codeAny_call_defAt (binds := [("self", .ref xa), ("position", v)]) hroom (X _ _ ho) rfl hlim (codeRec_of X hcd) rfl (BindsTo.of_eq (by first | rfl | with_unfolding_all rfl)) (show ∀ y ∈ (L2.defScope My.s_InvalidEffect_init).names, y.2 ≠ .cell by decide +kernel) (by first | rfl | decide | with_unfolding_all rfl | (intro y hy; simp only [List.mem_cons, List.not_mem_nil, or_false] at hy; rcases hy with rfl | rfl <;> rfl)) (fun h₀ hns hk => ?_) rfl rfl rfl
  have F : Fr s.heap s.heap.objs.size h₀ (fun y => (([("self", .ref xa), ("position", v)] : List (Str × Value)).reverse).lookup y) := ⟨hns, hk, Nat.le_refl _⟩
  have hx0 := hk _ _ hx
  refine ks_wpAt_execs_cons ?_
  refine ks_wpAt_Expr_any ?_
  refine ks_wpAt_MethodCall ?_
  refine super_node (ox := excO C t0) (odx := none) F X hg hb hbs ho rfl rfl ⟨hx0, rfl, rfl, trivial⟩ hcode hvs hfile hcell hcls T.mC T.zs (by decide) rfl rfl rfl rfl htop fun so h1 F1 N1 k1 => ?_
  have hx1 := k1 _ _ hx0
  have I1 : InstAt h1 xa (excO C t0) C none := ⟨hx1, rfl, rfl, trivial⟩
  refine kxs_method KF F1 X N1 List.mem_cons_self I1 T.zt T.su T.suB (by decide) fun u h2 F2 N2 l2 => ?_
  refine kxs_callWith1 N2 List.mem_cons_self ?_
  refine Calls.spliced_cons ?_
  rw [if_neg Bool.false_ne_true]
  with_reducible refine Calls.Constant_str ?_
  show wpAny _ _ (spliced []) _ _ _
  refine Calls.spliced_nil ⟨(N2 _ List.mem_cons_self).1, ?_⟩
  have hx2 := F2.keep _ _ hx
  have X2 : K.In h2 := X.keeps F2.keep
  have hu := (N2 _ List.mem_cons_self).1
  have hC2 := F2.keep _ _ hC
  obtain ⟨oL, es, ep, hL, rL⟩ := F2.ns
  have hLx : s.heap.objs.size ≠ xa := Nat.ne_of_gt (Heap.lt_size hx)
  refine call_mw FB hC2 hx2 hu (by show 1 ≤ sizeLine; decide) fun h3 t1 k3 hx3 => ?_
  have k23 : ∀ b o, b ≠ xa → s.heap.get? b = some o → h3.get? b = some o := fun b o hb e => k3 b o hb (F2.keep b o e)
  have hn3 : h3.Ns s.heap.objs.size (fun y => (([("self", .ref xa), ("position", v)] : List (Str × Value)).reverse).lookup y) := ⟨oL, es, ep, k3 _ _ hLx hL, rL⟩
  have X3 : K.In h3 := fun b o e => k23 b o (fun z => by rw [z, hnx] at e; cases e) (X b o e)
  show _root_.PySem.wpAt _ _ _ (execs _ _) _ _ _
  refine ks_wpAt_execs_cons (wpAt_of_wpAny (plainObj_wpAny_Assign_Attribute ?_))
  refine wpAny_Name (wpAny_loadName_local (by first | rfl | with_unfolding_all rfl) (by first | rfl | with_unfolding_all rfl | kernel_rfl) hn3 (show _ = some v from rfl) ?_) (by decide)
  refine wpAny_Name (wpAny_loadName_local (by first | rfl | with_unfolding_all rfl) (by first | rfl | with_unfolding_all rfl | kernel_rfl) hn3 (show _ = some (.ref xa) from rfl) ?_) (by decide)
  refine set_plain X3 (ox := excO C t1) (od := none) ⟨hx3, rfl, rfl, trivial⟩ T.sa ?_
  refine osa_new SF X3 hx3 hcls hm htl hhd T.no fun h4 tk4 dx k4 dn dne hx4 hn4 => ?_
  show _root_.PySem.wpAt _ _ _ (execs _ _) _ _ _
  refine wpAt_of_wpAny (wpAny_execs_nil ?_)
  have big : s.heap.objs.size ≤ dx := by
    exact Nat.le_trans (Nat.le_of_lt (Heap.lt_size (show h3.get? s.heap.objs.size = some oL from k3 _ _ hLx hL))) (show h3.objs.size ≤ dx from dn)
  exact hq h4 _ dx t1 ⟨fun b o hb e => k4 b o hb (k23 b o hb e), hx4, big, dne, hn4⟩
theorem own_made_InvalidEffect (FB : ExcBaseFacts B newId i bmB) (KF : KxsFacts B i) (SF : StoreFacts B bmB "object.__setattr__" "object") (T : ExF prog K mg x "position" "position" qual My.s_InvalidEffect_init B newId i bmB C fI) (htop : (prog.main.scope.names.lookup ("super" : Str)).isSome = false)
    {v : Value} {mb : Str → Option Value} (X : K.In s.heap) (hlim : s.heap.NoLimit) (hg : s.heap.Ns mainGlobals mg) (hb : s.heap.Ns builtinsNs mb) (hbs : mb "super" = bootBuiltins "super") (hroom : A.depth + 1 < recursionLimit)
    (hq : ∀ h' tk e d, OwnMade "position" s.heap h' e C d v → R (.ok (.ret (.ref e))) { s with heap := h', toks := tk }) :
    codeAny (model prog w) A (.call (.ref C) ⟨[v], []⟩) R s := by
  obtain ⟨nm, N', qn, bs, bm, hdct, sn, sub, ab, col, dd, k0, k1, k2, k3, k5, hC, hT⟩ := excInit_of X T.q
  obtain ⟨hp, g, d, tk, os⟩ := s
  have k : ∀ b o, hp.get? b = some o → ((hp.push (kdv_tup [v])).push (excO C hp.objs.size)).get? b = some o := fun b o e => Heap.get?_push_of_some _ (Heap.get?_push_of_some _ e)
  have hget : ((hp.push (kdv_tup [v])).push (excO C hp.objs.size)).get? (hp.objs.size + 1) = some (excO C hp.objs.size) := by heap_get
  have hnx : K.lookup (hp.objs.size + 1) = none := by
    cases e : K.lookup (hp.objs.size + 1) with
    | none => rfl
    | some o =>
      have z : hp.get? (hp.objs.size + 1) = some o := X _ _ e
      exact absurd (Nat.lt_of_succ_lt (Heap.lt_size z)) (Nat.lt_irrefl _)
  refine call_own FB hT hC (looks_findIn X T.iC) (fun self => bind_fn X self T.tC) (by show 1 ≤ sizeLine; decide) ?_
  refine own_init_InvalidEffect (s := ⟨(hp.push (kdv_tup [v])).push (excO C hp.objs.size), g, d, tk, os⟩) FB KF SF T htop (X.keeps k) (hlim.keeps k) (hg.keeps k) (hb.keeps k) hbs hget hnx ?_ fun h' tk' dx t1 ⟨k', hx, dn, dne, hns⟩ => ?_
  · show A.depth + 1 < recursionLimit
    exact hroom
  · have old : ∀ b o, hp.get? b = some o → h'.get? b = some o := fun b o e => k' b o (Nat.ne_of_lt (Nat.lt_succ_of_lt (Heap.lt_size e))) (k b o e)
    have z : hp.objs.size + 1 + 1 ≤ dx := by
      first
        | (simpa only [Heap.size_push] using dn)
        | exact dn
        | (have q := dn; rw [Heap.size_push, Heap.size_push] at q; exact q)
    exact ⟨rfl, hq h' tk' (hp.objs.size + 1) dx ⟨old, Nat.le_succ _, ⟨_, _, hx, rfl, rfl, rfl, rfl⟩, Nat.le_trans (Nat.le_trans (Nat.le_succ _) (Nat.le_succ _)) z, dne, hns⟩⟩
end
end SupX
end PySem
namespace L2
open PySem PySem.Spec PyProof.Rows PySem.W
section
variable {X : Cx} {C fI : Addr} {x qual : Str} {B newId i : String} {bmB : List Value}
/-- X(e) -/
theorem pmk_InvalidEffect {a : Expr} {ta : TA} {p pos : Pos} {k : Nat} (FB : ExcBaseFacts B newId i bmB) (KF : KxsFacts B i) (SF : StoreFacts B bmB "object.__setattr__" "object") (T : PySem.SupX.ExF X.prog X.K X.mg x "position" "position" qual My.s_InvalidEffect_init B newId i bmB C fI)
    (htop : (X.prog.main.scope.names.lookup ("super" : Str)).isSome = false) (hr : Room k X.A) (ha : PA X [a] ta) (hg : Gl X x) (hdb : (x == ("__debug__" : Str)) = false := by decide)
    (he : starEach (a :: []) X.env = (false, eval a X.env) :: starEach [] X.env := by rfl) (hpl : (backTo pos (starEach [] X.env)).any (·.1) = false := by rfl) :
    PMk X (.Call (.Name x p) [a] [] pos) (PySem.SupX.tMk1 "position" C ta) := by
  intro pins s σ H Q I h
  refine wpAny_Call_Name_kw (ld_glob I hg T.g ?_ hdb)
  refine PySem.W.callWith_K (h₀ := X.base) I.ok.mod.kin T.kC (thn (ha.run pos pins s σ H _ I h) fun us s1 hh => ?_) he hpl
  obtain ⟨vs, H1, I1, r1, v, ev, q1⟩ := hh
  subst ev
  refine ⟨I1.kIn, ?_⟩
  cases r1 with
  | cons rv rn =>
    rename_i v' us'
    cases rn
    show wpAny _ _ (call (.ref C) [v']) _ _ _
    have hlim := I1.nolimit
    obtain ⟨mb, b1, b2⟩ := I1.mod.blt
    have hgl := I1.mod.glob.keeps I1.bk
    have hbl := b1.keeps I1.bk
    obtain ⟨hp, g, d, tk, os⟩ := s1
    refine wpAny_call (PySem.SupX.own_made_InvalidEffect FB KF SF T htop I1.kIn hlim hgl hbl (b2 _ (by decide)) (by have := hr.dp; omega) fun h' tk' e d M => ?_)
    show MkP X pins σ Q (.ref e) ⟨h', g, _, tk', os⟩
    obtain ⟨oe, fv, hoe, hc, hd, hdat, h1⟩ := M.obj
    have hns := M.ns
    obtain ⟨G', g1, g2⟩ := restrict h' fun b => decide (b ≠ e)
    have gk : ∀ b, b ≠ e → G'.get? b = h'.get? b := fun b hb => g1 b (decide_eq_true hb)
    have ge : G'.get? e = none := g2 e (by simp)
    have old : ∀ b o, hp.get? b = some o → G'.get? b = some o := fun b o q => (gk b (Nat.ne_of_lt (Nat.lt_of_lt_of_le (Heap.lt_size q) M.new))).trans (M.keep b o q)
    have ob : ObjOk X.prog X.w (upd H1 d (.xd [(("position" : Str), v)])) G' d (.xd [(("position" : Str), v)]) :=
      ⟨_, hns.at (fun o q => (gk d M.dne).trans q), fun f => PySem.SupX.relO_one rv f⟩
    have J : Inv X pins σ (upd H1 d (.xd [(("position" : Str), v)])) ⟨G', g, _, tk', os⟩ := I1.laid (t' := tk') old M.dbig ob
    refine ⟨e, oe, fv, ⟨G', g, _, tk', os⟩, _, .ref C, some d, rfl, J, fun b o q => ?_, ge, hoe, ⟨hc, hd⟩, hdat, h1, ?_, rfl, I1.bare, raises_own T.exC T.tyC, q1 d (I1.hok.fresh M.dbig)⟩
    · by_cases hb : b = e
      · have q' : G'.get? b = some o := q
        rw [hb, ge] at q'; cases q'
      · exact (gk b hb).symm.trans q
    · rw [upd_ne (Ne.symm M.dne)]
      exact I1.hok.fresh M.new
end
end L2

namespace PySem
namespace SupX
open PySem.W PySem.Calls PyProof.Rows PySem.HandSPX Builtin Builtin.ObjectAttr
section
variable {prog : Program} {w : World} {A : Around} {E : Value → Shared → Prop} {R : Result → Shared → Prop} {s : Shared} {K : Frag} {mg : Str → Option Value} {x qual : Str} {B newId i : String} {bmB : List Value} {C fI : Addr}
theorem own_init_CapacityMismatch (FB : ExcBaseFacts B newId i bmB) (KF : KxsFacts B i) (SF : StoreFacts B bmB "object.__setattr__" "object") (T : ExF prog K mg x "first" "first" qual My.s_CapacityMismatch_init B newId i bmB C fI) (T2 : findIn K (.ref C) "second" = some none) (htop : (prog.main.scope.names.lookup ("super" : Str)).isSome = false)
    {xa t0 : Addr} {v v2 : Value} {mb : Str → Option Value} (X : K.In s.heap) (hlim : s.heap.NoLimit) (hg : s.heap.Ns mainGlobals mg) (hb : s.heap.Ns builtinsNs mb) (hbs : mb "super" = bootBuiltins "super")
    (hx : s.heap.get? xa = some (excO C t0)) (hnx : K.lookup xa = none) (hroom : A.depth < recursionLimit)
    (hq : ∀ h' tk dx t1, InitEndT "first" "second" s.heap h' xa C dx t1 v v2 → R (.ok (.ret .none)) { s with heap := h', toks := tk }) :
    codeAny (model prog w) A (.call (.ref fI) ⟨[.ref xa, v, v2], []⟩) R s := by
  obtain ⟨oc, od, kV, doc, pm, an, cda, ct, osl, cc, cl, cld, csl, ccl, cdd, vs, ccs, file, tf, ho, hcd, hcell, hcode, hvs, hfile⟩ := T.fn
  obtain ⟨nm, N', qn, bs, bm, hdct, sn, sub, ab, col, dd, k0, k1, k2, k3, k5, hC, hT⟩ := excInit_of X T.q
  obtain ⟨cd, hcls, l, hm, htl⟩ : ∃ cd, clsIn K C = some cd ∧ ∃ l, cd.mro = .ref C :: l ∧ excTail bmB l = true := by
    have := T.ov
    unfold excOver at this
    rw [Option.any_eq_true] at this
    obtain ⟨cd, h1, h2⟩ := this
    refine ⟨cd, h1, ?_⟩
    split at h2
    · rename_i C' bm' e
      rw [Bool.and_eq_true, beq_iff_eq] at h2
      rw [e, h2.1]
      exact ⟨bm', rfl, h2.2⟩
    · cases h2
  have hhd : cd.hasDict = true := by
    have h := T.hdC
    unfold hasDictIn at h
    rw [hcls] at h
    exact h
  refine ks_codeAny_call_defAt (binds := [("self", .ref xa), ("first", v), ("second", v2)]) hroom (X _ _ ho) rfl hlim (codeRec_of X hcd) rfl (BindsTo.of_eq (by first | rfl | with_unfolding_all rfl)) (show ∀ y ∈ (L2.defScope My.s_CapacityMismatch_init).names, y.2 ≠ .cell by decide +kernel) (by first | rfl | decide | with_unfolding_all rfl | (intro y hy; simp only [List.mem_cons, List.not_mem_nil, or_false] at hy; rcases hy with rfl | rfl | rfl <;> rfl)) (fun h₀ hns hk => ?_) rfl rfl rfl
  have F : Fr s.heap s.heap.objs.size h₀ (fun y => (([("self", .ref xa), ("first", v), ("second", v2)] : List (Str × Value)).reverse).lookup y) := ⟨hns, hk, Nat.le_refl _⟩
  have hx0 := hk _ _ hx
  refine ks_wpAt_execs_cons ?_
  refine ks_wpAt_Expr_any ?_
  refine ks_wpAt_MethodCall ?_
  refine super_node (ox := excO C t0) (odx := none) F X hg hb hbs ho rfl rfl ⟨hx0, rfl, rfl, trivial⟩ hcode hvs hfile hcell hcls T.mC T.zs (by decide) rfl rfl rfl rfl htop fun so h1 F1 N1 k1 => ?_
  have hx1 := k1 _ _ hx0
  have I1 : InstAt h1 xa (excO C t0) C none := ⟨hx1, rfl, rfl, trivial⟩
  refine kxs_method KF F1 X N1 List.mem_cons_self I1 T.zt T.su T.suB (by decide) fun u h2 F2 N2 l2 => ?_
  refine kxs_callWith1 N2 List.mem_cons_self ?_
  refine Calls.spliced_cons ?_
  rw [if_neg Bool.false_ne_true]
  with_reducible refine Calls.Constant_str ?_
  show wpAny _ _ (spliced []) _ _ _
  refine Calls.spliced_nil ⟨(N2 _ List.mem_cons_self).1, ?_⟩
  have hx2 := F2.keep _ _ hx
  have X2 : K.In h2 := X.keeps F2.keep
  have hu := (N2 _ List.mem_cons_self).1
  have hC2 := F2.keep _ _ hC
  obtain ⟨oL, es, ep, hL, rL⟩ := F2.ns
  have hLx : s.heap.objs.size ≠ xa := Nat.ne_of_gt (Heap.lt_size hx)
  refine call_mw FB hC2 hx2 hu (by show 1 ≤ sizeLine; decide) fun h3 t1 k3 hx3 => ?_
  have k23 : ∀ b o, b ≠ xa → s.heap.get? b = some o → h3.get? b = some o := fun b o hb e => k3 b o hb (F2.keep b o e)
  have hn3 : h3.Ns s.heap.objs.size (fun y => (([("self", .ref xa), ("first", v), ("second", v2)] : List (Str × Value)).reverse).lookup y) := ⟨oL, es, ep, k3 _ _ hLx hL, rL⟩
  have X3 : K.In h3 := fun b o e => k23 b o (fun z => by rw [z, hnx] at e; cases e) (X b o e)
  show _root_.PySem.wpAt _ _ _ (execs _ _) _ _ _
  refine ks_wpAt_execs_cons (wpAt_of_wpAny (plainObj_wpAny_Assign_Attribute ?_))
  refine wpAny_Name (wpAny_loadName_local (by first | rfl | with_unfolding_all rfl) (by first | rfl | with_unfolding_all rfl | kernel_rfl) hn3 (show _ = some v from rfl) ?_) (by decide)
  refine wpAny_Name (wpAny_loadName_local (by first | rfl | with_unfolding_all rfl) (by first | rfl | with_unfolding_all rfl | kernel_rfl) hn3 (show _ = some (.ref xa) from rfl) ?_) (by decide)
  refine set_plain X3 (ox := excO C t1) (od := none) ⟨hx3, rfl, rfl, trivial⟩ T.sa ?_
  refine osa_new SF X3 hx3 hcls hm htl hhd T.no fun h4 tk4 dx k4 dn dne hx4 hn4 => ?_
  have k4s : h4.get? s.heap.objs.size = some oL := k4 _ _ hLx (k3 _ _ hLx hL)
  have hn4' : h4.Ns s.heap.objs.size (fun y => (([("self", .ref xa), ("first", v), ("second", v2)] : List (Str × Value)).reverse).lookup y) := ⟨oL, es, ep, k4s, rL⟩
  have X4 : K.In h4 := fun b o e => k4 b o (fun z => by rw [z, hnx] at e; cases e) (X3 b o e)
  have hwi : Within (fun y => if y = ("first" : Str) then some v else none) ["first"] := fun y hy => by
    by_cases e : y = "first"
    · rw [e]; exact List.mem_cons_self
    · exact absurd (if_neg e) hy
  obtain ⟨oD, esD, epD, hoD, hdD, hcD⟩ := hn4.count hwi
  show _root_.PySem.wpAt _ _ _ (execs _ _) _ _ _
  refine ks_wpAt_execs_cons (wpAt_of_wpAny (plainObj_wpAny_Assign_Attribute ?_))
  refine wpAny_Name (wpAny_loadName_local (by first | rfl | with_unfolding_all rfl) (by first | rfl | with_unfolding_all rfl | kernel_rfl) hn4' (show _ = some v2 from rfl) ?_) (by decide)
  refine wpAny_Name (wpAny_loadName_local (by first | rfl | with_unfolding_all rfl) (by first | rfl | with_unfolding_all rfl | kernel_rfl) hn4' (show _ = some (.ref xa) from rfl) ?_) (by decide)
  refine set_plain X4 (od := some oD) ⟨hx4, rfl, rfl, hoD⟩ T.sa ?_
  refine osa_more SF X4 hx4 hn4 hwi (by decide) hcls hm htl hhd T2 fun h5 tk5 k5' hn5 => ?_
  show _root_.PySem.wpAt _ _ _ (execs _ _) _ _ _
  refine wpAt_of_wpAny (wpAny_execs_nil ?_)
  have big : s.heap.objs.size ≤ dx := by
    exact Nat.le_trans (Nat.le_of_lt (Heap.lt_size (show h3.get? s.heap.objs.size = some oL from k3 _ _ hLx hL))) (show h3.objs.size ≤ dx from dn)
  refine hq h5 _ dx t1 ⟨fun b o hb e => k5' b o (fun z => ?_) (k4 b o hb (k23 b o hb e)), k5' _ _ (Ne.symm dne) hx4, big, dne, hn5⟩
  have hlt := Heap.lt_size e
  rw [z] at hlt
  exact absurd (Nat.lt_of_lt_of_le hlt big) (Nat.lt_irrefl _)
theorem own_made_CapacityMismatch (FB : ExcBaseFacts B newId i bmB) (KF : KxsFacts B i) (SF : StoreFacts B bmB "object.__setattr__" "object") (T : ExF prog K mg x "first" "first" qual My.s_CapacityMismatch_init B newId i bmB C fI) (T2 : findIn K (.ref C) "second" = some none) (htop : (prog.main.scope.names.lookup ("super" : Str)).isSome = false)
    {v v2 : Value} {mb : Str → Option Value} (X : K.In s.heap) (hlim : s.heap.NoLimit) (hg : s.heap.Ns mainGlobals mg) (hb : s.heap.Ns builtinsNs mb) (hbs : mb "super" = bootBuiltins "super") (hroom : A.depth + 1 < recursionLimit)
    (hq : ∀ h' tk e d, OwnMadeT "first" "second" s.heap h' e C d v v2 → R (.ok (.ret (.ref e))) { s with heap := h', toks := tk }) :
    codeAny (model prog w) A (.call (.ref C) ⟨[v, v2], []⟩) R s := by
  obtain ⟨nm, N', qn, bs, bm, hdct, sn, sub, ab, col, dd, k0, k1, k2, k3, k5, hC, hT⟩ := excInit_of X T.q
  obtain ⟨hp, g, d, tk, os⟩ := s
  have k : ∀ b o, hp.get? b = some o → ((hp.push (kdv_tup [v, v2])).push (excO C hp.objs.size)).get? b = some o := fun b o e => Heap.get?_push_of_some _ (Heap.get?_push_of_some _ e)
  have hget : ((hp.push (kdv_tup [v, v2])).push (excO C hp.objs.size)).get? (hp.objs.size + 1) = some (excO C hp.objs.size) := by heap_get
  have hnx : K.lookup (hp.objs.size + 1) = none := by
    cases e : K.lookup (hp.objs.size + 1) with
    | none => rfl
    | some o =>
      have z : hp.get? (hp.objs.size + 1) = some o := X _ _ e
      exact absurd (Nat.lt_of_succ_lt (Heap.lt_size z)) (Nat.lt_irrefl _)
  refine call_own FB hT hC (looks_findIn X T.iC) (fun self => bind_fn X self T.tC) (by show 2 ≤ sizeLine; decide) ?_
  refine own_init_CapacityMismatch (s := ⟨(hp.push (kdv_tup [v, v2])).push (excO C hp.objs.size), g, d, tk, os⟩) FB KF SF T T2 htop (X.keeps k) (hlim.keeps k) (hg.keeps k) (hb.keeps k) hbs hget hnx ?_ fun h' tk' dx t1 ⟨k', hx, dn, dne, hns⟩ => ?_
  · show A.depth + 1 < recursionLimit
    exact hroom
  · have old : ∀ b o, hp.get? b = some o → h'.get? b = some o := fun b o e => k' b o (Nat.ne_of_lt (Nat.lt_succ_of_lt (Heap.lt_size e))) (k b o e)
    have z : hp.objs.size + 1 + 1 ≤ dx := by
      first
        | (simpa only [Heap.size_push] using dn)
        | exact dn
        | (have q := dn; rw [Heap.size_push, Heap.size_push] at q; exact q)
    exact ⟨rfl, hq h' tk' (hp.objs.size + 1) dx ⟨old, Nat.le_succ _, ⟨_, _, hx, rfl, rfl, rfl, rfl⟩, Nat.le_trans (Nat.le_trans (Nat.le_succ _) (Nat.le_succ _)) z, dne, hns⟩⟩
end
end SupX
end PySem
namespace L2
open PySem PySem.Spec PyProof.Rows PySem.W
section
variable {X : Cx} {C fI : Addr} {x qual : Str} {B newId i : String} {bmB : List Value}
/-- X(e) -/
theorem pmk_CapacityMismatch {a a2 : Expr} {ta : TA} {p pos : Pos} {k : Nat} (FB : ExcBaseFacts B newId i bmB) (KF : KxsFacts B i) (SF : StoreFacts B bmB "object.__setattr__" "object") (T : PySem.SupX.ExF X.prog X.K X.mg x "first" "first" qual My.s_CapacityMismatch_init B newId i bmB C fI) (T2 : PySem.W.findIn X.K (.ref C) "second" = some none)
    (htop : (X.prog.main.scope.names.lookup ("super" : Str)).isSome = false) (hr : Room k X.A) (ha : PA X [a, a2] ta) (hg : Gl X x) (hdb : (x == ("__debug__" : Str)) = false := by decide)
    (he : starEach (a :: [a2]) X.env = (false, eval a X.env) :: starEach [a2] X.env := by rfl) (hpl : (backTo pos (starEach [a2] X.env)).any (·.1) = false := by rfl) :
    PMk X (.Call (.Name x p) [a, a2] [] pos) (PySem.SupX.tMk2 "first" "second" C ta) := by
  intro pins s σ H Q I h
  refine wpAny_Call_Name_kw (ld_glob I hg T.g ?_ hdb)
  refine PySem.W.callWith_K (h₀ := X.base) I.ok.mod.kin T.kC (thn (ha.run pos pins s σ H _ I h) fun us s1 hh => ?_) he hpl
  obtain ⟨vs, H1, I1, r1, v, v2, ev, q1⟩ := hh
  subst ev
  refine ⟨I1.kIn, ?_⟩
  obtain ⟨v', v2', rfl, rv, rv2⟩ := PySem.SupX.vals_two r1
  show wpAny _ _ (call (.ref C) [v', v2']) _ _ _
  have hlim := I1.nolimit
  obtain ⟨mb, b1, b2⟩ := I1.mod.blt
  have hgl := I1.mod.glob.keeps I1.bk
  have hbl := b1.keeps I1.bk
  obtain ⟨hp, g, d, tk, os⟩ := s1
  refine wpAny_call (PySem.SupX.own_made_CapacityMismatch FB KF SF T T2 htop I1.kIn hlim hgl hbl (b2 _ (by decide)) (by have := hr.dp; omega) fun h' tk' e d M => ?_)
  show MkP X pins σ Q (.ref e) ⟨h', g, _, tk', os⟩
  obtain ⟨oe, fv, hoe, hc, hd, hdat, h1⟩ := M.obj
  have hns := M.ns
  obtain ⟨G', g1, g2⟩ := restrict h' fun b => decide (b ≠ e)
  have gk : ∀ b, b ≠ e → G'.get? b = h'.get? b := fun b hb => g1 b (decide_eq_true hb)
  have ge : G'.get? e = none := g2 e (by simp)
  have old : ∀ b o, hp.get? b = some o → G'.get? b = some o := fun b o q => (gk b (Nat.ne_of_lt (Nat.lt_of_lt_of_le (Heap.lt_size q) M.new))).trans (M.keep b o q)
  have ob : ObjOk X.prog X.w (upd H1 d (.xd [(("first" : Str), v), (("second" : Str), v2)])) G' d (.xd [(("first" : Str), v), (("second" : Str), v2)]) :=
    ⟨_, hns.at (fun o q => (gk d M.dne).trans q), fun f => PySem.SupX.relO_two (by decide) rv rv2 f⟩
  have J : Inv X pins σ (upd H1 d (.xd [(("first" : Str), v), (("second" : Str), v2)])) ⟨G', g, _, tk', os⟩ := I1.laid (t' := tk') old M.dbig ob
  refine ⟨e, oe, fv, ⟨G', g, _, tk', os⟩, _, .ref C, some d, rfl, J, fun b o q => ?_, ge, hoe, ⟨hc, hd⟩, hdat, h1, ?_, rfl, I1.bare, raises_own T.exC T.tyC, q1 d (I1.hok.fresh M.dbig)⟩
  · by_cases hb : b = e
    · have q' : G'.get? b = some o := q
      rw [hb, ge] at q'; cases q'
    · exact (gk b hb).symm.trans q
  · rw [upd_ne (Ne.symm M.dne)]
    exact I1.hok.fresh M.new
end
end L2

namespace PySem
namespace SupX
open PySem.W PySem.Calls PyProof.Rows PySem.HandSPX Builtin Builtin.ObjectAttr
section
variable {prog : Program} {w : World} {A : Around} {E : Value → Shared → Prop} {R : Result → Shared → Prop} {s : Shared} {K : Frag} {mg : Str → Option Value} {x qual : Str} {B newId i : String} {bmB : List Value} {C fI : Addr}
theorem own_init_EffectFailed (FB : ExcBaseFacts B newId i bmB) (KF : KxsFacts B i) (SF : StoreFacts B bmB "object.__setattr__" "object") (T : ExF prog K mg x "length" "length" qual My.s_EffectFailed_init B newId i bmB C fI) (htop : (prog.main.scope.names.lookup ("super" : Str)).isSome = false)
    {xa t0 : Addr} {v : Value} {mb : Str → Option Value} (X : K.In s.heap) (hlim : s.heap.NoLimit) (hg : s.heap.Ns mainGlobals mg) (hb : s.heap.Ns builtinsNs mb) (hbs : mb "super" = bootBuiltins "super")
    (hx : s.heap.get? xa = some (excO C t0)) (hnx : K.lookup xa = none) (hroom : A.depth < recursionLimit)
    (hq : ∀ h' tk dx t1, InitEnd "length" s.heap h' xa C dx t1 v → R (.ok (.ret .none)) { s with heap := h', toks := tk }) :
    codeAny (model prog w) A (.call (.ref fI) ⟨[.ref xa, v], []⟩) R s := by
  obtain ⟨oc, od, kV, doc, pm, an, cda, ct, osl, cc, cl, cld, csl, ccl, cdd, vs, ccs, file, tf, ho, hcd, hcell, hcode, hvs, hfile⟩ := T.fn
  obtain ⟨nm, N', qn, bs, bm, hdct, sn, sub, ab, col, dd, k0, k1, k2, k3, k5, hC, hT⟩ := excInit_of X T.q
  obtain ⟨cd, hcls, l, hm, htl⟩ : ∃ cd, clsIn K C = some cd ∧ ∃ l, cd.mro = .ref C :: l ∧ excTail bmB l = true := by
    have := T.ov
    unfold excOver at this
    rw [Option.any_eq_true] at this
    obtain ⟨cd, h1, h2⟩ := this
    refine ⟨cd, h1, ?_⟩
    split at h2
    · rename_i C' bm' e
      rw [Bool.and_eq_true, beq_iff_eq] at h2
      rw [e, h2.1]
      exact ⟨bm', rfl, h2.2⟩
    · cases h2
  have hhd : cd.hasDict = true := by
    have h := T.hdC
    unfold hasDictIn at h
    rw [hcls] at h
    exact h
  refine ks_codeAny_call_defAt (binds := [("self", .ref xa), ("length", v)]) hroom (X _ _ ho) rfl hlim (codeRec_of X hcd) rfl (BindsTo.of_eq (by first | rfl | with_unfolding_all rfl)) (show ∀ y ∈ (L2.defScope My.s_EffectFailed_init).names, y.2 ≠ .cell by decide +kernel) (by first | rfl | decide | with_unfolding_all rfl | (intro y hy; simp only [List.mem_cons, List.not_mem_nil, or_false] at hy; rcases hy with rfl | rfl <;> rfl)) (fun h₀ hns hk => ?_) rfl rfl rfl
  have F : Fr s.heap s.heap.objs.size h₀ (fun y => (([("self", .ref xa), ("length", v)] : List (Str × Value)).reverse).lookup y) := ⟨hns, hk, Nat.le_refl _⟩
  have hx0 := hk _ _ hx
  refine ks_wpAt_execs_cons ?_
  refine ks_wpAt_Expr_any ?_
  refine ks_wpAt_MethodCall ?_
  refine super_node (ox := excO C t0) (odx := none) F X hg hb hbs ho rfl rfl ⟨hx0, rfl, rfl, trivial⟩ hcode hvs hfile hcell hcls T.mC T.zs (by decide) rfl rfl rfl rfl htop fun so h1 F1 N1 k1 => ?_
  have hx1 := k1 _ _ hx0
  have I1 : InstAt h1 xa (excO C t0) C none := ⟨hx1, rfl, rfl, trivial⟩
  refine kxs_method KF F1 X N1 List.mem_cons_self I1 T.zt T.su T.suB (by decide) fun u h2 F2 N2 l2 => ?_
  refine kxs_callWith1 N2 List.mem_cons_self ?_
  refine Calls.spliced_cons ?_
  rw [if_neg Bool.false_ne_true]
  with_reducible refine Calls.Constant_str ?_
  show wpAny _ _ (spliced []) _ _ _
  refine Calls.spliced_nil ⟨(N2 _ List.mem_cons_self).1, ?_⟩
  have hx2 := F2.keep _ _ hx
  have X2 : K.In h2 := X.keeps F2.keep
  have hu := (N2 _ List.mem_cons_self).1
  have hC2 := F2.keep _ _ hC
  obtain ⟨oL, es, ep, hL, rL⟩ := F2.ns
  have hLx : s.heap.objs.size ≠ xa := Nat.ne_of_gt (Heap.lt_size hx)
  refine call_mw FB hC2 hx2 hu (by show 1 ≤ sizeLine; decide) fun h3 t1 k3 hx3 => ?_
  have k23 : ∀ b o, b ≠ xa → s.heap.get? b = some o → h3.get? b = some o := fun b o hb e => k3 b o hb (F2.keep b o e)
  have hn3 : h3.Ns s.heap.objs.size (fun y => (([("self", .ref xa), ("length", v)] : List (Str × Value)).reverse).lookup y) := ⟨oL, es, ep, k3 _ _ hLx hL, rL⟩
  have X3 : K.In h3 := fun b o e => k23 b o (fun z => by rw [z, hnx] at e; cases e) (X b o e)
  show _root_.PySem.wpAt _ _ _ (execs _ _) _ _ _
  refine ks_wpAt_execs_cons (wpAt_of_wpAny (plainObj_wpAny_Assign_Attribute ?_))
  refine wpAny_Name (wpAny_loadName_local (by first | rfl | with_unfolding_all rfl) (by first | rfl | with_unfolding_all rfl | kernel_rfl) hn3 (show _ = some v from rfl) ?_) (by decide)
  refine wpAny_Name (wpAny_loadName_local (by first | rfl | with_unfolding_all rfl) (by first | rfl | with_unfolding_all rfl | kernel_rfl) hn3 (show _ = some (.ref xa) from rfl) ?_) (by decide)
  refine set_plain X3 (ox := excO C t1) (od := none) ⟨hx3, rfl, rfl, trivial⟩ T.sa ?_
  refine osa_new SF X3 hx3 hcls hm htl hhd T.no fun h4 tk4 dx k4 dn dne hx4 hn4 => ?_
  show _root_.PySem.wpAt _ _ _ (execs _ _) _ _ _
  refine wpAt_of_wpAny (wpAny_execs_nil ?_)
  have big : s.heap.objs.size ≤ dx := by
    exact Nat.le_trans (Nat.le_of_lt (Heap.lt_size (show h3.get? s.heap.objs.size = some oL from k3 _ _ hLx hL))) (show h3.objs.size ≤ dx from dn)
  exact hq h4 _ dx t1 ⟨fun b o hb e => k4 b o hb (k23 b o hb e), hx4, big, dne, hn4⟩
theorem own_made_EffectFailed (FB : ExcBaseFacts B newId i bmB) (KF : KxsFacts B i) (SF : StoreFacts B bmB "object.__setattr__" "object") (T : ExF prog K mg x "length" "length" qual My.s_EffectFailed_init B newId i bmB C fI) (htop : (prog.main.scope.names.lookup ("super" : Str)).isSome = false)
    {v : Value} {mb : Str → Option Value} (X : K.In s.heap) (hlim : s.heap.NoLimit) (hg : s.heap.Ns mainGlobals mg) (hb : s.heap.Ns builtinsNs mb) (hbs : mb "super" = bootBuiltins "super") (hroom : A.depth + 1 < recursionLimit)
    (hq : ∀ h' tk e d, OwnMade "length" s.heap h' e C d v → R (.ok (.ret (.ref e))) { s with heap := h', toks := tk }) :
    codeAny (model prog w) A (.call (.ref C) ⟨[v], []⟩) R s := by
  obtain ⟨nm, N', qn, bs, bm, hdct, sn, sub, ab, col, dd, k0, k1, k2, k3, k5, hC, hT⟩ := excInit_of X T.q
  obtain ⟨hp, g, d, tk, os⟩ := s
  have k : ∀ b o, hp.get? b = some o → ((hp.push (kdv_tup [v])).push (excO C hp.objs.size)).get? b = some o := fun b o e => Heap.get?_push_of_some _ (Heap.get?_push_of_some _ e)
  have hget : ((hp.push (kdv_tup [v])).push (excO C hp.objs.size)).get? (hp.objs.size + 1) = some (excO C hp.objs.size) := by heap_get
  have hnx : K.lookup (hp.objs.size + 1) = none := by
    cases e : K.lookup (hp.objs.size + 1) with
    | none => rfl
    | some o =>
      have z : hp.get? (hp.objs.size + 1) = some o := X _ _ e
      exact absurd (Nat.lt_of_succ_lt (Heap.lt_size z)) (Nat.lt_irrefl _)
  refine call_own FB hT hC (looks_findIn X T.iC) (fun self => bind_fn X self T.tC) (by show 1 ≤ sizeLine; decide) ?_
  refine own_init_EffectFailed (s := ⟨(hp.push (kdv_tup [v])).push (excO C hp.objs.size), g, d, tk, os⟩) FB KF SF T htop (X.keeps k) (hlim.keeps k) (hg.keeps k) (hb.keeps k) hbs hget hnx ?_ fun h' tk' dx t1 ⟨k', hx, dn, dne, hns⟩ => ?_
  · show A.depth + 1 < recursionLimit
    exact hroom
  · have old : ∀ b o, hp.get? b = some o → h'.get? b = some o := fun b o e => k' b o (Nat.ne_of_lt (Nat.lt_succ_of_lt (Heap.lt_size e))) (k b o e)
    have z : hp.objs.size + 1 + 1 ≤ dx := by
      first
        | (simpa only [Heap.size_push] using dn)
        | exact dn
        | (have q := dn; rw [Heap.size_push, Heap.size_push] at q; exact q)
    exact ⟨rfl, hq h' tk' (hp.objs.size + 1) dx ⟨old, Nat.le_succ _, ⟨_, _, hx, rfl, rfl, rfl, rfl⟩, Nat.le_trans (Nat.le_trans (Nat.le_succ _) (Nat.le_succ _)) z, dne, hns⟩⟩
end
end SupX
end PySem
namespace L2
open PySem PySem.Spec PyProof.Rows PySem.W
section
variable {X : Cx} {C fI : Addr} {x qual : Str} {B newId i : String} {bmB : List Value}
/-- X(e) -/
theorem pmk_EffectFailed {a : Expr} {ta : TA} {p pos : Pos} {k : Nat} (FB : ExcBaseFacts B newId i bmB) (KF : KxsFacts B i) (SF : StoreFacts B bmB "object.__setattr__" "object") (T : PySem.SupX.ExF X.prog X.K X.mg x "length" "length" qual My.s_EffectFailed_init B newId i bmB C fI)
    (htop : (X.prog.main.scope.names.lookup ("super" : Str)).isSome = false) (hr : Room k X.A) (ha : PA X [a] ta) (hg : Gl X x) (hdb : (x == ("__debug__" : Str)) = false := by decide)
    (he : starEach (a :: []) X.env = (false, eval a X.env) :: starEach [] X.env := by rfl) (hpl : (backTo pos (starEach [] X.env)).any (·.1) = false := by rfl) :
    PMk X (.Call (.Name x p) [a] [] pos) (PySem.SupX.tMk1 "length" C ta) := by
  intro pins s σ H Q I h
  refine wpAny_Call_Name_kw (ld_glob I hg T.g ?_ hdb)
  refine PySem.W.callWith_K (h₀ := X.base) I.ok.mod.kin T.kC (thn (ha.run pos pins s σ H _ I h) fun us s1 hh => ?_) he hpl
  obtain ⟨vs, H1, I1, r1, v, ev, q1⟩ := hh
  subst ev
  refine ⟨I1.kIn, ?_⟩
  cases r1 with
  | cons rv rn =>
    rename_i v' us'
    cases rn
    show wpAny _ _ (call (.ref C) [v']) _ _ _
    have hlim := I1.nolimit
    obtain ⟨mb, b1, b2⟩ := I1.mod.blt
    have hgl := I1.mod.glob.keeps I1.bk
    have hbl := b1.keeps I1.bk
    obtain ⟨hp, g, d, tk, os⟩ := s1
    refine wpAny_call (PySem.SupX.own_made_EffectFailed FB KF SF T htop I1.kIn hlim hgl hbl (b2 _ (by decide)) (by have := hr.dp; omega) fun h' tk' e d M => ?_)
    show MkP X pins σ Q (.ref e) ⟨h', g, _, tk', os⟩
    obtain ⟨oe, fv, hoe, hc, hd, hdat, h1⟩ := M.obj
    have hns := M.ns
    obtain ⟨G', g1, g2⟩ := restrict h' fun b => decide (b ≠ e)
    have gk : ∀ b, b ≠ e → G'.get? b = h'.get? b := fun b hb => g1 b (decide_eq_true hb)
    have ge : G'.get? e = none := g2 e (by simp)
    have old : ∀ b o, hp.get? b = some o → G'.get? b = some o := fun b o q => (gk b (Nat.ne_of_lt (Nat.lt_of_lt_of_le (Heap.lt_size q) M.new))).trans (M.keep b o q)
    have ob : ObjOk X.prog X.w (upd H1 d (.xd [(("length" : Str), v)])) G' d (.xd [(("length" : Str), v)]) :=
      ⟨_, hns.at (fun o q => (gk d M.dne).trans q), fun f => PySem.SupX.relO_one rv f⟩
    have J : Inv X pins σ (upd H1 d (.xd [(("length" : Str), v)])) ⟨G', g, _, tk', os⟩ := I1.laid (t' := tk') old M.dbig ob
    refine ⟨e, oe, fv, ⟨G', g, _, tk', os⟩, _, .ref C, some d, rfl, J, fun b o q => ?_, ge, hoe, ⟨hc, hd⟩, hdat, h1, ?_, rfl, I1.bare, raises_own T.exC T.tyC, q1 d (I1.hok.fresh M.dbig)⟩
    · by_cases hb : b = e
      · have q' : G'.get? b = some o := q
        rw [hb, ge] at q'; cases q'
      · exact (gk b hb).symm.trans q
    · rw [upd_ne (Ne.symm M.dne)]
      exact I1.hok.fresh M.new
end
end L2

namespace My
open PySem L2 TL
local macro_rules | `(tactic| walk_at "rd") => `(tactic| try simp only [tMakeK, tFld, sFld, tProp, tMeth, tMake, tMakeL, ClX.tCMeth, tAsg2, tAsg3, tAsg4, tDNewK, rU, tYes, tSeq, tNext, tDrop, tRet, tRetN, tIfS, tAsg, tAug, tPar, gName, gSub, gTup, tVar, tC, tOp, tUn, tTest, tB, tAnd, tOr, tNot, tAndV, tOrV, tNotV, tIf, tChain, tCB, tCons, tNil, tCall, tLst, tTup, tSl, tPart, tNoPart, tM0, tM1, tBM, tBM0, rI, rI0, rEq, rNe,
  List.append_nil, List.cons_append, List.nil_append, List.getElem?_cons_zero, List.getElem?_cons_succ, List.set_cons_zero, List.set_cons_succ, Option.some.injEq, V.int.injEq, V.bl.injEq, V.str.injEq, V.ref.injEq, List.cons.injEq, and_true, true_and,
  and_assoc, exists_and_left, exists_and_right, exists_eq_left, exists_eq_left', decide_true, decide_false, reduceCtorEq, nox_K, cx_K, ite_t, ite_f, exists_false, false_and, and_false, false_or, or_false, if_true, if_false, ite_true, ite_false, scal, tyV, Bool.not_true, Bool.not_false, Bool.true_and, Bool.and_true, Bool.false_and, Bool.and_false])
local macro_rules | `(tactic| walk_at "sz") => `(tactic| (first | (show _ ≤ sizeLine) | (show _ < sizeLine)); simp only [List.length_cons, List.length_nil]; decide)
local macro_rules | `(tactic| walk_at "wp") => `(tactic| simp only [wipe, List.map_cons, List.map_nil, List.set_cons_zero, List.set_cons_succ])

structure Top (K : PySem.W.Frag) (mg : Str → Option Value) where
  a_is_int : Addr
  d_is_int : FuncData
  F_is_int : Fun K "is_int" "is_int" s_is_int a_is_int d_is_int
  b_is_int : Binds K d_is_int ["value"] []
  m_is_int : mg "is_int" = some (.ref a_is_int)
  a_is_int_between : Addr
  d_is_int_between : FuncData
  F_is_int_between : Fun K "is_int_between" "is_int_between" s_is_int_between a_is_int_between d_is_int_between
  b_is_int_between : Binds K d_is_int_between ["value", "least", "most"] []
  m_is_int_between : mg "is_int_between" = some (.ref a_is_int_between)
  a_is_capacity : Addr
  d_is_capacity : FuncData
  F_is_capacity : Fun K "is_capacity" "is_capacity" s_is_capacity a_is_capacity d_is_capacity
  b_is_capacity : Binds K d_is_capacity ["value"] []
  m_is_capacity : mg "is_capacity" = some (.ref a_is_capacity)
  a_is_queue : Addr
  d_is_queue : FuncData
  F_is_queue : FunD K "is_queue" "is_queue" (defArgs s_is_queue) (defBody s_is_queue) (defScope s_is_queue) [.int 100] [] a_is_queue d_is_queue
  e_is_queue : List Value
  v_is_queue : Vals [.int 100] e_is_queue
  bd_is_queue : Binds K d_is_queue ["value", "capacity"] e_is_queue
  b_is_queue : Binds K d_is_queue ["value", "capacity"] []
  m_is_queue : mg "is_queue" = some (.ref a_is_queue)
  a_has_letters_only : Addr
  d_has_letters_only : FuncData
  F_has_letters_only : Fun K "has_letters_only" "has_letters_only" s_has_letters_only a_has_letters_only d_has_letters_only
  b_has_letters_only : Binds K d_has_letters_only ["value"] []
  m_has_letters_only : mg "has_letters_only" = some (.ref a_has_letters_only)
  a_check_capacity : Addr
  d_check_capacity : FuncData
  F_check_capacity : Fun K "check_capacity" "check_capacity" s_check_capacity a_check_capacity d_check_capacity
  b_check_capacity : Binds K d_check_capacity ["value"] []
  m_check_capacity : mg "check_capacity" = some (.ref a_check_capacity)
  a_check_queue : Addr
  d_check_queue : FuncData
  F_check_queue : Fun K "check_queue" "check_queue" s_check_queue a_check_queue d_check_queue
  b_check_queue : Binds K d_check_queue ["value", "capacity"] []
  m_check_queue : mg "check_queue" = some (.ref a_check_queue)
  a_check_length : Addr
  d_check_length : FuncData
  F_check_length : Fun K "check_length" "check_length" s_check_length a_check_length d_check_length
  b_check_length : Binds K d_check_length ["value", "capacity"] []
  m_check_length : mg "check_length" = some (.ref a_check_length)
  a_is_count : Addr
  d_is_count : FuncData
  F_is_count : Fun K "is_count" "is_count" s_is_count a_is_count d_is_count
  b_is_count : Binds K d_is_count ["value"] []
  m_is_count : mg "is_count" = some (.ref a_is_count)
  a_check_count : Addr
  d_check_count : FuncData
  F_check_count : Fun K "check_count" "check_count" s_check_count a_check_count d_check_count
  b_check_count : Binds K d_check_count ["value"] []
  m_check_count : mg "check_count" = some (.ref a_check_count)
  a_ending : Addr
  d_ending : FuncData
  F_ending : Fun K "ending" "ending" s_ending a_ending d_ending
  b_ending : Binds K d_ending ["text", "most"] []
  m_ending : mg "ending" = some (.ref a_ending)
  a_is_row : Addr
  d_is_row : FuncData
  F_is_row : Fun K "is_row" "is_row" s_is_row a_is_row d_is_row
  b_is_row : Binds K d_is_row ["value", "length", "capacity"] []
  m_is_row : mg "is_row" = some (.ref a_is_row)
  a_identity_rows : Addr
  d_identity_rows : FuncData
  F_identity_rows : Fun K "identity_rows" "identity_rows" s_identity_rows a_identity_rows d_identity_rows
  b_identity_rows : Binds K d_identity_rows ["capacity"] []
  m_identity_rows : mg "identity_rows" = some (.ref a_identity_rows)
  a_product_rows : Addr
  d_product_rows : FuncData
  F_product_rows : Fun K "product_rows" "product_rows" s_product_rows a_product_rows d_product_rows
  b_product_rows : Binds K d_product_rows ["first", "second"] []
  m_product_rows : mg "product_rows" = some (.ref a_product_rows)
  a_row_after : Addr
  d_row_after : FuncData
  F_row_after : Fun K "row_after" "row_after" s_row_after a_row_after d_row_after
  b_row_after : Binds K d_row_after ["row", "rows"] []
  m_row_after : mg "row_after" = some (.ref a_row_after)
  a_end_of_row : Addr
  d_end_of_row : FuncData
  F_end_of_row : Fun K "end_of_row" "end_of_row" s_end_of_row a_end_of_row d_end_of_row
  b_end_of_row : Binds K d_end_of_row ["row"] []
  m_end_of_row : mg "end_of_row" = some (.ref a_end_of_row)
  a_result_of_row : Addr
  d_result_of_row : FuncData
  F_result_of_row : Fun K "result_of_row" "result_of_row" s_result_of_row a_result_of_row d_result_of_row
  b_result_of_row : Binds K d_result_of_row ["row", "queue"] []
  m_result_of_row : mg "result_of_row" = some (.ref a_result_of_row)
  a_power_rows : Addr
  d_power_rows : FuncData
  F_power_rows : Fun K "power_rows" "power_rows" s_power_rows a_power_rows d_power_rows
  b_power_rows : Binds K d_power_rows ["rows", "exponent"] []
  m_power_rows : mg "power_rows" = some (.ref a_power_rows)
  a_Effect_init : Addr
  d_Effect_init : FuncData
  F_Effect_init : Fun K "__init__" "Effect.__init__" s_Effect_init a_Effect_init d_Effect_init
  b_Effect_init : Binds K d_Effect_init ["self", "capacity", "rows"] []
  a_Effect_capacity : Addr
  d_Effect_capacity : FuncData
  F_Effect_capacity : Fun K "capacity" "Effect.capacity" s_Effect_capacity a_Effect_capacity d_Effect_capacity
  b_Effect_capacity : Binds K d_Effect_capacity ["self"] []
  a_Effect_rows : Addr
  d_Effect_rows : FuncData
  F_Effect_rows : Fun K "rows" "Effect.rows" s_Effect_rows a_Effect_rows d_Effect_rows
  b_Effect_rows : Binds K d_Effect_rows ["self"] []
  a_Effect_identity : Addr
  d_Effect_identity : FuncData
  F_Effect_identity : Fun K "identity" "Effect.identity" s_Effect_identity a_Effect_identity d_Effect_identity
  b_Effect_identity : Binds K d_Effect_identity ["cls", "capacity"] []
  a_Effect_call : Addr
  d_Effect_call : FuncData
  F_Effect_call : Fun K "__call__" "Effect.__call__" s_Effect_call a_Effect_call d_Effect_call
  b_Effect_call : Binds K d_Effect_call ["self", "queue"] []
  a_Effect_getitem : Addr
  d_Effect_getitem : FuncData
  F_Effect_getitem : Fun K "__getitem__" "Effect.__getitem__" s_Effect_getitem a_Effect_getitem d_Effect_getitem
  b_Effect_getitem : Binds K d_Effect_getitem ["self", "at"] []
  a_check_rows : Addr
  d_check_rows : FuncData
  F_check_rows : Fun K "check_rows" "check_rows" s_check_rows a_check_rows d_check_rows
  b_check_rows : Binds K d_check_rows ["value", "capacity"] []
  m_check_rows : mg "check_rows" = some (.ref a_check_rows)
  a_check_effect : Addr
  d_check_effect : FuncData
  F_check_effect : Fun K "check_effect" "check_effect" s_check_effect a_check_effect d_check_effect
  b_check_effect : Binds K d_check_effect ["value"] []
  m_check_effect : mg "check_effect" = some (.ref a_check_effect)
  a_check_same_capacity : Addr
  d_check_same_capacity : FuncData
  F_check_same_capacity : Fun K "check_same_capacity" "check_same_capacity" s_check_same_capacity a_check_same_capacity d_check_same_capacity
  b_check_same_capacity : Binds K d_check_same_capacity ["one", "other"] []
  m_check_same_capacity : mg "check_same_capacity" = some (.ref a_check_same_capacity)
  a_separating_queue : Addr
  d_separating_queue : FuncData
  F_separating_queue : Fun K "separating_queue" "separating_queue" s_separating_queue a_separating_queue d_separating_queue
  b_separating_queue : Binds K d_separating_queue ["one", "other"] []
  m_separating_queue : mg "separating_queue" = some (.ref a_separating_queue)
  a_queue_between : Addr
  d_queue_between : FuncData
  F_queue_between : Fun K "queue_between" "queue_between" s_queue_between a_queue_between d_queue_between
  b_queue_between : Binds K d_queue_between ["length", "row", "other_row"] []
  m_queue_between : mg "queue_between" = some (.ref a_queue_between)
  a__law_draws : Addr
  d__law_draws : FuncData
  F__law_draws : Fun K "_law_draws" "_law_draws" s__law_draws a__law_draws d__law_draws
  b__law_draws : Binds K d__law_draws ["_law_script", "_law_k"] []
  m__law_draws : mg "_law_draws" = some (.ref a__law_draws)
  a__law_draw : Addr
  d__law_draw : FuncData
  F__law_draw : Fun K "_law_draw" "_law_draw" s__law_draw a__law_draw d__law_draw
  b__law_draw : Binds K d__law_draw ["_law_draws_here", "_law_upto"] []
  m__law_draw : mg "_law_draw" = some (.ref a__law_draw)
  a__law_letter : Addr
  d__law_letter : FuncData
  F__law_letter : Fun K "_law_letter" "_law_letter" s__law_letter a__law_letter d__law_letter
  b__law_letter : Binds K d__law_letter ["_law_draws_here"] []
  m__law_letter : mg "_law_letter" = some (.ref a__law_letter)
  a__law_queue : Addr
  d__law_queue : FuncData
  F__law_queue : Fun K "_law_queue" "_law_queue" s__law_queue a__law_queue d__law_queue
  b__law_queue : Binds K d__law_queue ["_law_draws_here", "_law_most"] []
  m__law_queue : mg "_law_queue" = some (.ref a__law_queue)
  a__law_rows : Addr
  d__law_rows : FuncData
  F__law_rows : Fun K "_law_rows" "_law_rows" s__law_rows a__law_rows d__law_rows
  b__law_rows : Binds K d__law_rows ["_law_draws_here", "_law_capacity"] []
  m__law_rows : mg "_law_rows" = some (.ref a__law_rows)
  a__law_applied : Addr
  d__law_applied : FuncData
  F__law_applied : Fun K "_law_applied" "_law_applied" s__law_applied a__law_applied d__law_applied
  b__law_applied : Binds K d__law_applied ["_law_effect", "_law_queue_here"] []
  m__law_applied : mg "_law_applied" = some (.ref a__law_applied)
  a__law_other : Addr
  d__law_other : FuncData
  F__law_other : Fun K "_law_other" "_law_other" s__law_other a__law_other d__law_other
  b__law_other : Binds K d__law_other ["_law_draws_here", "_law_rows_here", "_law_capacity"] []
  m__law_other : mg "_law_other" = some (.ref a__law_other)
  a__law_error : Addr
  d__law_error : FuncData
  F__law_error : Fun K "_law_error" "_law_error" s__law_error a__law_error d__law_error
  b__law_error : Binds K d__law_error ["_law_one", "_law_other_here"] []
  m__law_error : mg "_law_error" = some (.ref a__law_error)
  a_law : Addr
  d_law : FuncData
  F_law : Fun K "law" "law" s_law a_law d_law
  b_law : Binds K d_law ["_law_script"] []
  m_law : mg "law" = some (.ref a_law)
  z_NotImplemented : mg "NotImplemented" = none
  z_TypeError : mg "TypeError" = none
  z_any : mg "any" = none
  z_bool : mg "bool" = none
  z_classmethod : mg "classmethod" = none
  z_enumerate : mg "enumerate" = none
  z_int : mg "int" = none
  z_isinstance : mg "isinstance" = none
  z_len : mg "len" = none
  z_list : mg "list" = none
  z_max : mg "max" = none
  z_min : mg "min" = none
  z_property : mg "property" = none
  z_range : mg "range" = none
  z_str : mg "str" = none
  z_tuple : mg "tuple" = none
  u_LETTERS : Tok
  c_LETTERS : mg "LETTERS" = some (.str "abcdefghijklmnopqrstuvwxyz" u_LETTERS)
  u_MOST_CAPACITY : Tok
  c_MOST_CAPACITY : mg "MOST_CAPACITY" = some (.int 100 u_MOST_CAPACITY)
  u_MOST_COUNT : Tok
  c_MOST_COUNT : mg "MOST_COUNT" = some (.int 1000000000000000000000000000000 u_MOST_COUNT)
  x_InvalidCapacity : Addr
  g_InvalidCapacity : mg "InvalidCapacity" = some (.ref x_InvalidCapacity)
  q_InvalidCapacity : PySem.W.excIn K x_InvalidCapacity [.type "ValueError", .type "Exception", .type "BaseException", .type "object"] "ValueError.__new__" = true
  k_InvalidCapacity : PySem.W.keepIn K (.ref x_InvalidCapacity) = true
  b_InvalidCapacity : PySem.W.subIn K (.ref x_InvalidCapacity) (.type "BaseException") = some true
  t_InvalidCapacity : PySem.W.typeIn K (.ref x_InvalidCapacity) = some (.type "type")
  e_InvalidCapacity : PySem.W.exmOne K (.ref x_InvalidCapacity) (.ref x_InvalidCapacity) = some true
  x_InvalidInteger : Addr
  g_InvalidInteger : mg "InvalidInteger" = some (.ref x_InvalidInteger)
  q_InvalidInteger : PySem.W.excIn K x_InvalidInteger [.type "ValueError", .type "Exception", .type "BaseException", .type "object"] "ValueError.__new__" = true
  k_InvalidInteger : PySem.W.keepIn K (.ref x_InvalidInteger) = true
  b_InvalidInteger : PySem.W.subIn K (.ref x_InvalidInteger) (.type "BaseException") = some true
  t_InvalidInteger : PySem.W.typeIn K (.ref x_InvalidInteger) = some (.type "type")
  e_InvalidInteger : PySem.W.exmOne K (.ref x_InvalidInteger) (.ref x_InvalidInteger) = some true
  x_InvalidQueue : Addr
  g_InvalidQueue : mg "InvalidQueue" = some (.ref x_InvalidQueue)
  q_InvalidQueue : PySem.W.excIn K x_InvalidQueue [.type "ValueError", .type "Exception", .type "BaseException", .type "object"] "ValueError.__new__" = true
  k_InvalidQueue : PySem.W.keepIn K (.ref x_InvalidQueue) = true
  b_InvalidQueue : PySem.W.subIn K (.ref x_InvalidQueue) (.type "BaseException") = some true
  t_InvalidQueue : PySem.W.typeIn K (.ref x_InvalidQueue) = some (.type "type")
  e_InvalidQueue : PySem.W.exmOne K (.ref x_InvalidQueue) (.ref x_InvalidQueue) = some true
  x_InvalidEffect : Addr
  y_InvalidEffect : Addr
  E_InvalidEffect : PySem.SupX.ExF P K mg "InvalidEffect" "position" "position" "InvalidEffect.__init__" s_InvalidEffect_init "ValueError" "ValueError.__new__" "ValueError.__init__" [.type "ValueError", .type "Exception", .type "BaseException", .type "object"] x_InvalidEffect y_InvalidEffect
  x_CapacityMismatch : Addr
  y_CapacityMismatch : Addr
  E_CapacityMismatch : PySem.SupX.ExF P K mg "CapacityMismatch" "first" "first" "CapacityMismatch.__init__" s_CapacityMismatch_init "ValueError" "ValueError.__new__" "ValueError.__init__" [.type "ValueError", .type "Exception", .type "BaseException", .type "object"] x_CapacityMismatch y_CapacityMismatch
  n2_CapacityMismatch : PySem.W.findIn K (.ref x_CapacityMismatch) "second" = some none
  x_EffectFailed : Addr
  y_EffectFailed : Addr
  E_EffectFailed : PySem.SupX.ExF P K mg "EffectFailed" "length" "length" "EffectFailed.__init__" s_EffectFailed_init "LookupError" "LookupError.__new__" "LookupError.__init__" [.type "LookupError", .type "Exception", .type "BaseException", .type "object"] x_EffectFailed y_EffectFailed
  ne_CapacityMismatch_InvalidEffect : PySem.W.exmOne K (.ref x_CapacityMismatch) (.ref x_InvalidEffect) = some false
  x_Effect : Addr
  g_Effect : mg "Effect" = some (.ref x_Effect)
  cl_Effect : Cls K x_Effect
  mk_Effect : Mk K x_Effect a_Effect_init
  ca_Effect : PySem.W.findIn K (.ref x_Effect) "__class__" = some (some (.builtin "object.__class__"))
  cm_Effect : PySem.W.mroIn K x_Effect (.type "object") = some true
  cg_Effect : PySem.W.specialIn K (.builtin "object.__class__") "__get__" = some (some (.builtin "getset_descriptor.__get__"))
  ct_Effect : PySem.W.takesIn K (.builtin "object.__class__") = some true
  cs_Effect : PySem.W.isClsIn K x_Effect = true
  cy_Effect : PySem.W.typeIn K (.ref x_Effect) = some (.type "type")
  su_Effect_NoneType : PySem.W.subIn K (.type "NoneType") (.ref x_Effect) = some false
  su_Effect_int : PySem.W.subIn K (.type "int") (.ref x_Effect) = some false
  rd_Effect : ClX.CRead K x_Effect (.type "type")
  cp_Effect_identity : Addr
  cm_Effect_identity : ClX.CMet K x_Effect (.type "type") "identity" cp_Effect_identity a_Effect_identity
  n_Effect_capacity : NoAttr K x_Effect "_capacity"
  n_Effect_rows : NoAttr K x_Effect "_rows"
  pp_Effect_capacity : Addr
  pr_Effect_capacity : PropOf K x_Effect "capacity" pp_Effect_capacity a_Effect_capacity
  pp_Effect_rows : Addr
  pr_Effect_rows : PropOf K x_Effect "rows" pp_Effect_rows a_Effect_rows
  co_Effect : StX.CallO K x_Effect a_Effect_call
  it_Effect : ItemK K x_Effect a_Effect_getitem
theorem htopP : (P.main.scope.names.lookup ("super" : Str)).isSome = false := by first | rfl | decide +kernel
section
variable {w : World} {K : PySem.W.Frag} {mg : Str → Option Value} {base : Heap}
def isIntV : V → Bool | .int _ => true | _ => false
def sp_is_int (K : PySem.W.Frag) : Sp := fun vs H Q _ => ∃ x, vs = [x] ∧ Kd K H x ∧ Q (.bl (isIntV x)) H
def sp_is_int_between (K : PySem.W.Frag) : Sp := fun vs H Q _ => ∃ (x : V) (lo hi : Int), vs = [x, .int lo, .int hi] ∧ Kd K H x ∧ Q (.bl (match x with | .int i => decide (lo ≤ i) && decide (i ≤ hi) | _ => false)) H
def isCountV : V → Bool | .int i => decide (0 ≤ i) && decide (i ≤ 10 ^ 30) | _ => false
def sp_has (K : PySem.W.Frag) (f : V → Bool) : Sp := fun vs H Q _ => ∃ x, vs = [x] ∧ Kd K H x ∧ Q (.bl (f x)) H
theorem ok_is_int (T : Top K mg) : FnOk P w K mg base CX0 1 T.a_is_int T.d_is_int ["value"] (sp_is_int K) := by
  refine T.F_is_int.ok sc_is_int (fun vs H Q E h => ?_) (fun cdv A outer s H vs Q E hr h => ?_)
  · obtain ⟨x, rfl, _⟩ := h
    rfl
  · obtain ⟨x, rfl, kx, q⟩ := h
    refine ⟨_, (pss_one (ps_ret (pe_and (pe_callB call_isi (by rfl) T.z_isinstance (by decide +kernel) (pa_cons (pv 0) (pa_cons (pe_bltn (v := .ty "int") (by rfl) T.z_int (by decide +kernel) rfl) pa_nil))) (pe_one (pe_not (pe_callB call_isi (by rfl) T.z_isinstance (by decide +kernel) (pa_cons (pv 0) (pa_cons (pe_bltn (v := .ty "bool") (by rfl) T.z_bool (by decide +kernel) rfl) pa_nil)))))))), ?_⟩
    have hst : start ["value"] [x] = [some x] := rfl
    rw [hst]
    walk_at "rd"
    refine isi_int kx ?_
    walk_at "rd"
    cases x <;> simp only [tInt] <;> walk_at "rd" <;> first | exact q | skip
    all_goals refine isi_bool kx ?_
    all_goals (simp only [tBool]; walk_at "rd"; exact q)
theorem ok_is_int_between (T : Top K mg) : FnOk P w K mg base CX0 2 T.a_is_int_between T.d_is_int_between ["value", "least", "most"] (sp_is_int_between K) := by
  have G_is_int := ok_is_int (w := w) (base := base) T
  refine T.F_is_int_between.ok sc_is_int_between (fun vs H Q E h => ?_) (fun cdv A outer s H vs Q E hr h => ?_)
  · obtain ⟨x, lo, hi, rfl, _⟩ := h
    rfl
  · obtain ⟨x, lo, hi, rfl, kx, q⟩ := h
    refine ⟨_, (pss_one (ps_ret (pe_and (pe_call G_is_int (hr.mono (by first | decide | omega)) rfl T.m_is_int T.F_is_int.kp T.b_is_int .nil pass0 (pa_cons (pv 0) pa_nil)) (pe_one (pe_chain op_le op_le (pv 1) (pv 0) (pv 2)))))), ?_⟩
    have hst : start ["value", "least", "most"] [x, .int lo, .int hi] = [some x, some (.int lo), some (.int hi)] := rfl
    rw [hst]
    walk_at "rd"
    simp only [sp_is_int]
    walk_at "rd"
    refine ⟨kx, ?_⟩
    cases x <;> simp only [isIntV] <;> walk_at "rd" <;> first | exact q | skip
    split <;> simp_all
theorem ok_is_count (T : Top K mg) : FnOk P w K mg base CX0 3 T.a_is_count T.d_is_count ["value"] (sp_has K isCountV) := by
  have G_is_int_between := ok_is_int_between (w := w) (base := base) T
  refine T.F_is_count.ok sc_is_count (fun vs H Q E h => ?_) (fun cdv A outer s H vs Q E hr h => ?_)
  · obtain ⟨x, rfl, _⟩ := h
    rfl
  · obtain ⟨x, rfl, kx, q⟩ := h
    refine ⟨_, (pss_one (ps_ret (pe_call G_is_int_between (hr.mono (by first | decide | omega)) rfl T.m_is_int_between T.F_is_int_between.kp T.b_is_int_between .nil pass0 (pa_cons (pv 0) (pa_cons pe_int (pa_cons (pe_glob (v := .int 1000000000000000000000000000000) (by rfl) T.c_MOST_COUNT ⟨_, rfl⟩) pa_nil)))))), ?_⟩
    have hst : start ["value"] [x] = [some x] := rfl
    rw [hst]
    walk_at "rd"
    simp only [sp_is_int_between]
    walk_at "rd"
    refine ⟨kx, ?_⟩
    cases x <;> exact q
def sp_check_count (K : PySem.W.Frag) (CI : Addr) : Sp := fun vs H Q E => ∃ c, vs = [c] ∧ Kd K H c ∧ (isCountV c = false → E (.ref CI) none H) ∧ (isCountV c = true → Q .non H)
theorem ok_check_count (T : Top K mg) : FnOk P w K mg base (L2.CX P w) 4 T.a_check_count T.d_check_count ["value"] (sp_check_count K T.x_InvalidInteger) := by
  have G_is_count := ok_is_count (w := w) (base := base) T
  refine T.F_check_count.okX sc_check_count (fun vs H Q E h => ?_) (fun cdv A outer s H vs Q E hr h => ?_)
  · obtain ⟨c, rfl, _⟩ := h
    rfl
  · obtain ⟨c, rfl, kc, e1, q⟩ := h
    refine ⟨_, (pss_one (ps_if (pt_not (pt_val (pe_call G_is_count (hr.mono (by first | decide | omega)) rfl T.m_is_count T.F_is_count.kp T.b_is_count .nil pass0 (pa_cons (pv 0) pa_nil)))) (pss_one (ps_raise rfl (takes_of rfl rfl rfl rfl) (pmk_own PySem.F.excBase_ValueError T.q_InvalidInteger T.g_InvalidInteger T.k_InvalidInteger (raises_own T.b_InvalidInteger T.t_InvalidInteger) rfl))) pss_nil)), ?_⟩
    have hst : start ["value"] [c] = [some c] := rfl
    rw [hst]
    walk_at "rd"
    simp only [sp_has]
    walk_at "rd"
    refine ⟨kc, ?_⟩
    cases hc : isCountV c with
    | false => exact e1 hc
    | true => exact q hc
def isCapV : V → Bool | .int i => decide (1 ≤ i) && decide (i ≤ 100) | _ => false
theorem ok_is_capacity (T : Top K mg) : FnOk P w K mg base CX0 3 T.a_is_capacity T.d_is_capacity ["value"] (sp_has K isCapV) := by
  have G_is_int_between := ok_is_int_between (w := w) (base := base) T
  refine T.F_is_capacity.ok sc_is_capacity (fun vs H Q E h => ?_) (fun cdv A outer s H vs Q E hr h => ?_)
  · obtain ⟨x, rfl, _⟩ := h
    rfl
  · obtain ⟨x, rfl, kx, q⟩ := h
    refine ⟨_, (pss_one (ps_ret (pe_call G_is_int_between (hr.mono (by first | decide | omega)) rfl T.m_is_int_between T.F_is_int_between.kp T.b_is_int_between .nil pass0 (pa_cons (pv 0) (pa_cons pe_int (pa_cons (pe_glob (v := .int 100) (by rfl) T.c_MOST_CAPACITY ⟨_, rfl⟩) pa_nil)))))), ?_⟩
    have hst : start ["value"] [x] = [some x] := rfl
    rw [hst]
    walk_at "rd"
    try simp only [sp_is_int_between]
    walk_at "rd"
    refine ⟨kx, ?_⟩
    cases x <;> exact q
theorem ok_check_capacity (T : Top K mg) : FnOk P w K mg base (L2.CX P w) 4 T.a_check_capacity T.d_check_capacity ["value"] (fun vs H Q E => ∃ x, vs = [x] ∧ Kd K H x ∧ (isCapV x = false → E (.ref T.x_InvalidCapacity) none H) ∧ (isCapV x = true → Q .non H)) := by
  have G_is_capacity := ok_is_capacity (w := w) (base := base) T
  refine T.F_check_capacity.okX sc_check_capacity (fun vs H Q E h => ?_) (fun cdv A outer s H vs Q E hr h => ?_)
  · obtain ⟨x, rfl, _⟩ := h
    rfl
  · obtain ⟨x, rfl, kx, e1, q⟩ := h
    refine ⟨_, (pss_one (ps_if (pt_not (pt_val (pe_call G_is_capacity (hr.mono (by first | decide | omega)) rfl T.m_is_capacity T.F_is_capacity.kp T.b_is_capacity .nil pass0 (pa_cons (pv 0) pa_nil)))) (pss_one (ps_raise rfl (takes_of rfl rfl rfl rfl) (pmk_own PySem.F.excBase_ValueError T.q_InvalidCapacity T.g_InvalidCapacity T.k_InvalidCapacity (raises_own T.b_InvalidCapacity T.t_InvalidCapacity) rfl))) pss_nil)), ?_⟩
    have hst : start ["value"] [x] = [some x] := rfl
    rw [hst]
    walk_at "rd"
    simp only [sp_has]
    walk_at "rd"
    refine ⟨kx, ?_⟩
    cases hc : isCapV x with
    | false => exact e1 hc
    | true => exact q hc
def isLenV (x : V) (c : Int) : Bool := match x with | .int i => decide (0 ≤ i) && decide (i ≤ c) | _ => false
theorem ok_check_length (T : Top K mg) : FnOk P w K mg base (L2.CX P w) 3 T.a_check_length T.d_check_length ["value", "capacity"] (fun vs H Q E => ∃ (x : V) (c : Int), vs = [x, .int c] ∧ Kd K H x ∧ (isLenV x c = false → E (.ref T.x_InvalidInteger) none H) ∧ (isLenV x c = true → Q .non H)) := by
  have G_is_int_between := ok_is_int_between (w := w) (base := base) T
  refine T.F_check_length.okX sc_check_length (fun vs H Q E h => ?_) (fun cdv A outer s H vs Q E hr h => ?_)
  · obtain ⟨x, c, rfl, _⟩ := h
    rfl
  · obtain ⟨x, c, rfl, kx, e1, q⟩ := h
    refine ⟨_, (pss_one (ps_if (pt_not (pt_val (pe_call G_is_int_between (hr.mono (by first | decide | omega)) rfl T.m_is_int_between T.F_is_int_between.kp T.b_is_int_between .nil pass0 (pa_cons (pv 0) (pa_cons pe_int (pa_cons (pv 1) pa_nil)))))) (pss_one (ps_raise rfl (takes_of rfl rfl rfl rfl) (pmk_own PySem.F.excBase_ValueError T.q_InvalidInteger T.g_InvalidInteger T.k_InvalidInteger (raises_own T.b_InvalidInteger T.t_InvalidInteger) rfl))) pss_nil)), ?_⟩
    have hst : start ["value", "capacity"] [x, .int c] = [some x, some (.int c)] := rfl
    rw [hst]
    walk_at "rd"
    simp only [sp_is_int_between]
    walk_at "rd"
    refine ⟨kx, ?_⟩
    change if (!isLenV x c) = true then _ else _
    cases hc : isLenV x c with
    | false => exact e1 hc
    | true => exact q hc
def hasLetV : V → Bool | .str s => lettersOnly s | _ => false
theorem ok_has_letters_only (T : Top K mg) : FnOk P w K mg base CX0 1 T.a_has_letters_only T.d_has_letters_only ["value"] (sp_has K hasLetV) := by

  refine T.F_has_letters_only.ok sc_has_letters_only (fun vs H Q E h => ?_) (fun cdv A outer s H vs Q E hr h => ?_)
  · obtain ⟨x, rfl, _⟩ := h
    rfl
  · obtain ⟨x, rfl, kx, q⟩ := h
    refine ⟨_, (pss_one (ps_ret (pe_and (pe_callB call_isi (by rfl) T.z_isinstance (by decide +kernel) (pa_cons (pv 0) (pa_cons (pe_bltn (v := .ty "str") (by rfl) T.z_str (by decide +kernel) rfl) pa_nil))) (pe_one (pe_cmpR op_eq (pe_bm PySem.F.plainAttrs_str PySem.F.slot_str_strip PySem.F.type_str_strip mt_stripChars (pv 0) (pa_cons (pe_glob (v := .str "abcdefghijklmnopqrstuvwxyz") (by rfl) T.c_LETTERS ⟨_, rfl⟩) pa_nil)) pe_str (nomark _)))))), ?_⟩
    have hst : start ["value"] [x] = [some x] := rfl
    rw [hst]
    walk_at "rd"
    refine isi_str kx ?_
    cases kx with
    | str z hz =>
      simp only [tStr]
      walk_at "rd"
      refine ⟨Nat.le_trans hz (by decide), ?_⟩
      rw [show (Str.ofString "abcdefghijklmnopqrstuvwxyz") = letters from rfl, strip_is]
      exact q
    | _ => simp only [tStr]; walk_at "rd"; exact q

/-! ### rows -/
def RwAt (H : Hp) (v : V) (r : Rw) : Prop := match r with
  | none => v = .non
  | some (k, x) => x.length ≤ 200 ∧ ∃ a, v = .ref a ∧ H a = some (.tup [.int k, .str x])
theorem RwAt.mono {H H' : Hp} (s : Same H H') {v : V} : ∀ {r : Rw}, RwAt H v r → RwAt H' v r
  | none, h => h
  | some (_, _), ⟨l, a, e, h⟩ => ⟨l, a, e, s _ _ h⟩
def RowsAt (H : Hp) (b : Addr) (rs : List Rw) : Prop := ∃ vs, H b = some (.tup vs) ∧ vs.length = rs.length ∧ ∀ (i : Nat) (v : V) (r : Rw), vs[i]? = some v → rs[i]? = some r → RwAt H v r
theorem RowsAt.mono {H H' : Hp} (s : Same H H') {b : Addr} {rs : List Rw} (h : RowsAt H b rs) : RowsAt H' b rs :=
  let ⟨vs, e, l, k⟩ := h
  ⟨vs, s _ _ e, l, fun i v r h1 h2 => (k i v r h1 h2).mono s⟩
theorem endS_len (x : Str) (n : Int) : (endS x n).length ≤ x.length := cutS_length _ _ _
theorem ok_ending (T : Top K mg) : FnOk P w K mg base CX0 1 T.a_ending T.d_ending ["text", "most"] (fun vs H Q _ => ∃ (x : Str) (n : Int), vs = [.str x, .int n] ∧ x.length ≤ 100000 ∧ Q (.str (endS x n)) H) := by

  refine T.F_ending.ok sc_ending (fun vs H Q E h => ?_) (fun cdv A outer s H vs Q E hr h => ?_)
  · obtain ⟨x, n, rfl, _⟩ := h
    rfl
  · obtain ⟨x, n, rfl, hx, q⟩ := h
    refine ⟨_, (pss_one (ps_ret (pe_slice sl_str (pv 0) (po_some (pe_callB (call_max2 rfl) (by rfl) T.z_max (by decide +kernel) (pa_cons pe_int (pa_cons (pe_op op_sub (pe_callB call_len_str (by rfl) T.z_len (by decide +kernel) (pa_cons (pv 0) pa_nil)) (pv 1)) pa_nil)))) po_none))), ?_⟩
    have hst : start ["text", "most"] [.str x, .int n] = [some (.str x), some (.int n)] := rfl
    rw [hst]
    walk_at "rd"
    have e : (if (x.length : Int) - n > 0 then (x.length : Int) - n else 0) = max 0 ((x.length : Int) - n) := by split <;> omega
    rw [e]
    exact ⟨sz_of hx, x, rfl, sz_of hx, q⟩
theorem ok_end_of_row (T : Top K mg) : FnOk P w K mg base CX0 1 T.a_end_of_row T.d_end_of_row ["row"] (fun vs H Q _ => ∃ (a : Addr) (k : Int) (x : Str), vs = [.ref a] ∧ H a = some (.tup [.int k, .str x]) ∧ x.length ≤ 100000 ∧ Q (.int (k + x.length)) H) := by

  refine T.F_end_of_row.ok sc_end_of_row (fun vs H Q E h => ?_) (fun cdv A outer s H vs Q E hr h => ?_)
  · obtain ⟨a, k, x, rfl, _⟩ := h
    rfl
  · obtain ⟨a, k, x, rfl, ha, hx, q⟩ := h
    refine ⟨_, (pss_cons (ps_asg (pv 0) (pg_tup (by rfl) (pgs_cons (pg_name (i := 1) sc_end_of_row.nd rfl (Or.inl rfl)) (pgs_cons (pg_name (i := 2) sc_end_of_row.nd rfl (Or.inl rfl)) pgs_nil))))
      (pss_one (ps_ret (pe_op op_add (pv 1) (pe_callB call_len_str (by rfl) T.z_len (by decide +kernel) (pa_cons (pv 2) pa_nil)))))), ?_⟩
    have hst : start ["row", "kept", "word"] [.ref a] = [some (.ref a), none, none] := rfl
    rw [hst]
    walk_at "rd"
    refine ⟨[.int k, .str x], SqT.of ha, rfl, ?_⟩
    simp only [gCons, gNil]
    walk_at "rd"
    exact ⟨sz_of hx, q⟩
def sp_after : Sp := fun vs H Q _ => ∃ (v : V) (b : Addr) (r : Rw) (rs : List Rw), vs = [v, .ref b] ∧ RwAt H v r ∧ RowsAt H b rs ∧ (∀ k x, r = some (k, x) → 0 ≤ k + x.length ∧ k + x.length < rs.length) ∧ (∀ k x, rafter r rs = some (k, x) → x.length ≤ 200) ∧
  ∀ v' H1, Same H H1 → RwAt H1 v' (rafter r rs) → Q v' H1
theorem ok_row_after (T : Top K mg) : FnOk P w K mg base CX0 2 T.a_row_after T.d_row_after ["row", "rows"] sp_after := by
  have G_end_of_row := ok_end_of_row (w := w) (base := base) T
  have G_ending := ok_ending (w := w) (base := base) T
  refine T.F_row_after.ok sc_row_after (fun vs H Q E h => ?_) (fun cdv A outer s H vs Q E hr h => ?_)
  · obtain ⟨v, b, r, rs, rfl, _⟩ := h
    rfl
  · obtain ⟨v, b, r, rs, rfl, hv, hb, hin, hl, q⟩ := h
    refine ⟨_, (pss_cons (ps_set (i := 2) sc_row_after.nd rfl (Or.inl rfl) (pe_ifExp (pt_cmpR op_isN (pv 0) pe_non (nomark _)) pe_non (pe_ix ix_tup (pv 1) (pe_call G_end_of_row (hr.mono (by first | decide | omega)) rfl T.m_end_of_row T.F_end_of_row.kp T.b_end_of_row .nil pass0 (pa_cons (pv 0) pa_nil)) (fun _ _ => rfl))))
      (pss_cons (ps_if (pt_cmpR op_isN (pv 2) pe_non (nomark _)) (pss_one (ps_ret pe_non)) pss_nil)
      (pss_cons (ps_asg (pv 0) (pg_tup (by rfl) (pgs_cons (pg_name (i := 3) sc_row_after.nd rfl (Or.inl rfl)) (pgs_cons (pg_name (i := 4) sc_row_after.nd rfl (Or.inl rfl)) pgs_nil))))
      (pss_cons (ps_asg (pv 2) (pg_tup (by rfl) (pgs_cons (pg_name (i := 5) sc_row_after.nd rfl (Or.inl rfl)) (pgs_cons (pg_name (i := 6) sc_row_after.nd rfl (Or.inl rfl)) pgs_nil))))
      (pss_cons (ps_if (pt_cmpR op_le (pv 5) (pe_callB call_len_str (by rfl) T.z_len (by decide +kernel) (pa_cons (pv 4) pa_nil)) (nomark _)) (pss_one (ps_ret (pe_tup (pa_cons pe_int (pa_cons (pe_op op_add_str (pe_call G_ending (hr.mono (by first | decide | omega)) rfl T.m_ending T.F_ending.kp T.b_ending .nil pass0 (pa_cons (pv 4) (pa_cons (pv 5) pa_nil))) (pv 6)) pa_nil))))) pss_nil)
      (pss_one (ps_ret (pe_tup (pa_cons (pe_op op_sub (pv 5) (pe_callB call_len_str (by rfl) T.z_len (by decide +kernel) (pa_cons (pv 4) pa_nil))) (pa_cons (pe_op op_add_str (pv 4) (pv 6)) pa_nil)))))))))), ?_⟩
    have hst : start ["row", "rows", "later", "kept", "word", "later_kept", "later_word"] [v, .ref b] = [some v, some (.ref b), none, none, none, none, none] := rfl
    rw [hst]
    walk_at "rd"
    cases r with
    | none =>
      have hv' : v = .non := hv
      subst hv'
      rw [decide_eq_true rfl, if_pos rfl]
      exact q _ H (Same.refl _) rfl
    | some kx =>
      obtain ⟨k, x⟩ := kx
      obtain ⟨lx, a, rfl, ha⟩ := hv
      obtain ⟨hk0, hkl⟩ := hin k x rfl
      obtain ⟨ws, hws, hlen, hrow⟩ := hb
      rw [decide_eq_false (by intro h; cases h), if_neg (by decide)]
      refine ⟨a, rfl, k, x, ha, by omega, ?_⟩
      have hj : (k + (x.length : Int)).toNat < rs.length := by omega
      have hjw : (k + (x.length : Int)).toNat < ws.length := by omega
      have hr := hrow _ _ _ (List.getElem?_eq_getElem hjw) (List.getElem?_eq_getElem hj)
      have hd : rs.getD (k + (x.length : Int)).toNat none = rs[(k + (x.length : Int)).toNat] := by
        rw [List.getD_eq_getElem?_getD, List.getElem?_eq_getElem hj]; rfl
      have hra : rafter (some (k, x)) rs = match rs[(k + (x.length : Int)).toNat] with
        | none => none
        | some (k2, x2) => if k2 ≤ x.length then some (0, endS x k2 ++ x2) else some (k2 - x.length, x ++ x2) := by
        show (match rs.getD (k + (x.length : Int)).toNat none with
          | none => none
          | some (k2, x2) => if k2 ≤ x.length then some (0, endS x k2 ++ x2) else some (k2 - x.length, x ++ x2)) = _
        rw [hd]
      have hat : atI ws (k + (x.length : Int)) = some ws[(k + (x.length : Int)).toNat] := by
        have := atI_nat (List.getElem?_eq_getElem hjw)
        rwa [Int.toNat_of_nonneg hk0] at this
      rw [hra] at q hl
      refine ⟨b, ws, _, _, rfl, rfl, SqT.of hws, hat, ?_⟩
      generalize ws[(k + (x.length : Int)).toNat] = v2 at hr
      cases hrr : rs[(k + (x.length : Int)).toNat] with
      | none =>
        rw [hrr] at hr q
        have hv2 : v2 = .non := hr
        subst hv2
        rw [decide_eq_true rfl, if_pos rfl]
        exact q _ H (Same.refl _) rfl
      | some kx2 =>
        obtain ⟨k2, x2⟩ := kx2
        rw [hrr] at hr q hl
        obtain ⟨lx2, a2, rfl, ha2⟩ := hr
        rw [decide_eq_false (by intro h; cases h), if_neg (by decide)]
        refine ⟨a, rfl, [.int k, .str x], SqT.of ha, rfl, ?_⟩
        simp only [gCons, gNil]
        walk_at "rd"
        refine ⟨[.int k2, .str x2], SqT.of ha2, rfl, ?_⟩
        simp only [gCons, gNil]
        walk_at "rd"
        refine ⟨sz_of (by omega), ?_⟩
        dsimp only at q hl
        by_cases hk : k2 ≤ (x.length : Int)
        · rw [if_pos hk] at q hl
          rw [decide_eq_true hk, if_pos rfl]
          have he := endS_len x k2
          exact ⟨by omega, sz_of (by omega), by walk_at "sz", fun p hp => q _ _ (same_new hp _) ⟨hl _ _ rfl, p, rfl, upd_same⟩⟩
        · rw [if_neg hk] at q hl
          rw [decide_eq_false hk, if_neg (by decide)]
          exact ⟨sz_of (by omega), sz_of (by omega), by walk_at "sz", fun p hp => q _ _ (same_new hp _) ⟨hl _ _ rfl, p, rfl, upd_same⟩⟩
theorem RwAt.upd {H : Hp} {D : Addr} {o : HO} {xs : List V} (h : H D = some (.lst xs)) {v : V} : ∀ {r : Rw}, RwAt H v r → RwAt (upd H D o) v r
  | none, h => h
  | some (_, _), ⟨l, a, e, ha⟩ => ⟨l, a, e, (upd_ne (fun z => by rw [z, h] at ha; cases ha)).trans ha⟩
def sp_product : Sp := fun vs H Q _ => ∃ (a b : Addr) (ra rb : List Rw), vs = [.ref a, .ref b] ∧ RowsAt H a ra ∧ RowsAt H b rb ∧ ra.length ≤ 200 ∧ (∀ k x, some (k, x) ∈ ra → 0 ≤ k + x.length ∧ k + x.length < rb.length) ∧ (∀ r ∈ ra, ∀ k x, rafter r rb = some (k, x) → x.length ≤ 200) ∧
  ∀ t H1, Same H H1 → H t = none → RowsAt H1 t (ra.map fun r => rafter r rb) → Q (.ref t) H1
theorem ok_product_rows (T : Top K mg) : FnOk P w K mg base CX0 3 T.a_product_rows T.d_product_rows ["first", "second"] sp_product := by
  have G_row_after := ok_row_after (w := w) (base := base) T
  refine T.F_product_rows.ok sc_product_rows (fun vs H Q E h => ?_) (fun cdv A outer s H vs Q E hr h => ?_)
  · obtain ⟨a, b, ra, rb, rfl, _⟩ := h
    rfl
  · obtain ⟨a, b, ra, rb, rfl, ha, hb, hl, hin, hx, q⟩ := h
    refine ⟨_, (pss_one (ps_ret (pe_tupleOf (by rfl) T.z_tuple (pe_lc (own := [("row", 2)]) (g := (gName 2)) (tt := tYes) (by rfl) sc_product_rows.nd (pi_tup (pv 0)) (blkOk_by (own := [("row", 2)]) (N := ["first", "second", "row"]) (sc := defScope s_product_rows) (by decide +kernel)) (fun _ _ _ _ _ => pg_name (i := 2) sc_product_rows.nd rfl (Or.inl rfl)) (fun _ _ _ _ _ => pts_nil) (fun _ _ _ _ _ => (pe_call G_row_after (hr.mono (by first | decide | omega)) rfl T.m_row_after T.F_row_after.kp T.b_row_after .nil pass0 (pa_cons (pv 2) (pa_cons (pv 1) pa_nil)))))))), ?_⟩
    have hst : start ["first", "second", "row"] [.ref a, .ref b] = [some (.ref a), some (.ref b), none] := rfl
    rw [hst]
    walk_at "rd"
    simp only [tThen]
    obtain ⟨ws, hws, hlen, hrow⟩ := id ha
    refine lcT fun R kR => ?_
    walk_at "rd"
    refine kR a ws _ (SqT.of hws) fun D hD => ⟨fun i H' => i ≤ ws.length ∧ Same H H' ∧ ∃ os, H' D = some (.lst os) ∧ os.length = i ∧ ∀ (j : Nat) (v : V) (r : Rw), os[j]? = some v → ra[j]? = some r → RwAt H' v (rafter r rb), ⟨Nat.zero_le _, same_new hD _, [], upd_same, rfl, fun j v r h => by cases h⟩, fun i H' _ h => SqT.of (h.2.1 _ _ hws), ?_, ?_⟩
    · rintro i y H' hy ⟨hi, s1, os, hD1, ho, hos⟩
      have hilt : i < ws.length := (List.getElem?_eq_some_iff.mp hy).1
      have hir : i < ra.length := by omega
      have hri : ra[i]? = some ra[i] := List.getElem?_eq_getElem hir
      walk_at "wp"
      walk_at "rd"
      refine ⟨y, b, ra[i], rb, rfl, (hrow i y _ hy hri).mono s1, hb.mono s1, fun k x e => hin k x (e ▸ List.getElem_mem hir), hx _ (List.getElem_mem hir), fun v' H1 s2 hv' => ?_⟩
      have hD2 := s2 _ _ hD1
      refine ⟨_, hD2, Nat.lt_of_le_of_lt (by omega : os.length ≤ 200) (by decide), by omega, same_mut (s1.trans s2) hD, _, upd_same, by simp [ho], fun j v r h1 h2 => ?_⟩
      by_cases hj : j < os.length
      · rw [List.getElem?_append_left hj] at h1
        exact ((hos j v r h1 h2).mono s2).upd hD2
      · have hj2 : j = os.length := by
          have := (List.getElem?_eq_some_iff.mp h1).1
          simp at this
          omega
        subst hj2
        rw [List.getElem?_append_right (Nat.le_refl _)] at h1
        simp at h1
        subst h1
        rw [ho] at h2
        cases hri.symm.trans h2
        exact hv'.upd hD2
    · rintro H' ⟨_, s1, os, hD1, ho, hos⟩
      refine .inl ⟨D, os, rfl, SqL.of hD1, fun t ht => q t _ (s1.trans (same_new ht _)) (s1.free ht) ⟨os, upd_same, by simp; omega, fun j v r h1 h2 => ?_⟩⟩
      rw [List.getElem?_map] at h2
      obtain ⟨r0, h3, h4⟩ := Option.map_eq_some_iff.mp h2
      subst h4
      exact (hos j v r0 h1 h3).mono (same_new ht _)
def sp_identity : Sp := fun vs H Q _ => ∃ (C : Nat), vs = [.int C] ∧ C ≤ 200 ∧ ∀ t H1, Same H H1 → H t = none → RowsAt H1 t (idRows C) → Q (.ref t) H1
theorem ok_identity_rows (T : Top K mg) : FnOk P w K mg base CX0 1 T.a_identity_rows T.d_identity_rows ["capacity"] sp_identity := by

  refine T.F_identity_rows.ok sc_identity_rows (fun vs H Q E h => ?_) (fun cdv A outer s H vs Q E hr h => ?_)
  · obtain ⟨C, rfl, _⟩ := h
    rfl
  · obtain ⟨C, rfl, hC, q⟩ := h
    refine ⟨_, (pss_one (ps_ret (pe_tupleOf (by rfl) T.z_tuple (pe_lc (own := [("length", 1)]) (g := (gName 1)) (tt := tYes) (by rfl) sc_identity_rows.nd (pi_range1 (by rfl) T.z_range (pa_cons (pe_op op_add (pv 0) pe_int) pa_nil)) (blkOk_by (own := [("length", 1)]) (N := ["capacity", "length"]) (sc := defScope s_identity_rows) (by decide +kernel)) (fun _ _ _ _ _ => pg_name (i := 1) sc_identity_rows.nd rfl (Or.inl rfl)) (fun _ _ _ _ _ => pts_nil) (fun _ _ _ _ _ => (pe_tup (pa_cons (pv 1) (pa_cons pe_str pa_nil)))))))), ?_⟩
    have hst : start ["capacity", "length"] [.int C] = [some (.int C), none] := rfl
    rw [hst]
    walk_at "rd"
    simp only [tThen]
    refine lcR fun R kR => ?_
    walk_at "rd"
    refine kR _ _ (by omega) (by omega) fun D hD => ⟨fun i H' => i ≤ C + 1 ∧ Same H H' ∧ ∃ os, H' D = some (.lst os) ∧ os.length = i ∧ ∀ (j : Nat) (v : V), os[j]? = some v → RwAt H' v (some ((j : Int), Str.ofString "")), ⟨Nat.zero_le _, same_new hD _, [], upd_same, rfl, fun j v h => by cases h⟩, ?_, ?_⟩
    · rintro i H' hi ⟨_, s1, os, hD1, ho, hos⟩
      walk_at "wp"
      walk_at "rd"
      refine ⟨by walk_at "sz", fun t ht => ?_⟩
      have s2 := same_new ht (.tup [.int (0 + (i : Int)), .str (Str.ofString "")])
      have hD2 := s2 _ _ hD1
      refine ⟨_, hD2, Nat.lt_of_le_of_lt (by omega : os.length ≤ 100000) (by decide), by omega, same_mut (s1.trans s2) hD, _, upd_same, by simp [ho], fun j v h1 => ?_⟩
      by_cases hj : j < os.length
      · rw [List.getElem?_append_left hj] at h1
        exact ((hos j v h1).mono s2).upd hD2
      · have hj2 : j = os.length := by
          have := (List.getElem?_eq_some_iff.mp h1).1
          simp at this
          omega
        subst hj2
        rw [List.getElem?_append_right (Nat.le_refl _)] at h1
        simp at h1
        subst h1
        refine RwAt.upd (r := some _) hD2 ⟨by decide, t, rfl, ?_⟩
        rw [upd_same, ho, Int.zero_add]
    · rintro H' ⟨_, s1, os, hD1, ho, hos⟩
      refine .inl ⟨D, os, rfl, SqL.of hD1, fun t ht => q t _ (s1.trans (same_new ht _)) (s1.free ht) ⟨os, upd_same, by unfold idRows; simp; omega, fun j v r h1 h2 => ?_⟩⟩
      unfold idRows at h2
      rw [List.getElem?_map] at h2
      obtain ⟨r0, h3, h4⟩ := Option.map_eq_some_iff.mp h2
      subst h4
      have e : r0 = j := by
        rw [List.getElem?_range (by have := (List.getElem?_eq_some_iff.mp h3).1; simpa using this)] at h3
        injection h3 with h3
        exact h3.symm
      subst e
      exact (hos _ v h1).mono (same_new ht _)
theorem ok_is_row (T : Top K mg) : FnOk P w K mg base CX0 3 T.a_is_row T.d_is_row ["value", "length", "capacity"] (fun vs H Q _ => ∃ (v : V) (r : Rw) (n C : Int), vs = [v, .int n, .int C] ∧ RwAt H v r ∧ Q (.bl (okRw r n C)) H) := by
  have G_is_int_between := ok_is_int_between (w := w) (base := base) T
  have G_has_letters_only := ok_has_letters_only (w := w) (base := base) T
  refine T.F_is_row.ok sc_is_row (fun vs H Q E h => ?_) (fun cdv A outer s H vs Q E hr h => ?_)
  · obtain ⟨v, r, n, C, rfl, _⟩ := h
    rfl
  · obtain ⟨v, r, n, C, rfl, hv, q⟩ := h
    refine ⟨_, (pss_cons (ps_if (pt_cmpR op_isN (pv 0) pe_non (nomark _)) (pss_one (ps_ret pe_bl)) pss_nil)
      (pss_cons (ps_if (PW.pt (pw_or (pt_not (pt_val (pe_callB call_isi (by rfl) T.z_isinstance (by decide +kernel) (pa_cons (pv 0) (pa_cons (pe_bltn (v := .ty "tuple") (by rfl) T.z_tuple (by decide +kernel) rfl) pa_nil))))) (pw_or1 (pt_cmpR op_ne (pe_callB call_len_seq (by rfl) T.z_len (by decide +kernel) (pa_cons (pv 0) pa_nil)) pe_int (nomark _))))) (pss_one (ps_ret pe_bl)) pss_nil)
      (pss_cons (ps_asg (pv 0) (pg_tup (by rfl) (pgs_cons (pg_name (i := 3) sc_is_row.nd rfl (Or.inl rfl)) (pgs_cons (pg_name (i := 4) sc_is_row.nd rfl (Or.inl rfl)) pgs_nil))))
      (pss_one (ps_ret (pe_and (pe_call G_is_int_between (hr.mono (by first | decide | omega)) rfl T.m_is_int_between T.F_is_int_between.kp T.b_is_int_between .nil pass0 (pa_cons (pv 3) (pa_cons pe_int (pa_cons (pv 1) pa_nil)))) (pe_and (pe_call G_has_letters_only (hr.mono (by first | decide | omega)) rfl T.m_has_letters_only T.F_has_letters_only.kp T.b_has_letters_only .nil pass0 (pa_cons (pv 4) pa_nil)) (pe_one (pe_cmpR op_le (pe_op op_add (pv 3) (pe_callB call_len_str (by rfl) T.z_len (by decide +kernel) (pa_cons (pv 4) pa_nil))) (pv 2) (nomark _)))))))))), ?_⟩
    have hst : start ["value", "length", "capacity", "kept", "word"] [v, .int n, .int C] = [some v, some (.int n), some (.int C), none, none] := rfl
    rw [hst]
    walk_at "rd"
    cases r with
    | none =>
      have hv' : v = .non := hv
      subst hv'
      rw [decide_eq_true rfl, if_pos rfl]
      exact q
    | some kx =>
      obtain ⟨k, x⟩ := kx
      obtain ⟨lx, a, rfl, ha⟩ := hv
      rw [decide_eq_false (by intro h; cases h), if_neg (by decide)]
      refine isi_of (b := true) ⟨_, .base (.tup ha), kit_ty (by decide +kernel)⟩ ?_
      walk_at "rd"
      refine ⟨_, .inr (SqT.of ha), ?_⟩
      rw [show (((([V.int k, V.str x] : List V).length : Nat) : Int)) = 2 from rfl, decide_eq_true rfl, if_neg (by decide)]
      refine ⟨_, SqT.of ha, rfl, ?_⟩
      simp only [gCons, gNil]
      walk_at "rd"
      simp only [sp_is_int_between, sp_has]
      walk_at "rd"
      refine ⟨.int k, ?_⟩
      change if (decide (0 ≤ k) && decide (k ≤ n)) = true then _ else _
      unfold okRw at q
      dsimp only at q
      by_cases h1 : 0 ≤ k ∧ k ≤ n
      · have e1 : (decide (0 ≤ k) && decide (k ≤ n)) = true := by rw [decide_eq_true h1.1, decide_eq_true h1.2]; rfl
        rw [e1, Bool.true_and] at q
        rw [if_pos e1]
        refine ⟨.str x (by omega), ?_⟩
        change if lettersOnly x = true then _ else _
        by_cases h2 : lettersOnly x = true
        · rw [if_pos h2]
          rw [h2, Bool.true_and] at q
          exact ⟨sz_of (by omega), q⟩
        · rw [if_neg h2]
          rw [Bool.not_eq_true] at h2
          rw [h2, Bool.false_and] at q
          exact q
      · have e1 : (decide (0 ≤ k) && decide (k ≤ n)) = false := by
          rw [Bool.and_eq_false_iff, decide_eq_false_iff_not, decide_eq_false_iff_not]
          omega
        rw [e1, Bool.false_and] at q
        rw [if_neg (by rw [e1]; decide)]
        exact q

/-! ### effects -/
def RowsV (H : Hp) (vs : List V) (rs : List Rw) : Prop := vs.length = rs.length ∧ ∀ (i : Nat) (v : V) (r : Rw), vs[i]? = some v → rs[i]? = some r → RwAt H v r
theorem RowsV.mono {H H' : Hp} (s : Same H H') {vs : List V} {rs : List Rw} (h : RowsV H vs rs) : RowsV H' vs rs := ⟨h.1, fun i v r h1 h2 => (h.2 i v r h1 h2).mono s⟩
def seqO (b : Bool) (vs : List V) : HO := if b = true then .lst vs else .tup vs
theorem sqx_of {K : PySem.W.Frag} {H : Hp} {a : Addr} {b : Bool} {vs : List V} (h : H a = some (seqO b vs)) : SqX K b H a vs := by
  cases b with
  | true => exact SqL.of h
  | false => exact SqT.of h
theorem isiT_seq {K : PySem.W.Frag} {H' : Hp} {p a : Addr} {b : Bool} {vs : List V} {Q : VK} (hp : H' p = some (.tup [.ty "list", .ty "tuple"])) (ha : H' a = some (seqO b vs)) (q : Q (.bl true) H') : rIsiT K [.ref a, .ref p] H' Q := by
  cases b with
  | true => exact ⟨.ref a, p, _, .type "list", [.type "list", .type "tuple"], true, rfl, hp, .cons (.ty _) (.cons (.ty _) .nil), .base (.lst ha), kitAny_cons (b := true) (kit_ty (by decide +kernel)) (fun h => by cases h) (fun _ => rfl), q⟩
  | false => exact ⟨.ref a, p, _, .type "tuple", [.type "list", .type "tuple"], true, rfl, hp, .cons (.ty _) (.cons (.ty _) .nil), .base (.tup ha), kitAny_cons (b := false) (kit_ty (by decide +kernel)) (fun _ => kitAny_cons (b := true) (kit_ty (by decide +kernel)) (fun h => by cases h) (fun _ => rfl)) (fun h => by cases h), q⟩
def sp_check_rows (CE : Addr) : Sp := fun vs H Q E => ∃ (a : Addr) (b : Bool) (ws : List V) (rs : List Rw) (C : Int), vs = [.ref a, .int C] ∧ H a = some (seqO b ws) ∧ RowsV H ws rs ∧ rs.length ≤ 20000 ∧
  ((rs.length : Int) = C + 1 → okRows rs C → ∀ H1, Same H H1 → Q .non H1) ∧
  ((rs.length : Int) ≠ C + 1 → ∀ H1 d, Same H H1 → H1 d = none → E (.ref CE) (some d) (upd H1 d (.xd [("position", .non)]))) ∧
  ((rs.length : Int) = C + 1 → ∀ (i : Nat) (r : Rw), rs[i]? = some r → okRw r i C = false → (∀ (j : Nat) (r' : Rw), j < i → rs[j]? = some r' → okRw r' j C = true) → ∀ H1 d, Same H H1 → H1 d = none → E (.ref CE) (some d) (upd H1 d (.xd [("position", .int (i : Nat))])))
theorem seqO_same {H H' : Hp} (s : Same H H') {a : Addr} {b : Bool} {vs : List V} (h : H a = some (seqO b vs)) : H' a = some (seqO b vs) := s _ _ h
theorem ok_check_rows (T : Top K mg) : FnOk P w K mg base (L2.CX P w) 4 T.a_check_rows T.d_check_rows ["value", "capacity"] (sp_check_rows T.x_InvalidEffect) := by
  have G_is_row := ok_is_row (w := w) (base := base) T
  refine T.F_check_rows.okX sc_check_rows (fun vs H Q E h => ?_) (fun cdv A outer s H vs Q E hr h => ?_)
  · obtain ⟨b, bb, ws, rs, C, rfl, _⟩ := h
    rfl
  · obtain ⟨a, b, ws, rs, C, rfl, ha, hv, hl, q1, q2, q3⟩ := h
    refine ⟨_, (pss_cons (ps_if (PW.pt (pw_or (pt_not (pt_val (pe_callB call_isiT (by rfl) T.z_isinstance (by decide +kernel) (pa_cons (pv 0) (pa_cons (pe_tup (pa_cons (pe_bltn (v := .ty "list") (by rfl) T.z_list (by decide +kernel) rfl) (pa_cons (pe_bltn (v := .ty "tuple") (by rfl) T.z_tuple (by decide +kernel) rfl) pa_nil))) pa_nil))))) (pw_or1 (pt_cmpR op_ne (pe_callB call_len_seq (by rfl) T.z_len (by decide +kernel) (pa_cons (pv 0) pa_nil)) (pe_op op_add (pv 1) pe_int) (nomark _))))) (pss_one (ps_raise rfl (takes_of rfl rfl rfl rfl) (pmk_InvalidEffect PySem.F.excBase_ValueError PySem.W.kxs_ValueError PySem.F.store_ValueError T.E_InvalidEffect htopP hr (by exact (pa_cons pe_non pa_nil)) rfl))) pss_nil)
      (pss_one (ps_for (passes_of rfl) rfl (pi_enumX (by rfl) T.z_enumerate (pa_cons (pv 0) pa_nil)) (pg_tup (by rfl) (pgs_cons (pg_name (i := 2) sc_check_rows.nd rfl (Or.inl rfl)) (pgs_cons (pg_name (i := 3) sc_check_rows.nd rfl (Or.inl rfl)) pgs_nil))) (pss_one (ps_if (pt_not (pt_val (pe_call G_is_row (hr.mono (by first | decide | omega)) rfl T.m_is_row T.F_is_row.kp T.b_is_row .nil pass0 (pa_cons (pv 3) (pa_cons (pv 2) (pa_cons (pv 1) pa_nil)))))) (pss_one (ps_raise rfl (takes_of rfl rfl rfl rfl) (pmk_InvalidEffect PySem.F.excBase_ValueError PySem.W.kxs_ValueError PySem.F.store_ValueError T.E_InvalidEffect htopP hr (by exact (pa_cons (pv 2) pa_nil)) rfl))) pss_nil))))), ?_⟩
    have hst : start ["value", "capacity", "length", "row"] [.ref a, .int C] = [some (.ref a), some (.int C), none, none] := rfl
    rw [hst]
    walk_at "rd"
    refine ⟨by walk_at "sz", fun p hp => ?_⟩
    have s0 : Same H (upd H p (.tup [.ty "list", .ty "tuple"])) := same_new hp _
    refine isiT_seq upd_same (seqO_same s0 ha) ⟨true, rfl, ?_⟩
    rw [Bool.not_true, if_neg (by decide)]
    have ha1 := seqO_same s0 ha
    have hsx : SqL K (upd H p (.tup [.ty "list", .ty "tuple"])) a ws ∨ SqT K (upd H p (.tup [.ty "list", .ty "tuple"])) a ws := by
      cases b with
      | true => exact .inl (SqL.of ha1)
      | false => exact .inr (SqT.of ha1)
    refine ⟨ws, hsx, ?_⟩
    rw [hv.1]
    by_cases hC : (rs.length : Int) = C + 1
    case neg =>
      rw [decide_eq_false hC, Bool.not_false, if_pos rfl]
      exact ⟨_, rfl, fun d hd => q2 hC _ d s0 hd⟩
    rw [decide_eq_true hC, Bool.not_true, if_neg (by decide)]
    refine forEX fun R kR => ?_
    walk_at "rd"
    refine kR b a ws (fun i σ H1 => Same H H1 ∧ (∃ x2 x3 : Option V, σ = [some (.ref a), some (.int C), x2, x3]) ∧ ∀ (j : Nat) (r' : Rw), j < i → rs[j]? = some r' → okRw r' j C = true) _ (sqx_of ha1)
      ⟨s0, ⟨_, _, rfl⟩, fun j r' h => absurd h (Nat.not_lt_zero _)⟩ (fun i σ H1 _ h => sqx_of (seqO_same h.1 ha)) ?_ ?_
    · rintro i x σ H1 T0 hx ⟨s1, ⟨x2, x3, rfl⟩, hall⟩ hT
      have hi : i < rs.length := by rw [← hv.1]; exact (List.getElem?_eq_some_iff.mp hx).1
      have hri : rs[i]? = some rs[i] := List.getElem?_eq_getElem hi
      have s2 := same_new hT (.tup [.int (i : Nat), x])
      refine ⟨T0, [.int (i : Nat), x], rfl, SqT.of upd_same, rfl, ?_⟩
      simp only [gCons, gNil]
      walk_at "rd"
      refine ⟨rs[i], (hv.2 i x _ hx hri).mono (s1.trans s2), ?_⟩
      cases ho : okRw rs[i] i C with
      | false => 
        rw [Bool.not_false, if_pos rfl]
        exact ⟨_, rfl, _, rfl, fun d hd => q3 hC i _ hri ho hall _ d (s1.trans s2) hd⟩
      | true =>
        rw [Bool.not_true, if_neg (by decide)]
        refine ⟨s1.trans s2, ⟨_, rfl⟩, ⟨_, rfl⟩, fun j r' hj hr' => ?_⟩
        by_cases hji : j < i
        · exact hall j r' hji hr'
        · have : j = i := by omega
          subst this
          rw [hri] at hr'
          injection hr' with hr'
          rw [← hr']; exact ho
    · rintro σ H1 ⟨s1, ⟨x2, x3, rfl⟩, hall⟩
      exact q1 hC (fun i r hr' => hall i r (by rw [hv.1]; exact (List.getElem?_eq_some_iff.mp hr').1) hr') H1 s1
/-! ### instances -/
def efl (c : Nat) (t : Addr) : List (Str × V) := [("_capacity", .int (c : Nat)), ("_rows", .ref t)]
theorem efl_put (c : Nat) (t : Addr) : putF "_rows" (.ref t) (putF "_capacity" (.int (c : Nat)) []) = efl c t := by
  have h1 : ¬ ("_capacity" : Str) = "_rows" := by decide +kernel
  simp only [putF, h1, if_false, efl]
theorem efl_cap (c : Nat) (t : Addr) : (efl c t).lookup ("_capacity" : Str) = some (.int (c : Nat)) := by unfold efl; rw [lk_cons, if_pos rfl]
theorem efl_rows (c : Nat) (t : Addr) : (efl c t).lookup ("_rows" : Str) = some (.ref t) := by unfold efl; rw [lk_cons, if_neg (by decide +kernel), lk_cons, if_pos rfl]
theorem efl_no {c : Nat} {t : Addr} {m : Str} (h1 : ¬ m = "_capacity") (h2 : ¬ m = "_rows") : (efl c t).lookup m = none := by unfold efl; rw [lk_cons, if_neg h1, lk_cons, if_neg h2]; rfl
/-- the effect at x: its capacity and its rows, which are valid -/
def EffAt (C : Addr) (H : Hp) (x : Addr) (c : Nat) (rs : List Rw) : Prop := ∃ dx t, H x = some (.ins C dx (efl c t)) ∧ RowsAt H t rs ∧ EffOk c rs
theorem EffAt.mono {C : Addr} {H H' : Hp} (s : Same H H') {x : Addr} {c : Nat} {rs : List Rw} (h : EffAt C H x c rs) : EffAt C H' x c rs := let ⟨dx, t, e, r, k⟩ := h; ⟨dx, t, s _ _ e, r.mono s, k⟩
def sp_einit (K : PySem.W.Frag) (C CC CE : Addr) : Sp := fun vs H Q E => ∃ (x dx : Addr) (c : V) (v : V), vs = [.ref x, c, v] ∧ H x = some (.ins C dx []) ∧ Kd K H c ∧
  (isCapV c = false → E (.ref CC) none H) ∧
  (∀ n : Nat, c = .int (n : Nat) → 1 ≤ n → n ≤ 100 → ∃ (a : Addr) (b : Bool) (ws : List V) (rs : List Rw), v = .ref a ∧ H a = some (seqO b ws) ∧ RowsV H ws rs ∧ rs.length ≤ 20000 ∧
    (EffOk n rs → ∀ t H1, (∀ y o, y ≠ x → H y = some o → H1 y = some o) → H1 x = some (.ins C dx (efl n t)) → RowsAt H1 t rs → Q .non H1) ∧
    (rs.length ≠ n + 1 → ∀ H1 d, Same H H1 → H1 d = none → E (.ref CE) (some d) (upd H1 d (.xd [("position", .non)]))) ∧
    (rs.length = n + 1 → ∀ (i : Nat) (r : Rw), rs[i]? = some r → okRw r i n = false → (∀ (j : Nat) (r' : Rw), j < i → rs[j]? = some r' → okRw r' j n = true) → ∀ H1 d, Same H H1 → H1 d = none → E (.ref CE) (some d) (upd H1 d (.xd [("position", .int (i : Nat))]))))
theorem ok_Effect_init (T : Top K mg) : FnOk P w K mg base (L2.CX P w) 5 T.a_Effect_init T.d_Effect_init ["self", "capacity", "rows"] (sp_einit K T.x_Effect T.x_InvalidCapacity T.x_InvalidEffect) := by
  have G_check_capacity := ok_check_capacity (w := w) (base := base) T
  have G_check_rows := ok_check_rows (w := w) (base := base) T
  refine T.F_Effect_init.okX sc_Effect_init (fun vs H Q E h => ?_) (fun cdv A outer s H vs Q E hr h => ?_)
  · obtain ⟨x, dx, c, v, rfl, _⟩ := h
    rfl
  · obtain ⟨x, dx, c, v, rfl, hx, kc, ec, h⟩ := h
    refine ⟨_, (pss_cons (ps_expr (pe_callS G_check_capacity (hr.mono (by first | decide | omega)) rfl T.m_check_capacity T.F_check_capacity.kp T.b_check_capacity (fun σ => passAt (takes_of rfl rfl rfl rfl) σ) (pa_cons (pv 1) pa_nil)))
      (pss_cons (ps_expr (pe_callS G_check_rows (hr.mono (by first | decide | omega)) rfl T.m_check_rows T.F_check_rows.kp T.b_check_rows (fun σ => passAt (takes_of rfl rfl rfl rfl) σ) (pa_cons (pv 2) (pa_cons (pv 1) pa_nil))))
      (pss_cons (ps_fld (pv 0) (pv 1) rfl)
      (pss_one (ps_fld (pv 0) (pe_tupleOf (by rfl) T.z_tuple (pv 2)) rfl))))), ?_⟩
    have hst : start ["self", "capacity", "rows"] [.ref x, c, v] = [some (.ref x), some c, some v] := rfl
    rw [hst]
    walk_at "rd"
    simp only [tCallS]
    walk_at "rd"
    refine ⟨kc, ec, fun hc => ?_⟩
    obtain ⟨n, rfl, h1, h2⟩ : ∃ n : Nat, c = .int (n : Nat) ∧ 1 ≤ n ∧ n ≤ 100 := by
      cases c with
      | int i =>
        simp only [isCapV, Bool.and_eq_true, decide_eq_true_eq] at hc
        exact ⟨i.toNat, by rw [Int.toNat_of_nonneg (by omega)], by omega, by omega⟩
      | _ => cases hc
    obtain ⟨a, b, ws, rs, rfl, ha, hv, hl, q1, q2, q3⟩ := h n rfl h1 h2
    refine ⟨a, b, ws, rs, n, rfl, ha, hv, hl, fun hC hok H1 s1 => ?_, fun hC H1 d s1 hd => q2 (by omega) H1 d s1 hd, fun hC i r h1 h2 h3 H1 d s1 hd => q3 (by omega) i r h1 h2 h3 H1 d s1 hd⟩
    refine ⟨_, _, _, s1 _ _ hx, T.cl_Effect, T.n_Effect_capacity, by decide, ?_⟩
    simp only [tThen]
    walk_at "rd"
    have hx1 := s1 _ _ hx
    have ha1 := s1 _ _ ha
    have hax : a ≠ x := fun z => by
      rw [z, hx] at ha
      cases b <;> cases ha
    have hlt : (putF "_capacity" (V.int (n : Nat)) []).length < 1000 := Nat.lt_of_le_of_lt (putF_len _ _ _) (by decide)
    have fin : ∀ (t : Addr) (H2 : Hp), (∀ y o, y ≠ x → H y = some o → H2 y = some o) → t ≠ x → H2 t = some (.tup ws) → Q .non (upd H2 x (.ins T.x_Effect dx (putF "_rows" (.ref t) (putF "_capacity" (.int (n : Nat)) [])))) := fun t H2 k2 htx ht => by
      rw [efl_put]
      refine q1 ⟨h1, h2, by omega, hok⟩ t _ (fun y o hy e => by rw [upd_ne hy]; exact k2 y o hy e) upd_same ⟨ws, by rw [upd_ne htx]; exact ht, hv.1, fun i v r e1 e2 => ?_⟩
      have h0 := hv.2 i v r e1 e2
      cases r with
      | none => exact h0
      | some kx =>
        obtain ⟨l, a', e, he⟩ := h0
        have hne : a' ≠ x := fun z => by rw [z, hx] at he; cases he
        exact ⟨l, a', e, by rw [upd_ne hne]; exact k2 a' _ hne he⟩
    cases b with
    | true =>
      refine .inl ⟨a, ws, rfl, SqL.of (by rw [upd_ne hax]; exact ha1), fun t ht => ?_⟩
      have htx : t ≠ x := fun z => by rw [z, upd_same] at ht; cases ht
      refine ⟨_, _, _, by rw [upd_ne (Ne.symm htx)]; exact upd_same, T.cl_Effect, T.n_Effect_rows, hlt, ?_⟩
      refine fin t _ (fun y o hy e => ?_) htx upd_same
      have hyt : y ≠ t := fun z => by
        rw [← z, upd_ne hy, s1 _ _ e] at ht
        cases ht
      rw [upd_ne hyt, upd_ne hy]
      exact s1 _ _ e
    | false =>
      refine .inr ⟨a, ws, rfl, SqT.of (by rw [upd_ne hax]; exact ha1), ?_⟩
      refine ⟨_, _, _, upd_same, T.cl_Effect, T.n_Effect_rows, hlt, ?_⟩
      exact fin a _ (fun y o hy e => by rw [upd_ne hy]; exact s1 _ _ e) hax (by rw [upd_ne hax]; exact ha1)
theorem mke {K : PySem.W.Frag} {C CC CE : Addr} {H : Hp} {Q : Addr → Hp → Prop} {E : XK} {c : Nat} {a : Addr} {b : Bool} {ws : List V} {rs : List Rw} (ok : EffOk c rs) (ha : H a = some (seqO b ws)) (hv : RowsV H ws rs) (q : ∀ x H1, Same H H1 → H x = none → EffAt C H1 x c rs → Q x H1) :
    ∀ x dx, H x = none → H dx = none → dx ≠ x → sp_einit K C CC CE [.ref x, .int (c : Nat), .ref a] (upd (upd H dx (.own x)) x (.ins C dx [])) (fun v H2 => v = .non ∧ Q x H2) E := by
  intro x dx hx hd _
  have s0 := made (C := C) hx hd
  have c1 := ok.c1
  have c2 := ok.c2
  have hl := ok.len
  refine ⟨x, dx, _, _, rfl, upd_same, .int _, fun h => ?_, fun n e h1 h2 => ?_⟩
  · simp only [isCapV, Bool.and_eq_false_iff, decide_eq_false_iff_not] at h
    omega
  · have e2 : n = c := by injection e with e; omega
    subst e2
    refine ⟨a, b, ws, rs, rfl, s0 _ _ ha, hv.mono s0, by omega, fun _ t H1 k1 hx1 hr => ⟨rfl, q x H1 (fun y o e => k1 y o (ne_of_none e hx) (s0 y o e)) hx ⟨dx, t, hx1, hr, ok⟩⟩, fun h => absurd hl h, fun _ i r e1 e2 => ?_⟩
    rw [ok.ok i r e1] at e2
    cases e2
theorem mkeT {K : PySem.W.Frag} {C CC CE : Addr} {H : Hp} {Q : Addr → Hp → Prop} {E : XK} {c : Nat} {a : Addr} {rs : List Rw} (ok : EffOk c rs) (ha : RowsAt H a rs) (q : ∀ x H1, Same H H1 → H x = none → EffAt C H1 x c rs → Q x H1) :
    ∀ x dx, H x = none → H dx = none → dx ≠ x → sp_einit K C CC CE [.ref x, .int (c : Nat), .ref a] (upd (upd H dx (.own x)) x (.ins C dx [])) (fun v H2 => v = .non ∧ Q x H2) E := by
  obtain ⟨ws, h1, h2, h3⟩ := ha
  exact mke (b := false) ok h1 ⟨h2, h3⟩ q
/-! ### the properties -/
theorem ok_Effect_capacity (T : Top K mg) : FnOk P w K mg base CX0 1 T.a_Effect_capacity T.d_Effect_capacity ["self"] (fun vs H Q _ => ∃ (x : Addr) (c : Nat) (rs : List Rw), vs = [.ref x] ∧ EffAt T.x_Effect H x c rs ∧ Q (.int (c : Nat)) H) := by
  refine T.F_Effect_capacity.ok sc_Effect_capacity (fun vs H Q E h => ?_) (fun cdv A outer s H vs Q E hr h => ?_)
  · obtain ⟨x, c, rs, rfl, _⟩ := h
    rfl
  · obtain ⟨x, c, rs, rfl, ⟨dx, t, hx, ht, ok⟩, q⟩ := h
    refine ⟨_, (pss_one (ps_ret (pe_fld (pv 0) rfl))), ?_⟩
    have hst : start ["self"] [.ref x] = [some (.ref x)] := rfl
    rw [hst]
    walk_at "rd"
    exact ⟨_, _, _, hx, T.cl_Effect, T.n_Effect_capacity, _, efl_cap c t, q⟩
theorem ok_Effect_rows (T : Top K mg) : FnOk P w K mg base CX0 1 T.a_Effect_rows T.d_Effect_rows ["self"] (fun vs H Q _ => ∃ (x : Addr) (c : Nat) (rs : List Rw), vs = [.ref x] ∧ EffAt T.x_Effect H x c rs ∧ ∀ t, RowsAt H t rs → Q (.ref t) H) := by
  refine T.F_Effect_rows.ok sc_Effect_rows (fun vs H Q E h => ?_) (fun cdv A outer s H vs Q E hr h => ?_)
  · obtain ⟨x, c, rs, rfl, _⟩ := h
    rfl
  · obtain ⟨x, c, rs, rfl, ⟨dx, t, hx, ht, ok⟩, q⟩ := h
    refine ⟨_, (pss_one (ps_ret (pe_fld (pv 0) rfl))), ?_⟩
    have hst : start ["self"] [.ref x] = [some (.ref x)] := rfl
    rw [hst]
    walk_at "rd"
    exact ⟨_, _, _, hx, T.cl_Effect, T.n_Effect_rows, _, efl_rows c t, q t ht⟩
/-! ### identity, failing -/
def sp_ecm (K : PySem.W.Frag) (C CC : Addr) (f : Nat → List Rw) : Sp := fun vs H Q E => ∃ c : V, vs = [.ref C, c] ∧ Kd K H c ∧ (isCapV c = false → E (.ref CC) none H) ∧ ∀ n : Nat, c = .int (n : Nat) → 1 ≤ n → n ≤ 100 → ∀ x H1, Same H H1 → H x = none → EffAt C H1 x n (f n) → Q (.ref x) H1
theorem capV_nat {c : V} (hc : isCapV c = true) : ∃ n : Nat, c = .int (n : Nat) ∧ 1 ≤ n ∧ n ≤ 100 := by
  cases c with
  | int i =>
    simp only [isCapV, Bool.and_eq_true, decide_eq_true_eq] at hc
    exact ⟨i.toNat, by rw [Int.toNat_of_nonneg (by omega)], by omega, by omega⟩
  | _ => cases hc
theorem ok_Effect_identity (T : Top K mg) : FnOk P w K mg base (L2.CX P w) 7 T.a_Effect_identity T.d_Effect_identity ["cls", "capacity"] (sp_ecm K T.x_Effect T.x_InvalidCapacity idRows) := by
  have G_check_capacity := ok_check_capacity (w := w) (base := base) T
  have G_Effect_init := ok_Effect_init (w := w) (base := base) T
  have G_identity_rows := ok_identity_rows (w := w) (base := base) T
  refine T.F_Effect_identity.okX sc_Effect_identity (fun vs H Q E h => ?_) (fun cdv A outer s H vs Q E hr h => ?_)
  · obtain ⟨c, rfl, _⟩ := h
    rfl
  · obtain ⟨c, rfl, kc, ec, h⟩ := h
    refine ⟨_, (pss_cons (ps_expr (pe_callS G_check_capacity (hr.mono (by first | decide | omega)) rfl T.m_check_capacity T.F_check_capacity.kp T.b_check_capacity (fun σ => passAt (takes_of rfl rfl rfl rfl) σ) (pa_cons (pv 1) pa_nil)))
      (pss_one (ps_ret (pe_makeL (i := 0) T.mk_Effect G_Effect_init (hr.mono (by first | decide | omega)) rfl (Or.inl rfl) T.b_Effect_init .nil (passAll (takes_of rfl rfl rfl rfl)) (pa_cons (pv 1) (pa_cons (pe_call G_identity_rows (hr.mono (by first | decide | omega)) rfl T.m_identity_rows T.F_identity_rows.kp T.b_identity_rows .nil pass0 (pa_cons (pv 1) pa_nil)) pa_nil)))))), ?_⟩
    have hst : start ["cls", "capacity"] [.ref T.x_Effect, c] = [some (.ref T.x_Effect), some c] := rfl
    rw [hst]
    walk_at "rd"
    simp only [tCallS]
    walk_at "rd"
    refine ⟨kc, ec, fun hc => ?_⟩
    obtain ⟨n, rfl, h1, h2⟩ := capV_nat hc
    exact ⟨n, rfl, by omega, fun t H1 s1 ht hr' => mkeT (idRows_ok h1 h2) hr' fun x H2 s2 hx hE => h n rfl h1 h2 x H2 (s1.trans s2) (s1.free hx) hE⟩

/-! ### the result for a queue -/
def resV (r : Rw) (q : Str) : V := match r with
  | none => .non
  | some (k, x) => .str (endS q k ++ x)
theorem ok_result_of_row (T : Top K mg) : FnOk P w K mg base CX0 2 T.a_result_of_row T.d_result_of_row ["row", "queue"] (fun vs H Q _ => ∃ (v : V) (r : Rw) (q : Str), vs = [v, .str q] ∧ RwAt H v r ∧ q.length ≤ 20000 ∧ Q (resV r q) H) := by
  have G_ending := ok_ending (w := w) (base := base) T
  refine T.F_result_of_row.ok sc_result_of_row (fun vs H Q E h => ?_) (fun cdv A outer s H vs Q E hr h => ?_)
  · obtain ⟨v, r, q, rfl, _⟩ := h
    rfl
  · obtain ⟨v, r, q, rfl, hv, hq, hQ⟩ := h
    refine ⟨_, (pss_cons (ps_if (pt_cmpR op_isN (pv 0) pe_non (nomark _)) (pss_one (ps_ret pe_non)) pss_nil)
      (pss_cons (ps_asg (pv 0) (pg_tup (by rfl) (pgs_cons (pg_name (i := 2) sc_result_of_row.nd rfl (Or.inl rfl)) (pgs_cons (pg_name (i := 3) sc_result_of_row.nd rfl (Or.inl rfl)) pgs_nil))))
      (pss_one (ps_ret (pe_op op_add_str (pe_call G_ending (hr.mono (by first | decide | omega)) rfl T.m_ending T.F_ending.kp T.b_ending .nil pass0 (pa_cons (pv 1) (pa_cons (pv 2) pa_nil))) (pv 3)))))), ?_⟩
    have hst : start ["row", "queue", "kept", "word"] [v, .str q] = [some v, some (.str q), none, none] := rfl
    rw [hst]
    walk_at "rd"
    cases r with
    | none =>
      have hv' : v = .non := hv
      subst hv'
      rw [decide_eq_true rfl, if_pos rfl]
      exact hQ
    | some kx =>
      obtain ⟨k, x⟩ := kx
      obtain ⟨lx, a, rfl, ha⟩ := hv
      rw [decide_eq_false (by intro h; cases h), if_neg (by decide)]
      refine ⟨a, rfl, [.int k, .str x], SqT.of ha, rfl, ?_⟩
      simp only [gCons, gNil]
      walk_at "rd"
      have he := endS_len q k
      exact ⟨by omega, sz_of (by omega), hQ⟩
/-! ### queues -/
def queueV (x : V) (n : Nat) : Bool := match x with | .str s => lettersOnly s && decide (s.length ≤ n) | _ => false
def sp_is_queue (K : PySem.W.Frag) (CC : Addr) : Sp := fun vs H Q E => ∃ (x c : V), vs = [x, c] ∧ Kd K H x ∧ Kd K H c ∧ (isCapV c = false → E (.ref CC) none H) ∧ ∀ n : Nat, c = .int (n : Nat) → 1 ≤ n → n ≤ 100 → Q (.bl (queueV x n)) H
theorem ok_is_queue (T : Top K mg) : FnOk P w K mg base (L2.CX P w) 4 T.a_is_queue T.d_is_queue ["value", "capacity"] (sp_is_queue K T.x_InvalidCapacity) := by
  have G_is_capacity := ok_is_capacity (w := w) (base := base) T
  have G_has_letters_only := ok_has_letters_only (w := w) (base := base) T
  refine T.F_is_queue.ok sc_is_queue (fun vs H Q E h => ?_) (fun cdv A outer s H vs Q E hr h => ?_)
  · obtain ⟨x, c, rfl, _⟩ := h
    rfl
  · obtain ⟨x, c, rfl, kx, kc, ec, q⟩ := h
    refine ⟨_, (pss_cons (ps_if (pt_not (pt_val (pe_call G_is_capacity (hr.mono (by first | decide | omega)) rfl T.m_is_capacity T.F_is_capacity.kp T.b_is_capacity .nil pass0 (pa_cons (pv 1) pa_nil)))) (pss_one (ps_raise rfl (takes_of rfl rfl rfl rfl) (pmk_own PySem.F.excBase_ValueError T.q_InvalidCapacity T.g_InvalidCapacity T.k_InvalidCapacity (raises_own T.b_InvalidCapacity T.t_InvalidCapacity) rfl))) pss_nil)
      (pss_one (ps_ret (pe_and (pe_call G_has_letters_only (hr.mono (by first | decide | omega)) rfl T.m_has_letters_only T.F_has_letters_only.kp T.b_has_letters_only .nil pass0 (pa_cons (pv 0) pa_nil)) (pe_one (pe_cmpR op_le (pe_callB call_len_str (by rfl) T.z_len (by decide +kernel) (pa_cons (pv 0) pa_nil)) (pv 1) (nomark _))))))), ?_⟩
    have hst : start ["value", "capacity"] [x, c] = [some x, some c] := rfl
    rw [hst]
    walk_at "rd"
    simp only [sp_has]
    walk_at "rd"
    refine ⟨kc, ?_⟩
    cases hc : isCapV c with
    | false => exact ec hc
    | true =>
      obtain ⟨n, rfl, h1, h2⟩ := capV_nat hc
      have q := q n rfl h1 h2
      rw [Bool.not_true, if_neg (by decide)]
      refine ⟨kx, ?_⟩
      cases kx with
      | str z hz =>
        simp only [hasLetV]
        walk_at "rd"
        refine ite2 (fun c => ⟨Nat.le_trans hz (by decide), ?_⟩) (fun c => ?_)
        · have e : queueV (.str z) n = decide ((z.length : Int) ≤ n) := by
            simp only [queueV, c, Bool.true_and]
            exact decide_eq_decide.mpr (by omega)
          rw [e] at q
          exact q
        · have e : queueV (.str z) n = false := by simp only [queueV]; simp_all
          rw [e] at q
          exact q
      | _ => simp only [hasLetV]; walk_at "rd"; exact q
theorem ok_check_queue (T : Top K mg) : FnOk P w K mg base (L2.CX P w) 5 T.a_check_queue T.d_check_queue ["value", "capacity"] (fun vs H Q E => ∃ (x : V) (n : Nat), vs = [x, .int (n : Nat)] ∧ Kd K H x ∧ 1 ≤ n ∧ n ≤ 100 ∧ (queueV x n = false → E (.ref T.x_InvalidQueue) none H) ∧ (queueV x n = true → Q .non H)) := by
  have G_is_queue := ok_is_queue (w := w) (base := base) T
  refine T.F_check_queue.okX sc_check_queue (fun vs H Q E h => ?_) (fun cdv A outer s H vs Q E hr h => ?_)
  · obtain ⟨x, n, rfl, _⟩ := h
    rfl
  · obtain ⟨x, n, rfl, kx, h1, h2, eq, q⟩ := h
    refine ⟨_, (pss_one (ps_if (pt_not (pt_val (pe_callS G_is_queue (hr.mono (by first | decide | omega)) rfl T.m_is_queue T.F_is_queue.kp T.b_is_queue (fun σ => passAt (takes_of rfl rfl rfl rfl) σ) (pa_cons (pv 0) (pa_cons (pv 1) pa_nil))))) (pss_one (ps_raise rfl (takes_of rfl rfl rfl rfl) (pmk_own PySem.F.excBase_ValueError T.q_InvalidQueue T.g_InvalidQueue T.k_InvalidQueue (raises_own T.b_InvalidQueue T.t_InvalidQueue) rfl))) pss_nil)), ?_⟩
    have hst : start ["value", "capacity"] [x, .int (n : Nat)] = [some x, some (.int (n : Nat))] := rfl
    rw [hst]
    walk_at "rd"
    simp only [tCallS, sp_is_queue]
    walk_at "rd"
    refine ⟨kx, .int _, fun hc => ?_, fun m e _ _ => ?_⟩
    · simp only [isCapV, Bool.and_eq_false_iff, decide_eq_false_iff_not] at hc
      omega
    · have e2 : m = n := by injection e with e; omega
      subst e2
      cases hq : queueV x m with
      | false => exact eq hq
      | true => exact q hq
/-! ### effect(queue) -/
theorem rw_at {H : Hp} {t : Addr} {rs : List Rw} (h : RowsAt H t rs) {i : Nat} (hi : i < rs.length) : ∃ (ws : List V) (v : V), H t = some (.tup ws) ∧ ws[i]? = some v ∧ RwAt H v rs[i] := by
  obtain ⟨ws, h1, h2, h3⟩ := h
  have hw : i < ws.length := by omega
  exact ⟨ws, ws[i], h1, List.getElem?_eq_getElem hw, h3 i _ _ (List.getElem?_eq_getElem hw) (List.getElem?_eq_getElem hi)⟩
def sp_ecall (K : PySem.W.Frag) (C CQ CF : Addr) : Sp := fun vs H Q E => ∃ (x : Addr) (v : V) (c : Nat) (rs : List Rw), vs = [.ref x, v] ∧ EffAt C H x c rs ∧ Kd K H v ∧ (queueV v c = false → E (.ref CQ) none H) ∧
  ∀ z : Str, v = .str z → lettersOnly z = true → z.length ≤ c → (rs.getD z.length none = none → ∀ d, H d = none → E (.ref CF) (some d) (upd H d (.xd [("length", .int (z.length : Nat))]))) ∧ (∀ k y, rs.getD z.length none = some (k, y) → Q (.str (endS z k ++ y)) H)
theorem ok_Effect_call (T : Top K mg) : FnOk P w K mg base (L2.CX P w) 6 T.a_Effect_call T.d_Effect_call ["self", "queue"] (sp_ecall K T.x_Effect T.x_InvalidQueue T.x_EffectFailed) := by
  have G_check_queue := ok_check_queue (w := w) (base := base) T
  have G_result_of_row := ok_result_of_row (w := w) (base := base) T
  refine T.F_Effect_call.okX sc_Effect_call (fun vs H Q E h => ?_) (fun cdv A outer s H vs Q E hr h => ?_)
  · obtain ⟨x, v, c, rs, rfl, _⟩ := h
    rfl
  · obtain ⟨x, v, c, rs, rfl, ⟨dx, t, hx, ht, ok⟩, kv, eq, q⟩ := h
    refine ⟨_, (pss_cons (ps_expr (pe_callS G_check_queue (hr.mono (by first | decide | omega)) rfl T.m_check_queue T.F_check_queue.kp T.b_check_queue (fun σ => passAt (takes_of rfl rfl rfl rfl) σ) (pa_cons (pv 1) (pa_cons (pe_fld (pv 0) rfl) pa_nil))))
      (pss_cons (ps_set (i := 2) sc_Effect_call.nd rfl (Or.inl rfl) (pe_call G_result_of_row (hr.mono (by first | decide | omega)) rfl T.m_result_of_row T.F_result_of_row.kp T.b_result_of_row .nil pass0 (pa_cons (pe_ix ix_tup (pe_fld (pv 0) rfl) (pe_callB call_len_str (by rfl) T.z_len (by decide +kernel) (pa_cons (pv 1) pa_nil)) (fun _ _ => rfl)) (pa_cons (pv 1) pa_nil))))
      (pss_cons (ps_if (pt_cmpR op_isN (pv 2) pe_non (nomark _)) (pss_one (ps_raise rfl (takes_of rfl rfl rfl rfl) (pmk_EffectFailed PySem.F.excBase_LookupError PySem.W.kxs_LookupError PySem.F.store_LookupError T.E_EffectFailed htopP hr (by exact (pa_cons (pe_callB call_len_str (by rfl) T.z_len (by decide +kernel) (pa_cons (pv 1) pa_nil)) pa_nil)) rfl))) pss_nil)
      (pss_one (ps_ret (pv 2)))))), ?_⟩
    have hst : start ["self", "queue", "result"] [.ref x, v] = [some (.ref x), some v, none] := rfl
    rw [hst]
    walk_at "rd"
    simp only [tCallS]
    walk_at "rd"
    refine rd_fld hx T.cl_Effect T.n_Effect_capacity (efl_cap c t) ?_
    walk_at "rd"
    refine ⟨c, rfl, kv, ok.c1, ok.c2, eq, fun hq => ?_⟩
    cases kv with
    | str z hz =>
      simp only [queueV, Bool.and_eq_true, decide_eq_true_eq] at hq
      obtain ⟨q1, q2⟩ := q z rfl hq.1 hq.2
      walk_at "rd"
      refine rd_fld hx T.cl_Effect T.n_Effect_rows (efl_rows c t) ⟨sz_of hz, ?_⟩
      have hlen := ok.len
      have hi : z.length < rs.length := by omega
      obtain ⟨ws, w0, h1, h2, h3⟩ := rw_at ht hi
      have hd : rs.getD z.length none = rs[z.length] := by
        rw [List.getD_eq_getElem?_getD, List.getElem?_eq_getElem hi]; rfl
      rw [hd] at q1 q2
      refine ⟨t, ws, _, _, rfl, rfl, SqT.of h1, atI_nat h2, rs[z.length], h3, by have := ok.c2; have := hq.2; omega, ?_⟩
      cases hr0 : rs[z.length] with
      | none =>
        rw [show resV none z = .non from rfl, decide_eq_true rfl, if_pos rfl]
        exact ⟨_, rfl, z, rfl, sz_of hz, _, rfl, fun d hd => q1 hr0 d hd⟩
      | some kx =>
        obtain ⟨k, y⟩ := kx
        rw [decide_eq_false (by intro h; cases h), if_neg (by decide)]
        exact q2 k y hr0
    | _ => cases hq

def sp_csame (C CM : Addr) : Sp := fun vs H Q E => ∃ (x y : Addr) (c1 c2 : Nat) (r1 r2 : List Rw), vs = [.ref x, .ref y] ∧ EffAt C H x c1 r1 ∧ EffAt C H y c2 r2 ∧
  (c1 ≠ c2 → ∀ d, H d = none → E (.ref CM) (some d) (upd H d (.xd [("first", .int (c1 : Nat)), ("second", .int (c2 : Nat))]))) ∧ (c1 = c2 → Q .non H)
theorem EffAt.ins {C : Addr} {H : Hp} {x : Addr} {c : Nat} {rs : List Rw} (h : EffAt C H x c rs) : ∃ dx fs, H x = some (.ins C dx fs) := let ⟨dx, t, e, _⟩ := h; ⟨dx, _, e⟩
theorem EffAt.noattr {C : Addr} {H : Hp} {x : Addr} {c : Nat} {rs : List Rw} (h : EffAt C H x c rs) {m : Str} (h1 : ¬ m = "_capacity") (h2 : ¬ m = "_rows") : ∃ dx fs, H x = some (.ins C dx fs) ∧ fs.lookup m = none := let ⟨dx, t, e, _⟩ := h; ⟨dx, _, e, efl_no h1 h2⟩
theorem ok_check_same_capacity (T : Top K mg) : FnOk P w K mg base (L2.CX P w) 3 T.a_check_same_capacity T.d_check_same_capacity ["one", "other"] (sp_csame T.x_Effect T.x_CapacityMismatch) := by
  have G_Effect_capacity := ok_Effect_capacity (w := w) (base := base) T
  refine T.F_check_same_capacity.okX sc_check_same_capacity (fun vs H Q E h => ?_) (fun cdv A outer s H vs Q E hr h => ?_)
  · obtain ⟨x, y, c1, c2, r1, r2, rfl, _⟩ := h
    rfl
  · obtain ⟨x, y, c1, c2, r1, r2, rfl, hx, hy, ne, q⟩ := h
    refine ⟨_, (pss_one (ps_if (pt_cmpR op_ne (pe_prop (pv 0) T.cl_Effect T.pr_Effect_capacity G_Effect_capacity (hr.mono (by first | decide | omega)) T.b_Effect_capacity .nil pass0 rfl) (pe_prop (pv 1) T.cl_Effect T.pr_Effect_capacity G_Effect_capacity (hr.mono (by first | decide | omega)) T.b_Effect_capacity .nil pass0 rfl) (nomark _)) (pss_one (ps_raise rfl (takes_of rfl rfl rfl rfl) (pmk_CapacityMismatch PySem.F.excBase_ValueError PySem.W.kxs_ValueError PySem.F.store_ValueError T.E_CapacityMismatch T.n2_CapacityMismatch htopP hr (by exact (pa_cons (pe_prop (pv 0) T.cl_Effect T.pr_Effect_capacity G_Effect_capacity (hr.mono (by first | decide | omega)) T.b_Effect_capacity .nil pass0 rfl) (pa_cons (pe_prop (pv 1) T.cl_Effect T.pr_Effect_capacity G_Effect_capacity (hr.mono (by first | decide | omega)) T.b_Effect_capacity .nil pass0 rfl) pa_nil))) rfl))) pss_nil)), ?_⟩
    have hst : start ["one", "other"] [.ref x, .ref y] = [some (.ref x), some (.ref y)] := rfl
    rw [hst]
    walk_at "rd"
    obtain ⟨dx, fx, ex⟩ := hx.ins
    obtain ⟨dy, fy, ey⟩ := hy.ins
    refine ⟨⟨_, _, ex⟩, c1, ⟨_, hx⟩, ⟨_, _, ey⟩, c2, ⟨_, hy⟩, ?_⟩
    by_cases h : c1 = c2
    · rw [decide_eq_true (by omega), Bool.not_true, if_neg (by decide)]
      exact q h
    · rw [decide_eq_false (by omega), Bool.not_false, if_pos rfl]
      simp only [SupX.tMk2]
      walk_at "rd"
      exact ⟨⟨_, _, ex⟩, c1, ⟨_, hx⟩, ⟨_, _, ey⟩, c2, ⟨_, hy⟩, fun d hd => ne h d hd⟩

/-! ### == -/
theorem dp_row {K : PySem.W.Frag} {H : Hp} {v : V} {r : Rw} (h : RwAt H v r) : Dp K H v (rowD r) := by
  cases r with
  | none => have : v = .non := h; subst this; exact .non
  | some kx =>
    obtain ⟨_, a, rfl, ha⟩ := h
    exact .tup (SqT.of ha) (.cons (.int _) (.cons (.str _) .nil))
theorem dp_rows {K : PySem.W.Frag} {H : Hp} : ∀ {vs : List V} {rs : List Rw}, RowsV H vs rs → DpAll K H vs (rs.map rowD)
  | [], [], _ => .nil
  | v :: vs, r :: rs, h => .cons (dp_row (h.2 0 v r rfl rfl)) (dp_rows (vs := vs) (rs := rs) ⟨by have := h.1; simpa using this, fun i v' r' h1 h2 => h.2 (i + 1) v' r' (by simpa using h1) (by simpa using h2)⟩)
  | [], _ :: _, h => by have := h.1; cases this
  | _ :: _, [], h => by have := h.1; cases this
theorem dp_rowsAt {K : PySem.W.Frag} {H : Hp} {t : Addr} {rs : List Rw} (h : RowsAt H t rs) : Dp K H (.ref t) (.tuple (rs.map rowD)) := by
  obtain ⟨vs, h1, h2⟩ := h
  exact .tup (SqT.of h1) (dp_rows h2)
theorem eq_rowsT {K : PySem.W.Frag} {H : Hp} {a b : Addr} {r1 r2 : List Rw} {Q : VK} (h1 : RowsAt H a r1) (h2 : RowsAt H b r2) (l1 : ∀ r ∈ r1, rowLt r) (l2 : ∀ r ∈ r2, rowLt r) (q : Q (.bl (decide (r1 = r2))) H) : rEqD K (.ref a) (.ref b) H Q :=
  ⟨_, _, dp_rowsAt h1, dp_rowsAt h2, shaped_rowsT l1, shaped_rowsT l2, by rw [PyData.eqv, eqv_rows]; exact q⟩

/-! ### part of -/
def sp_ceff (K : PySem.W.Frag) (C CE : Addr) : Sp := fun vs H Q E => ∃ v : V, vs = [v] ∧ ((∃ (x : Addr) (c : Nat) (rs : List Rw), v = .ref x ∧ EffAt C H x c rs ∧ Q .non H) ∨
  (∃ t : Value, TyX K H v t ∧ PySem.W.kitOne K t (.ref C) = some false ∧ ∀ d, H d = none → E (.ref CE) (some d) (upd H d (.xd [("position", .non)]))))
theorem ok_check_effect (T : Top K mg) : FnOk P w K mg base (L2.CX P w) 1 T.a_check_effect T.d_check_effect ["value"] (sp_ceff K T.x_Effect T.x_InvalidEffect) := by

  refine T.F_check_effect.okX sc_check_effect (fun vs H Q E h => ?_) (fun cdv A outer s H vs Q E hr h => ?_)
  · obtain ⟨v, rfl, _⟩ := h
    rfl
  · obtain ⟨v, rfl, h⟩ := h
    refine ⟨_, (pss_one (ps_if (pt_not (pt_val (pe_callB call_isi (by rfl) T.z_isinstance (by decide +kernel) (pa_cons (pv 0) (pa_cons (pe_glob (v := .ref T.x_Effect) (by rfl) T.g_Effect rfl) pa_nil))))) (pss_one (ps_raise rfl (takes_of rfl rfl rfl rfl) (pmk_InvalidEffect PySem.F.excBase_ValueError PySem.W.kxs_ValueError PySem.F.store_ValueError T.E_InvalidEffect htopP hr (by exact (pa_cons pe_non pa_nil)) rfl))) pss_nil)), ?_⟩
    have hst : start ["value"] [v] = [some v] := rfl
    rw [hst]
    walk_at "rd"
    rcases h with ⟨x, c, rs, rfl, hx, q⟩ | ⟨t, ty, kt, q⟩
    · obtain ⟨dx, fx, ex⟩ := hx.ins
      refine isi_own (.base (.ins ex T.cl_Effect T.ca_Effect T.cg_Effect T.ct_Effect T.cm_Effect)) kit_self ⟨true, rfl, ?_⟩
      rw [Bool.not_true, if_neg (by decide)]
      exact q
    · refine isi_own ty kt ⟨false, rfl, ?_⟩
      rw [Bool.not_false, if_pos rfl]
      exact ⟨_, rfl, fun d hd => q d hd⟩

theorem emod_lt {a b : Int} (h : 0 < b) : 0 ≤ a % b ∧ a % b < b := ⟨Int.emod_nonneg _ (by omega), Int.emod_lt_of_pos _ h⟩
theorem ok__law_draw (T : Top K mg) : FnOk P w K mg base CX0 1 T.a__law_draw T.d__law_draw ["_law_draws_here", "_law_upto"] sp_draw := by

  refine T.F__law_draw.ok sc__law_draw (fun vs H Q E h => ?_) (fun cdv A outer s H vs Q E hr h => ?_)
  · obtain ⟨p, d, u, rfl, _⟩ := h
    rfl
  · obtain ⟨p, ⟨a, b⟩, u, rfl, hp, ⟨ha, hb, hb2⟩, hu0, hu1, q⟩ := h
    refine ⟨_, (pss_cons (ps_if (pt_cmpR op_gt (pe_ix ix_list (pv 0) pe_int (fun _ _ => rfl)) pe_int (nomark _)) (pss_cons (ps_set (i := 2) sc__law_draw.nd rfl (Or.inl rfl) (pe_op op_mod (pe_ix ix_list (pv 0) pe_int (fun _ _ => rfl)) (pv 1)))
      (pss_cons (ps_asg (pe_op op_fdiv (pe_ix ix_list (pv 0) pe_int (fun _ _ => rfl)) (pv 1)) (pg_sub (pv 0) pe_int set_list))
      (pss_one (ps_ret (pv 2))))) pss_nil)
      (pss_cons (ps_asg (pe_op op_mod (pe_op op_add (pe_op op_mul (pe_ix ix_list (pv 0) pe_int (fun _ _ => rfl)) pe_int) pe_int) pe_int) (pg_sub (pv 0) pe_int set_list))
      (pss_one (ps_ret (pe_op op_mod (pe_op op_fdiv (pe_op op_mod (pe_op op_mul (pe_ix ix_list (pv 0) pe_int (fun _ _ => rfl)) (pe_ix ix_list (pv 0) pe_int (fun _ _ => rfl))) pe_int) pe_int) (pv 1)))))), ?_⟩
    have hst : start ["_law_draws_here", "_law_upto", "_law_digit"] [.ref p, .int u] = [some (.ref p), some (.int u), none] := rfl
    rw [hst]
    walk_at "rd"
    simp only at ha hb hb2
    have h0 : SqL K H p [.int a, .int b] := SqL.of hp
    refine ix_at h0 (by decide) rfl ?_
    walk_at "rd"
    refine ite2 (fun c => ?_) (fun c => ?_)
    · have c' : 0 < a := of_decide_eq_true c
      refine ix_at h0 (by decide) rfl ?_
      walk_at "rd"
      refine ⟨hu0, ix_at h0 (by decide) rfl ?_⟩
      walk_at "rd"
      refine ⟨⟨hu0, by omega⟩, set_at (xs := [.int a, .int b]) hp (by decide) (by simp) ?_⟩
      walk_at "rd"
      have e1 := emod_lt (a := a) hu0
      exact q (a % u) (a / u, b) _ e1.1 e1.2 ⟨Int.ediv_nonneg ha (by omega), hb, hb2⟩ upd_same (fun q o hq e => by rw [upd_ne hq]; exact e)
    · refine ix_at h0 (by decide) rfl ?_
      walk_at "rd"
      have e1 := emod_lt (a := b * 48271 + 11) (b := 2147483647) (by decide)
      generalize hy : (b * 48271 + 11) % 2147483647 = y at e1 ⊢
      have h2 : SqL K (upd H p (.lst [.int a, .int y])) p [.int a, .int y] := SqL.of upd_same
      refine ⟨.inr (by decide), by decide, set_at (xs := [.int a, .int b]) hp (by decide) (by simp) ?_⟩
      walk_at "rd"
      refine ix_at h2 (by decide) rfl (ix_at h2 (by decide) rfl ?_)
      walk_at "rd"
      refine ⟨.inl (by omega), by decide, ⟨by decide, by decide⟩, hu0, ?_⟩
      have e2 := emod_lt (a := y * y % 2147483629 / 64) hu0
      exact q _ (a, y) _ e2.1 e2.2 ⟨ha, e1.1, e1.2⟩ upd_same (fun q o hq e => by rw [upd_ne hq]; exact e)
theorem mem_map_int {ns : List Int} {i : Nat} (h : i < ns.length) : (ns.map V.int)[i]? = some (.int ns[i]) := by
  rw [List.getElem?_map, List.getElem?_eq_getElem h] <;> rfl
theorem ok__law_draws (T : Top K mg) : FnOk P w K mg base CX0 1 T.a__law_draws T.d__law_draws ["_law_script", "_law_k"] (sp_draws K) := by

  refine T.F__law_draws.ok sc__law_draws (fun vs H Q E h => ?_) (fun cdv A outer s H vs Q E hr h => ?_)
  · obtain ⟨a, ns, k, rfl, _⟩ := h
    rfl
  · obtain ⟨a, ns, k, rfl, hS, hl, hk0, hk1, q⟩ := h
    refine ⟨_, (pss_cons (ps_set (i := 2) sc__law_draws.nd rfl (Or.inl rfl) pe_int)
      (pss_cons (ps_if (pt_cmpR (op_neD hr.units) (pv 0) (pe_lst pa_nil) (nomark _)) (pss_one (ps_set (i := 2) sc__law_draws.nd rfl (Or.inl rfl) (pe_ix ix_list (pv 0) (pe_op op_mod (pv 1) (pe_callB call_len_seq (by rfl) T.z_len (by decide +kernel) (pa_cons (pv 0) pa_nil))) (fun _ _ => rfl)))) pss_nil)
      (pss_cons (ps_if (pt_cmpR op_ge (pv 1) (pe_callB call_len_seq (by rfl) T.z_len (by decide +kernel) (pa_cons (pv 0) pa_nil)) (nomark _)) (pss_one (ps_set (i := 2) sc__law_draws.nd rfl (Or.inl rfl) (pe_op op_mod (pv 2) pe_int))) pss_nil)
      (pss_cons (ps_set (i := 3) sc__law_draws.nd rfl (Or.inl rfl) (pe_op op_mod (pe_op op_mul (pe_op op_add (pe_op op_add (pe_op op_mod (pv 2) pe_int) (pe_op op_mul pe_int (pv 1))) pe_int) pe_int) pe_int))
      (pss_one (ps_ret (pe_lst (pa_cons (pe_op op_mul (pv 2) (pe_callTy call_int1 (by rfl) T.z_int (by decide +kernel) (pa_cons (pe_cmpR op_ge (pv 2) (pe_op op_pow pe_int pe_int) (nomark _)) pa_nil))) (pa_cons (pv 3) pa_nil))))))))), ?_⟩
    have hst : start ["_law_script", "_law_k", "_law_cell", "_law_seed"] [.ref a, .int k] = [some (.ref a), some (.int k), none, none] := rfl
    rw [hst]
    walk_at "rd"
    refine ⟨by show 0 ≤ sizeLine; decide, fun p0 hp0 => ?_⟩
    have s0 : Same H (upd H p0 (.lst [])) := same_new hp0 _
    have hn : SqL K (upd H p0 (.lst [])) p0 [] := SqL.of upd_same
    refine ne_lists (s0.seq hS) hn (ok_ints ns) rfl ?_
    rw [eqL_nil]
    -- the end, from any cell
    have fin : ∀ c : Int, CMul 104729 k ∧ CMul (c % 2147483629 + 104729 * k + 11) 48271 ∧ (0 : Int) < 2147483647 ∧ CPow 10 18 ∧ CMul c (if decide (10 ^ Int.toNat 18 ≤ c) = true then 1 else 0) ∧
        [V.int (c * if decide (10 ^ Int.toNat 18 ≤ c) = true then 1 else 0), V.int ((c % 2147483629 + 104729 * k + 11) * 48271 % 2147483647)].length ≤ sizeLine ∧
        ∀ p, upd H p0 (.lst []) p = none → Q (.ref p) (upd (upd H p0 (.lst [])) p (.lst [V.int (c * if decide (10 ^ Int.toNat 18 ≤ c) = true then 1 else 0), V.int ((c % 2147483629 + 104729 * k + 11) * 48271 % 2147483647)])) := fun c => by
      have e1 := emod_lt (a := c) (b := 2147483629) (by decide)
      have e2 := emod_lt (a := (c % 2147483629 + 104729 * k + 11) * 48271) (b := 2147483647) (by decide)
      refine ⟨.inl (by decide), .inr (by decide), by decide, ⟨by decide, by decide, by decide⟩, .inr (by split <;> decide), by show 2 ≤ sizeLine; decide, fun p hp => ?_⟩
      refine q p (c * if decide (10 ^ Int.toNat 18 ≤ c) = true then 1 else 0, (c % 2147483629 + 104729 * k + 11) * 48271 % 2147483647) _ (s0.trans (same_new hp _)) (s0.free hp) ⟨?_, e2.1, e2.2⟩ upd_same
      show 0 ≤ c * if decide (10 ^ Int.toNat 18 ≤ c) = true then 1 else 0
      split
      · rename_i h
        have h' := of_decide_eq_true h
        have : (0 : Int) ≤ 10 ^ Int.toNat 18 := by decide
        omega
      · omega
    cases hns : ns with
    | nil =>
      simp only [List.map_nil, List.isEmpty_nil]
      walk_at "rd"
      refine ⟨_, .inl (s0.seq hS), ?_⟩
      refine ite2 (fun c => ⟨by decide, by decide, ?_⟩) (fun c => ⟨by decide, ?_⟩)
      · exact fin _
      · exact fin _
    | cons n ms =>
      simp only [List.map_cons, List.isEmpty_cons]
      walk_at "rd"
      have hlen : 0 < ns.length := by rw [hns]; exact Nat.succ_pos _
      have e1 := emod_lt (a := k) (b := ns.length) (by omega)
      have hi : (k % (ns.length : Int)).toNat < ns.length := by omega
      refine ⟨_, .inl (s0.seq hS), ?_⟩
      rw [List.length_map]
      refine ⟨by omega, ix_at (s0.seq hS) e1.1 (mem_map_int hi) ?_⟩
      walk_at "rd"
      refine ⟨_, .inl (s0.seq hS), ?_⟩
      refine ite2 (fun c => ⟨by decide, by decide, ?_⟩) (fun c => ⟨by decide, ?_⟩)
      · exact fin _
      · exact fin _

def But (p : Addr) (H H' : Hp) : Prop := ∀ q o, q ≠ p → H q = some o → H' q = some o
theorem But.refl (p : Addr) (H : Hp) : But p H H := fun _ _ _ h => h
theorem But.trans {p : Addr} {H H1 H2 : Hp} (a : But p H H1) (b : But p H1 H2) : But p H H2 := fun q o hq h => b q o hq (a q o hq h)
theorem But.new {p q : Addr} {H H1 : Hp} (a : But p H H1) (h : H1 q = none) (o : HO) : But p H (upd H1 q o) := fun b u hb e => by
  have := a b u hb e
  rw [upd_ne (ne_of_none this h)]; exact this
theorem But.mut {p q : Addr} {H H1 : Hp} (a : But p H H1) (h : H q = none) (o : HO) : But p H (upd H1 q o) := fun b u hb e => by
  rw [upd_ne (ne_of_none e h)]; exact a b u hb e
theorem ok__law_letter (T : Top K mg) : FnOk P w K mg base CX0 2 T.a__law_letter T.d__law_letter ["_law_draws_here"] (fun vs H Q _ => ∃ (p : Addr) (d : Int × Int), vs = [.ref p] ∧ H p = some (dw d) ∧ okD d ∧
    ∀ (c : Nat) (d' : Int × Int) (H' : Hp), isLet c = true → okD d' → H' p = some (dw d') → But p H H' → Q (.str (sg c)) H') := by
  have G__law_draw := ok__law_draw (w := w) (base := base) T
  refine T.F__law_letter.ok sc__law_letter (fun vs H Q E h => ?_) (fun cdv A outer s H vs Q E hr h => ?_)
  · obtain ⟨p, d, rfl, _⟩ := h
    rfl
  · obtain ⟨p, d, rfl, hp, hd, q⟩ := h
    refine ⟨_, (pss_one (ps_ret (pe_ix ix_str pe_str (pe_call G__law_draw (hr.mono (by first | decide | omega)) rfl T.m__law_draw T.F__law_draw.kp T.b__law_draw .nil pass0 (pa_cons (pv 0) (pa_cons pe_int pa_nil))) (fun _ _ => rfl)))), ?_⟩
    have hst : start ["_law_draws_here"] [.ref p] = [some (.ref p)] := rfl
    rw [hst]
    walk_at "rd"
    simp only [sp_draw]
    refine ⟨p, d, 6, rfl, hp, hd, by decide, by decide, fun v d' H' h0 h1 hd' hp' k => ?_⟩
    have hc : v = 0 ∨ v = 1 ∨ v = 2 ∨ v = 3 ∨ v = 4 ∨ v = 5 := by omega
    rcases hc with rfl | rfl | rfl | rfl | rfl | rfl
    all_goals (refine ix_str_at (by decide) (by decide) (by first | rfl | decide) ?_; exact q _ d' H' (by decide) hd' hp' k)

/-! ### the law's rows -/
def sp_lqueue : Sp := fun vs H Q _ => ∃ (p : Addr) (d : Int × Int) (m : Nat), vs = [.ref p, .int (m : Int)] ∧ H p = some (dw d) ∧ okD d ∧ m ≤ 1000 ∧
    ∀ (z : Str) (d' : Int × Int) (H' : Hp), lettersOnly z = true → z.length ≤ m → okD d' → H' p = some (dw d') → But p H H' → Q (.str z) H'
theorem ok__law_queue (T : Top K mg) : FnOk P w K mg base CX0 3 T.a__law_queue T.d__law_queue ["_law_draws_here", "_law_most"] sp_lqueue := by
  have G__law_letter := ok__law_letter (w := w) (base := base) T
  have G__law_draw := ok__law_draw (w := w) (base := base) T
  refine T.F__law_queue.ok sc__law_queue (fun vs H Q E h => ?_) (fun cdv A outer s H vs Q E hr h => ?_)
  · obtain ⟨p, d, m, rfl, _⟩ := h
    rfl
  · obtain ⟨p, d, m, rfl, hp, hd, hm, q⟩ := h
    refine ⟨_, (pss_one (ps_ret (pe_join pe_str (pe_lc (own := [("_law_turn", 2)]) (g := (gName 2)) (tt := tYes) (by rfl) sc__law_queue.nd (pi_range1 (by rfl) T.z_range (pa_cons (pe_call G__law_draw (hr.mono (by first | decide | omega)) rfl T.m__law_draw T.F__law_draw.kp T.b__law_draw .nil pass0 (pa_cons (pv 0) (pa_cons (pe_op op_add (pv 1) pe_int) pa_nil))) pa_nil)) (blkOk_by (own := [("_law_turn", 2)]) (N := ["_law_draws_here", "_law_most", "_law_turn"]) (sc := defScope s__law_queue) (by decide +kernel)) (fun _ _ _ _ _ => pg_name (i := 2) sc__law_queue.nd rfl (Or.inl rfl)) (fun _ _ _ _ _ => pts_nil) (fun _ _ _ _ _ => (pe_call G__law_letter (hr.mono (by first | decide | omega)) rfl T.m__law_letter T.F__law_letter.kp T.b__law_letter .nil pass0 (pa_cons (pv 0) pa_nil))))))), ?_⟩
    have hst : start ["_law_draws_here", "_law_most", "_law_turn"] [.ref p, .int m] = [some (.ref p), some (.int m), none] := rfl
    rw [hst]
    walk_at "rd"
    refine ⟨⟨_, rfl⟩, lcR fun R kR => ?_⟩
    walk_at "rd"
    simp only [sp_draw]
    refine ⟨p, d, (m : Int) + 1, rfl, hp, hd, by omega, by omega, fun n d1 H1 n0 n1 hd1 hp1 k1 => ?_⟩
    refine kR n H1 (by omega) (by omega) fun D hD => ?_
    have Dp : D ≠ p := fun e => by rw [e, hp1] at hD; cases hD
    have hDH : H D = none := free_but k1 hp1 hD
    refine ⟨fun i H' => ∃ (cs : List Nat) (dd : Int × Int), cs.length = i ∧ cs.all isLet = true ∧ okD dd ∧ H' p = some (dw dd) ∧ H' D = some (.lst ((cs.map sg).map V.str)) ∧ But p H H',
      ⟨[], d1, rfl, rfl, hd1, by rw [upd_ne (Ne.symm Dp)]; exact hp1, upd_same, But.new k1 hD _⟩, ?_, ?_⟩
    · rintro i H' hi ⟨cs, dd, hcl, hcs, hdd, hpp, hDD, BB⟩
      walk_at "wp"
      walk_at "rd"
      refine ⟨dd, hpp, hdd, fun c d3 H3 hc hd3 hp3 k3 => ⟨_, k3 D _ Dp hDD, ?_, cs ++ [c], by rw [List.length_append, hcl]; rfl, by rw [List.all_append, hcs]; simp [hc], d3, hd3, by rw [upd_ne (Ne.symm Dp)]; exact hp3, ?_, (BB.trans k3).mut hDH _⟩⟩
      · rw [List.length_map, List.length_map, hcl]
        exact Nat.lt_of_le_of_lt (by omega : i ≤ 100000) (by decide)
      · rw [upd_same]; simp
    · rintro H' ⟨cs, dd, hcl, hcs, hdd, hpp, hDD, BB⟩
      have hj : tl (Txt.join (Str.ofString "") (cs.map sg)) = cs := by
        show tl (Txt.join ("" : Str) (cs.map sg)) = _
        rw [tl_join0, flat_sg]
      refine ⟨D, rfl, cs.map sg, .inl (SqL.of hDD), ?_, q _ dd H' (by rw [lo_tl, hj]; exact hcs) (by rw [← tl_len, hj]; omega) hdd hpp BB⟩
      rw [len_sg, show (Str.ofString "").length = 0 from rfl, Nat.mul_zero]
      exact Nat.le_trans (by omega : _ ≤ 100000) (by decide)
theorem RwAt.but {p : Addr} {H H' : Hp} {ns : List V} (k : But p H H') (hp : H p = some (.lst ns)) {v : V} : ∀ {r : Rw}, RwAt H v r → RwAt H' v r
  | none, h => h
  | some (_, _), ⟨l, a, e, ha⟩ => ⟨l, a, e, k a _ (fun z => by rw [z, hp] at ha; cases ha) ha⟩
theorem RowsV.but {p : Addr} {H H' : Hp} {ns : List V} (k : But p H H') (hp : H p = some (.lst ns)) {vs : List V} {rs : List Rw} (h : RowsV H vs rs) : RowsV H' vs rs := ⟨h.1, fun i v r h1 h2 => (h.2 i v r h1 h2).but k hp⟩
def sp_lrows : Sp := fun vs H Q _ => ∃ (p : Addr) (d : Int × Int) (c : Nat), vs = [.ref p, .int (c : Int)] ∧ H p = some (dw d) ∧ okD d ∧ 1 ≤ c ∧ c ≤ 100 ∧
    ∀ (l : Addr) (ws : List V) (rs : List Rw) (d' : Int × Int) (H' : Hp), EffOk c rs → okD d' → H' p = some (dw d') → But p H H' → H l = none → l ≠ p → H' l = some (.lst ws) → RowsV H' ws rs → Q (.ref l) H'
theorem ok__law_rows (T : Top K mg) : FnOk P w K mg base CX0 4 T.a__law_rows T.d__law_rows ["_law_draws_here", "_law_capacity"] sp_lrows := by
  have G__law_draw := ok__law_draw (w := w) (base := base) T
  have G__law_queue := ok__law_queue (w := w) (base := base) T
  refine T.F__law_rows.ok sc__law_rows (fun vs H Q E h => ?_) (fun cdv A outer s H vs Q E hr h => ?_)
  · obtain ⟨p, d, c, rfl, _⟩ := h
    rfl
  · obtain ⟨p, d, c, rfl, hp, hd, hc1, hc, q⟩ := h
    refine ⟨_, (pss_cons (ps_set (i := 2) sc__law_rows.nd rfl (Or.inl rfl) (pe_lst pa_nil))
      (pss_cons (ps_for PassesOwn.never rfl (pi_range1 (by rfl) T.z_range (pa_cons (pe_op op_add (pv 1) pe_int) pa_nil)) (pg_name (i := 3) sc__law_rows.nd rfl (Or.inl rfl)) (pss_cons (ps_set (i := 4) sc__law_rows.nd rfl (Or.inl rfl) (pe_call G__law_draw (hr.mono (by first | decide | omega)) rfl T.m__law_draw T.F__law_draw.kp T.b__law_draw .nil pass0 (pa_cons (pv 0) (pa_cons (pe_op op_add (pv 3) pe_int) pa_nil))))
      (pss_cons (ps_set (i := 5) sc__law_rows.nd rfl (Or.inl rfl) (pe_tup (pa_cons (pv 4) (pa_cons (pe_call G__law_queue (hr.mono (by first | decide | omega)) rfl T.m__law_queue T.F__law_queue.kp T.b__law_queue .nil pass0 (pa_cons (pv 0) (pa_cons (pe_callB (call_min2 rfl) (by rfl) T.z_min (by decide +kernel) (pa_cons pe_int (pa_cons (pe_op op_sub (pv 1) (pv 4)) pa_nil))) pa_nil))) pa_nil))))
      (pss_one (ps_expr (pe_bm PySem.F.plainAttrs_list PySem.F.slot_list_append PySem.F.type_list_append mt_append (pv 2) (pa_cons (pe_ix ix_list (pe_lst (pa_cons (pv 5) (pa_cons (pv 5) (pa_cons (pv 5) (pa_cons pe_non pa_nil))))) (pe_call G__law_draw (hr.mono (by first | decide | omega)) rfl T.m__law_draw T.F__law_draw.kp T.b__law_draw .nil pass0 (pa_cons (pv 0) (pa_cons pe_int pa_nil))) (fun _ _ => rfl)) pa_nil)))))))
      (pss_one (ps_ret (pv 2))))), ?_⟩
    have hst : start ["_law_draws_here", "_law_capacity", "_law_rows_here", "_law_length", "_law_kept", "_law_row"] [.ref p, .int c] = [some (.ref p), some (.int c), none, none, none, none] := rfl
    rw [hst]
    walk_at "rd"
    refine ⟨by walk_at "sz", fun l hl => ?_⟩
    have lp : l ≠ p := fun e => by rw [e, hp] at hl; cases hl
    have hp1 : upd H l (.lst []) p = some (dw d) := by rw [upd_ne (Ne.symm lp)]; exact hp
    refine forR fun R kR => ?_
    walk_at "rd"
    refine kR ((c : Int) + 1) (fun i σ H' => ∃ (ws : List V) (rs : List Rw) (dd : Int × Int) (x3 x4 x5 : Option V), σ = [some (.ref p), some (.int c), some (.ref l), x3, x4, x5] ∧ rs.length = i ∧ okRows rs c ∧ okD dd ∧ H' p = some (dw dd) ∧ H' l = some (.lst ws) ∧ RowsV H' ws rs ∧ But p H H')
      _ (by omega) (by omega) ⟨[], [], d, _, _, _, rfl, rfl, (fun i r h => by cases h), hd, hp1, upd_same, ⟨rfl, (fun i v r h => by cases h)⟩, (But.refl p H).new hl _⟩ ?_ ?_
    · rintro i σ H' hi ⟨ws, rs, dd, x3, x4, x5, rfl, hrl, hok, hdd, hpp, hll, hrv, BB⟩
      walk_at "rd"
      simp only [sp_draw]
      refine ⟨p, dd, _, rfl, hpp, hdd, by omega, by omega, fun kept d1 H1 v0 v1 hd1 hp1' k1 => ⟨_, rfl, ?_⟩⟩
      obtain ⟨k, rfl⟩ := nat_of v0
      have hm : (if (c : Int) - k < 4 then (c : Int) - k else 4) = ((min 4 (c - k) : Nat) : Int) := by split <;> omega
      rw [hm]
      refine ⟨p, d1, min 4 (c - k), rfl, hp1', hd1, by omega, fun z d2 H2 hz hzl hd2 hp2 k2 => ⟨by walk_at "sz", fun T0 hT => ?_⟩⟩
      have Tp : T0 ≠ p := fun e => by rw [e, hp2] at hT; cases hT
      have hl2 := k2 l _ lp (k1 l _ lp hll)
      have Tl : T0 ≠ l := fun e => by rw [e, hl2] at hT; cases hT
      refine ⟨.inl ⟨_, SqL.of (by rw [upd_ne (Ne.symm Tl)]; exact hl2)⟩, by walk_at "sz", fun L0 hL0 => ?_⟩
      have LT : L0 ≠ T0 := fun e => by rw [e, upd_same] at hL0; cases hL0
      have hL2 : H2 L0 = none := by rw [← hL0, upd_ne LT]
      have Lp : L0 ≠ p := fun e => by rw [e, hp2] at hL2; cases hL2
      have Ll : L0 ≠ l := fun e => by rw [e, hl2] at hL2; cases hL2
      refine ⟨p, d2, 4, rfl, by rw [upd_ne (Ne.symm Lp), upd_ne (Ne.symm Tp)]; exact hp2, hd2, by decide, by decide, fun v d3 H3 w0 w1 hd3 hp3 k3 => ?_⟩
      have hT3 : H3 T0 = some (.tup [.int (k : Nat), .str z]) := k3 T0 _ Tp (by rw [upd_ne (Ne.symm LT), upd_same])
      have hL3 := k3 L0 _ Lp upd_same
      have hl3 := k3 l _ lp (by rw [upd_ne (Ne.symm Ll), upd_ne (Ne.symm Tl)]; exact hl2)
      have B2 : But p H H2 := (BB.trans k1).trans k2
      have B3 : But p H H3 := ((B2.new hT _).new (H1 := upd H2 T0 _) hL0 _).trans k3
      have rv3 : RowsV H3 ws rs := by
        have r2 := (hrv.but k1 hpp).but k2 hp1'
        have r3 := ((r2.mono (same_new hT (.tup [.int (k : Nat), .str z]))).mono (same_new hL0 (.lst [.ref T0, .ref T0, .ref T0, .non])))
        exact r3.but k3 (by rw [upd_ne (Ne.symm Lp), upd_ne (Ne.symm Tp)]; exact hp2)
      have hrow : RwAt H3 (.ref T0) (some ((k : Int), z)) := ⟨by omega, T0, rfl, hT3⟩
      have hokr : okRw (some ((k : Int), z)) i c = true := okRw_mk (by omega) (by omega) hz (by omega)
      have fin : ∀ (v : V) (r : Rw), RwAt H3 v r → okRw r i c = true → rAppend (.ref l) [v] H3 fun x H1 => ∃ (ws : List V) (rs : List Rw) (dd : Int × Int) (x3 x4 x5 : Option V), [some (V.ref p), some (.int c), some (.ref l), some (.int (0 + i)), some (.int (k : Nat)), some (.ref T0)] = [some (V.ref p), some (.int c), some (.ref l), x3, x4, x5] ∧ rs.length = i + 1 ∧ okRows rs c ∧ okD dd ∧ H1 p = some (dw dd) ∧ H1 l = some (.lst ws) ∧ RowsV H1 ws rs ∧ But p H H1 := fun v r hv hr0 => by
        have hsz : ws.length < sizeLine := by
          rw [hrv.1, hrl]
          exact Nat.lt_of_le_of_lt (by omega : i ≤ 100000) (by decide)
        refine ⟨l, ws, v, rfl, rfl, hl3, hsz, ws ++ [v], rs ++ [r], d3, _, _, _, rfl, by rw [List.length_append, hrl]; rfl, fun j r' hj => ?_, hd3, by rw [upd_ne (Ne.symm lp)]; exact hp3, upd_same, ⟨by rw [List.length_append, List.length_append, hrv.1]; rfl, fun j v' r' h1 h2 => ?_⟩, B3.mut hl _⟩
        · by_cases hjl : j < rs.length
          · rw [List.getElem?_append_left hjl] at hj
            exact hok j r' hj
          · have hj2 : j = rs.length := by
              have := (List.getElem?_eq_some_iff.mp hj).1
              simp at this
              omega
            subst hj2
            rw [List.getElem?_append_right (Nat.le_refl _)] at hj
            simp at hj
            rw [← hj, hrl]
            exact hr0
        · by_cases hjl : j < rs.length
          · rw [List.getElem?_append_left hjl] at h2
            rw [List.getElem?_append_left (by rw [hrv.1]; exact hjl)] at h1
            exact (rv3.2 j v' r' h1 h2).upd hl3
          · have hj2 : j = rs.length := by
              have := (List.getElem?_eq_some_iff.mp h2).1
              simp at this
              omega
            subst hj2
            rw [List.getElem?_append_right (Nat.le_refl _)] at h2
            rw [List.getElem?_append_right (by rw [hrv.1]; exact Nat.le_refl _), hrv.1] at h1
            simp at h1 h2
            rw [← h1, ← h2]
            exact hv.upd hl3
      have hcs : v = 0 ∨ v = 1 ∨ v = 2 ∨ v = 3 := by omega
      rcases hcs with rfl | rfl | rfl | rfl
      · exact ix_at (SqL.of hL3) (by decide) rfl (by simpa using fin _ _ hrow hokr)
      · exact ix_at (SqL.of hL3) (by decide) rfl (by simpa using fin _ _ hrow hokr)
      · exact ix_at (SqL.of hL3) (by decide) rfl (by simpa using fin _ _ hrow hokr)
      · exact ix_at (SqL.of hL3) (by decide) rfl (by simpa using fin .non none rfl rfl)
    · rintro σ H' ⟨ws, rs, dd, x3, x4, x5, rfl, hrl, hok, hdd, hpp, hll, hrv, BB⟩
      walk_at "rd"
      exact q l ws rs dd H' ⟨hc1, hc, by omega, hok⟩ hdd hpp BB hl lp hll hrv

/-! ### applied, mismatch -/
/-- what the law makes of a call: the result or none -/
def appV (rs : List Rw) (z : Str) : V := resV (rs.getD z.length none) z
theorem ok__law_applied (T : Top K mg) : FnOk P w K mg base CX0 7 T.a__law_applied T.d__law_applied ["_law_effect", "_law_queue_here"] (fun vs H Q _ => ∃ (x : Addr) (z : Str) (c : Nat) (rs : List Rw), vs = [.ref x, .str z] ∧ EffAt T.x_Effect H x c rs ∧ lettersOnly z = true ∧ z.length ≤ c ∧
    ∀ H1, Same H H1 → Q (appV rs z) H1) := by
  have G_Effect_call := ok_Effect_call (w := w) (base := base) T
  refine T.F__law_applied.ok sc__law_applied (fun vs H Q E h => ?_) (fun cdv A outer s H vs Q E hr h => ?_)
  · obtain ⟨x, z, c, rs, rfl, _⟩ := h
    rfl
  · obtain ⟨x, z, c, rs, rfl, hx, hz, hl, q⟩ := h
    refine ⟨_, (pss_one (ps_try_only (tb := fun W => tRet (tCallI T.x_Effect (sp_ecall K T.x_Effect T.x_InvalidQueue T.x_EffectFailed) (WA W) (tVar 0) (tCons (tVar 1) tNil))) (ts := fun _ _ _ => tRet (tC .non)) (Wout := fun _ _ _ _ => False) rfl rfl ⟨rfl, by decide, .inl T.E_EffectFailed.g⟩ takes0 (fun W pn xe tk _ => by exact (pss_one (ps_ret (pe_callI (pv 0) T.co_Effect (raw0 G_Effect_call T.b_Effect_call) (hr.mono (by first | decide | omega)) (passAll tk) (pa_cons (pv 1) pa_nil))))) (fun a oe cls d pn _ _ => pss_one (ps_ret pe_non)))), ?_⟩
    have hst : start ["_law_effect", "_law_queue_here"] [.ref x, .str z] = [some (.ref x), some (.str z)] := rfl
    rw [hst]
    walk_at "rd"
    simp only [tCallI]
    walk_at "rd"
    obtain ⟨dx, fx, ex⟩ := hx.ins
    refine ⟨⟨_, _, ex⟩, x, .str z, c, rs, rfl, hx, .str z (by have := hx; obtain ⟨_, _, _, _, ok⟩ := this; have := ok.c2; omega), fun h => ?_, fun z' e _ _ => ?_⟩
    · simp only [queueV, hz, Bool.true_and, decide_eq_false_iff_not] at h
      exact absurd hl h
    · have e2 : z' = z := by injection e with e; exact e.symm
      subst e2
      refine ⟨fun hn d hd σ => ⟨true, T.E_EffectFailed.te, fun _ a _ => ?_, fun h => by cases h⟩, fun k y hy => ?_⟩
      · have := q _ (same_new hd (.xd [("length", .int (z'.length : Nat))]))
        unfold appV at this
        rw [hn] at this
        exact this
      · have := q H (Same.refl _)
        unfold appV at this
        rw [hy] at this
        exact this

/-! ### effect[length] -/
def sp_eitem (K : PySem.W.Frag) (C CI : Addr) : Sp := fun vs H Q E => ∃ (x : Addr) (v : V) (c : Nat) (rs : List Rw), vs = [.ref x, v] ∧ EffAt C H x c rs ∧ Kd K H v ∧ (isLenV v c = false → E (.ref CI) none H) ∧
    ∀ n : Nat, v = .int (n : Nat) → n ≤ c → ∀ y r, rs[n]? = some r → RwAt H y r → Q y H
theorem ok_Effect_getitem (T : Top K mg) : FnOk P w K mg base (L2.CX P w) 4 T.a_Effect_getitem T.d_Effect_getitem ["self", "at"] (sp_eitem K T.x_Effect T.x_InvalidInteger) := by
  have G_check_length := ok_check_length (w := w) (base := base) T
  refine T.F_Effect_getitem.okX sc_Effect_getitem (fun vs H Q E h => ?_) (fun cdv A outer s H vs Q E hr h => ?_)
  · obtain ⟨x, v, c, rs, rfl, _⟩ := h
    rfl
  · obtain ⟨x, v, c, rs, rfl, ⟨dx, t, hx, ht, ok⟩, kv, el, q⟩ := h
    refine ⟨_, (pss_cons (ps_expr (pe_callS G_check_length (hr.mono (by first | decide | omega)) rfl T.m_check_length T.F_check_length.kp T.b_check_length (fun σ => passAt (takes_of rfl rfl rfl rfl) σ) (pa_cons (pv 1) (pa_cons (pe_fld (pv 0) rfl) pa_nil))))
      (pss_one (ps_ret (pe_ix ix_tup (pe_fld (pv 0) rfl) (pv 1) (fun _ _ => rfl))))), ?_⟩
    have hst : start ["self", "at"] [.ref x, v] = [some (.ref x), some v] := rfl
    rw [hst]
    walk_at "rd"
    simp only [tCallS]
    walk_at "rd"
    refine rd_fld hx T.cl_Effect T.n_Effect_capacity (efl_cap c t) ⟨c, rfl, kv, el, fun hc => ?_⟩
    cases v with
    | int i =>
      simp only [isLenV, Bool.and_eq_true, decide_eq_true_eq] at hc
      obtain ⟨n, rfl⟩ := nat_of hc.1
      have hlen := ok.len
      have hi : n < rs.length := by omega
      obtain ⟨ws, w0, h1, h2, h3⟩ := rw_at ht hi
      refine rd_fld hx T.cl_Effect T.n_Effect_rows (efl_rows c t) ⟨t, ws, _, _, rfl, rfl, SqT.of h1, atI_nat h2, ?_⟩
      exact q n rfl (by omega) w0 _ (List.getElem?_eq_getElem hi) h3
    | _ => cases hc
/-! ### queue_between -/
theorem resD_ne {K : PySem.W.Frag} {H : Hp} {r1 r2 : Rw} {z : Str} {Q : VK} {n1 n2 c1 c2 : Int} (h1 : okRw r1 n1 c1 = true) (h2 : okRw r2 n2 c2 = true) (lz : lettersOnly z = true) (q : Q (.bl (!decide (resV r1 z = resV r2 z))) H) : rNeD K (resV r1 z) (resV r2 z) H Q := by
  have data : ∀ {r : Rw} {n c : Int}, okRw r n c = true → ∃ d, Dp K H (resV r z) d ∧ SeqAt.shaped d = true ∧ (d = match resV r z with | .str s => .str s | _ => .none) := fun {r n c} h => by
    cases r with
    | none => exact ⟨.none, .non, by decide, rfl⟩
    | some kx =>
      obtain ⟨k, x⟩ := kx
      obtain ⟨g1, g2, g3, g4⟩ := okRw_len h k x rfl
      obtain ⟨k, rfl⟩ := nat_of g1
      refine ⟨.str (endS z k ++ x), .str _, ?_, rfl⟩
      unfold SeqAt.shaped
      rw [PyData.canLay0, lo_ok (lo_app (lo_end lz _) g3), PyData.depth]; rfl
  obtain ⟨d1, a1, b1, e1⟩ := data h1
  obtain ⟨d2, a2, b2, e2⟩ := data h2
  refine ⟨d1, d2, a1, a2, b1, b2, ?_⟩
  have : PyData.eqv d1 d2 = decide (resV r1 z = resV r2 z) := by
    subst e1; subst e2
    cases r1 with
    | none =>
      cases r2 with
      | none => simp [resV, PyData.eqv]
      | some kx => obtain ⟨k, x⟩ := kx; simp [resV, PyData.eqv]
    | some kx =>
      obtain ⟨k, x⟩ := kx
      cases r2 with
      | none => simp [resV, PyData.eqv]
      | some kx' =>
        obtain ⟨k', x'⟩ := kx'
        simp only [resV, PyData.eqv, V.str.injEq]
        rw [Bool.eq_iff_iff]; simp
  rw [this]
  exact q
def ones (c n : Nat) : Str := ⟨(List.replicate n c).toArray⟩
theorem tl_ones (c n : Nat) : tl (ones c n) = List.replicate n c := by show (List.replicate n c).toArray.toList = _; simp
theorem len_ones (c n : Nat) : (ones c n).length = n := by rw [← tl_len, tl_ones, List.length_replicate]
theorem lo_ones {c n : Nat} (h : isLet c = true) : lettersOnly (ones c n) = true := by
  rw [lo_tl, tl_ones, List.all_eq_true]
  intro d hd
  rw [List.mem_replicate] at hd
  rw [hd.2]; exact h
theorem srep_ones {z : Str} {c n : Nat} (h : tl z = [c]) : srep z n = ones c n := tl_inj (by
  rw [tl_srep, h, tl_ones]
  induction n with
  | zero => rfl
  | succ n ih => rw [List.replicate_succ, List.flatten_cons, ih]; rfl)
/-- two valid rows that differ have different results for so many a or for so many b -/
theorem between {r1 r2 : Rw} {n : Nat} {C1 C2 : Int} (h1 : okRw r1 n C1 = true) (h2 : okRw r2 n C2 = true) (hne : r1 ≠ r2) (ha : resV r1 (ones 97 n) = resV r2 (ones 97 n)) : resV r1 (ones 98 n) ≠ resV r2 (ones 98 n) := by
  intro hb
  cases r1 with
  | none =>
    cases r2 with
    | none => exact hne rfl
    | some kx => obtain ⟨k, x⟩ := kx; cases ha
  | some kx =>
    obtain ⟨k, x⟩ := kx
    cases r2 with
    | none => cases ha
    | some kx' =>
      obtain ⟨k', x'⟩ := kx'
      obtain ⟨g1, g2, g3, g4⟩ := okRw_len h1 k x rfl
      obtain ⟨f1, f2, f3, f4⟩ := okRw_len h2 k' x' rfl
      obtain ⟨k, rfl⟩ := nat_of g1
      obtain ⟨k', rfl⟩ := nat_of f1
      have ea : List.replicate k 97 ++ tl x = List.replicate k' 97 ++ tl x' := by
        have := ha
        simp only [resV, V.str.injEq] at this
        have := congrArg tl this
        rw [tl_end_app, tl_end_app, tl_ones, List.drop_replicate, List.drop_replicate, List.length_replicate] at this
        rw [show n - (n - k) = k by omega, show n - (n - k') = k' by omega] at this
        exact this
      have eb : List.replicate k 98 ++ tl x = List.replicate k' 98 ++ tl x' := by
        have := hb
        simp only [resV, V.str.injEq] at this
        have := congrArg tl this
        rw [tl_end_app, tl_end_app, tl_ones, List.drop_replicate, List.drop_replicate, List.length_replicate] at this
        rw [show n - (n - k) = k by omega, show n - (n - k') = k' by omega] at this
        exact this
      have key : ∀ (k k' : Nat) (x x' : List Nat), k < k' → List.replicate k 97 ++ x = List.replicate k' 97 ++ x' → List.replicate k 98 ++ x = List.replicate k' 98 ++ x' → False := fun k k' x x' hk ea eb => by
        have e1 : (List.replicate k 97 ++ x)[k]? = (List.replicate k' 97 ++ x')[k]? := by rw [ea]
        have e2 : (List.replicate k 98 ++ x)[k]? = (List.replicate k' 98 ++ x')[k]? := by rw [eb]
        rw [List.getElem?_append_right (by simp), List.getElem?_append_left (by simpa using hk), List.length_replicate, Nat.sub_self] at e1 e2
        rw [e1] at e2
        rw [List.getElem?_replicate, List.getElem?_replicate, if_pos hk, if_pos hk] at e2
        cases e2
      rcases Nat.lt_trichotomy k k' with h | h | h
      · exact key k k' _ _ h ea eb
      · subst h
        rw [List.append_cancel_left_eq] at ea
        exact hne (by rw [tl_inj ea])
      · exact key k' k _ _ h ea.symm eb.symm
theorem ok_queue_between (T : Top K mg) : FnOk P w K mg base CX0 3 T.a_queue_between T.d_queue_between ["length", "row", "other_row"] (fun vs H Q _ => ∃ (n : Nat) (v1 v2 : V) (r1 r2 : Rw) (c : Nat), vs = [.int (n : Nat), v1, v2] ∧ RwAt H v1 r1 ∧ RwAt H v2 r2 ∧ n ≤ 200 ∧ okRw r1 n c = true ∧ okRw r2 n c = true ∧ r1 ≠ r2 ∧
    ∀ d : Nat, (d = 97 ∨ d = 98) → resV r1 (ones d n) ≠ resV r2 (ones d n) → Q (.str (ones d n)) H) := by
  have G_result_of_row := ok_result_of_row (w := w) (base := base) T
  refine T.F_queue_between.ok sc_queue_between (fun vs H Q E h => ?_) (fun cdv A outer s H vs Q E hr h => ?_)
  · obtain ⟨n, v1, v2, r1, r2, c, rfl, _⟩ := h
    rfl
  · obtain ⟨n, v1, v2, r1, r2, c, rfl, h1, h2, hn, o1, o2, ne, q⟩ := h
    refine ⟨_, (pss_cons (ps_set (i := 3) sc_queue_between.nd rfl (Or.inl rfl) (pe_op op_rep_str pe_str (pv 0)))
      (pss_cons (ps_if (pt_cmpR (op_neD hr.units) (pe_call G_result_of_row (hr.mono (by first | decide | omega)) rfl T.m_result_of_row T.F_result_of_row.kp T.b_result_of_row .nil pass0 (pa_cons (pv 1) (pa_cons (pv 3) pa_nil))) (pe_call G_result_of_row (hr.mono (by first | decide | omega)) rfl T.m_result_of_row T.F_result_of_row.kp T.b_result_of_row .nil pass0 (pa_cons (pv 2) (pa_cons (pv 3) pa_nil))) (nomark _)) (pss_one (ps_ret (pv 3))) pss_nil)
      (pss_one (ps_ret (pe_op op_rep_str pe_str (pv 0)))))), ?_⟩
    have hst : start ["length", "row", "other_row", "queue"] [.int (n : Nat), v1, v2] = [some (.int (n : Nat)), some v1, some v2, none] := rfl
    rw [hst]
    walk_at "rd"
    have ta : tl (Str.ofString "a") = [97] := by decide +kernel
    have tb : tl (Str.ofString "b") = [98] := by decide +kernel
    refine ⟨Str.ofString "a", n, rfl, rfl, by omega, by omega, by rw [← tl_len, ta]; simp; omega, ?_⟩
    rw [Int.toNat_natCast, srep_ones ta]
    refine ⟨r1, ones 97 n, rfl, h1, by rw [len_ones]; omega, r2, ones 97 n, rfl, h2, by rw [len_ones]; omega, resD_ne o1 o2 (lo_ones (by decide)) ⟨_, rfl, ?_⟩⟩
    by_cases e : resV r1 (ones 97 n) = resV r2 (ones 97 n)
    · rw [decide_eq_true e, Bool.not_true, if_neg (by decide)]
      refine ⟨Str.ofString "b", n, rfl, rfl, by omega, by omega, by rw [← tl_len, tb]; simp; omega, ?_⟩
      rw [Int.toNat_natCast, srep_ones tb]
      exact q 98 (.inr rfl) (between o1 o2 ne e)
    · rw [decide_eq_false e, Bool.not_false, if_pos rfl]
      exact q 97 (.inl rfl) e
/-! ### separating_queue -/
def NoEff (K : PySem.W.Frag) (C : Addr) (H : Hp) (v : V) : Prop := ∃ t : Value, TyX K H v t ∧ PySem.W.kitOne K t (.ref C) = some false
def sp_sep (K : PySem.W.Frag) (C CE CM : Addr) : Sp := fun vs H Q E => ∃ v1 v2 : V, vs = [v1, v2] ∧
  ((NoEff K C H v1 ∧ ∀ d, H d = none → E (.ref CE) (some d) (upd H d (.xd [("position", .non)]))) ∨
  ∃ (x : Addr) (c1 : Nat) (r1 : List Rw), v1 = .ref x ∧ EffAt C H x c1 r1 ∧
    ((NoEff K C H v2 ∧ ∀ d, H d = none → E (.ref CE) (some d) (upd H d (.xd [("position", .non)]))) ∨
    ∃ (y : Addr) (c2 : Nat) (r2 : List Rw), v2 = .ref y ∧ EffAt C H y c2 r2 ∧ (c1 ≠ c2 → ∀ d, H d = none → E (.ref CM) (some d) (upd H d (.xd [("first", .int (c1 : Nat)), ("second", .int (c2 : Nat))]))) ∧
      (c1 = c2 → (r1 = r2 → Q .non H) ∧ ∀ (n d : Nat) (a b : Rw), n ≤ c1 → r1[n]? = some a → r2[n]? = some b → (∀ j, j < n → r1[j]? = r2[j]?) → (d = 97 ∨ d = 98) → resV a (ones d n) ≠ resV b (ones d n) → Q (.str (ones d n)) H)))
theorem ok_separating_queue (T : Top K mg) : FnOk P w K mg base (L2.CX P w) 6 T.a_separating_queue T.d_separating_queue ["one", "other"] (sp_sep K T.x_Effect T.x_InvalidEffect T.x_CapacityMismatch) := by
  have G_check_effect := ok_check_effect (w := w) (base := base) T
  have G_check_same_capacity := ok_check_same_capacity (w := w) (base := base) T
  have G_Effect_capacity := ok_Effect_capacity (w := w) (base := base) T
  have G_Effect_getitem := ok_Effect_getitem (w := w) (base := base) T
  have G_queue_between := ok_queue_between (w := w) (base := base) T
  refine T.F_separating_queue.okX sc_separating_queue (fun vs H Q E h => ?_) (fun cdv A outer s H vs Q E hr h => ?_)
  · obtain ⟨v1, v2, rfl, _⟩ := h
    rfl
  · obtain ⟨v1, v2, rfl, h⟩ := h
    refine ⟨_, (pss_cons (ps_expr (pe_callS G_check_effect (hr.mono (by first | decide | omega)) rfl T.m_check_effect T.F_check_effect.kp T.b_check_effect (fun σ => passAt (takes_of rfl rfl rfl rfl) σ) (pa_cons (pv 0) pa_nil)))
      (pss_cons (ps_expr (pe_callS G_check_effect (hr.mono (by first | decide | omega)) rfl T.m_check_effect T.F_check_effect.kp T.b_check_effect (fun σ => passAt (takes_of rfl rfl rfl rfl) σ) (pa_cons (pv 1) pa_nil)))
      (pss_cons (ps_expr (pe_callS G_check_same_capacity (hr.mono (by first | decide | omega)) rfl T.m_check_same_capacity T.F_check_same_capacity.kp T.b_check_same_capacity (fun σ => passAt (takes_of rfl rfl rfl rfl) σ) (pa_cons (pv 0) (pa_cons (pv 1) pa_nil))))
      (pss_cons (ps_for (passes_of rfl) rfl (pi_range1 (by rfl) T.z_range (pa_cons (pe_op op_add (pe_prop (pv 0) T.cl_Effect T.pr_Effect_capacity G_Effect_capacity (hr.mono (by first | decide | omega)) T.b_Effect_capacity .nil pass0 rfl) pe_int) pa_nil)) (pg_name (i := 2) sc_separating_queue.nd rfl (Or.inl rfl)) (pss_one (ps_if (pt_cmpR (op_neD hr.units) (pe_ixOwn G_Effect_getitem (hr.mono (by first | decide | omega)) T.b_Effect_getitem (passAll (takes_of rfl rfl rfl rfl)) T.it_Effect (pv 0) (pv 2)) (pe_ixOwn G_Effect_getitem (hr.mono (by first | decide | omega)) T.b_Effect_getitem (passAll (takes_of rfl rfl rfl rfl)) T.it_Effect (pv 1) (pv 2)) (nomark _)) (pss_one (ps_ret (pe_call G_queue_between (hr.mono (by first | decide | omega)) rfl T.m_queue_between T.F_queue_between.kp T.b_queue_between .nil pass0 (pa_cons (pv 2) (pa_cons (pe_ixOwn G_Effect_getitem (hr.mono (by first | decide | omega)) T.b_Effect_getitem (passAll (takes_of rfl rfl rfl rfl)) T.it_Effect (pv 0) (pv 2)) (pa_cons (pe_ixOwn G_Effect_getitem (hr.mono (by first | decide | omega)) T.b_Effect_getitem (passAll (takes_of rfl rfl rfl rfl)) T.it_Effect (pv 1) (pv 2)) pa_nil)))))) pss_nil)))
      (pss_one (ps_ret pe_non)))))), ?_⟩
    have hst : start ["one", "other", "length"] [v1, v2] = [some v1, some v2, none] := rfl
    rw [hst]
    walk_at "rd"
    simp only [tCallS, sp_ceff]
    walk_at "rd"
    rcases h with ⟨⟨t, ty, kt⟩, he⟩ | ⟨x, c1, r1, rfl, hx, h⟩
    · exact .inr ⟨t, ty, kt, fun d hd => he d hd⟩
    refine .inl ⟨x, rfl, ⟨c1, r1, hx⟩, ?_⟩
    rcases h with ⟨⟨t, ty, kt⟩, he⟩ | ⟨y, c2, r2, rfl, hy, ne, q⟩
    · exact .inr ⟨t, ty, kt, fun d hd => he d hd⟩
    refine .inl ⟨y, rfl, ⟨c2, r2, hy⟩, x, y, c1, c2, r1, r2, rfl, hx, hy, ne, fun hc => ?_⟩
    subst hc
    obtain ⟨q1, q2⟩ := q rfl
    obtain ⟨dx, fx, ex⟩ := hx.ins
    obtain ⟨dy, fy, ey⟩ := hy.ins
    obtain ⟨_, _, _, _, o1⟩ := id hx
    obtain ⟨_, _, _, _, o2⟩ := id hy
    have hcc := o1.c2
    refine forR fun R kR => ?_
    walk_at "rd"
    refine ⟨⟨_, _, ex⟩, c1, ⟨_, hx⟩, kR _ (fun i σ H' => H' = H ∧ (∀ j, j < i → r1[j]? = r2[j]?) ∧ ∃ x2 : Option V, σ = [some (.ref x), some (.ref y), x2]) H (by omega) (by omega) ⟨rfl, (fun j h => absurd h (Nat.not_lt_zero _)), _, rfl⟩ ?_ ?_⟩
    · rintro i σ H' hi ⟨rfl, hall, x2, rfl⟩
      have hi' : i ≤ c1 := by
        have e : ((c1 : Int) + 1).toNat = c1 + 1 := by omega
        rw [e] at hi
        omega
      have item : ∀ {z : Addr} {rs : List Rw} {Q' : VK} {E' : XK}, EffAt T.x_Effect H' z c1 rs → (∀ w r, rs[i]? = some r → RwAt H' w r → Q' w H') → rIxOwn T.x_Effect (sp_eitem K T.x_Effect T.x_InvalidInteger) E' (.ref z) (.int (0 + (i : Int))) H' Q' := fun {z rs Q' E'} hz k => by
        obtain ⟨dz, fz, ez⟩ := hz.ins
        refine ⟨z, dz, _, rfl, ez, z, _, c1, rs, rfl, hz, .int _, fun h => ?_, fun n e hn w r h1 h2 => ?_⟩
        · simp only [isLenV, Bool.and_eq_false_iff, decide_eq_false_iff_not] at h
          omega
        · have e2 : n = i := by injection e with e; omega
          subst e2
          exact k w r h1 h2
      walk_at "rd"
      refine item hx fun w1 a ha hwa => item hy fun w2 b hb hwb => ?_
      have hoa := o1.ok i a ha
      have hob := o2.ok i b hb
      have hla : rowLt a := o1.lt a (List.mem_of_getElem? ha)
      have hlb : rowLt b := o2.lt b (List.mem_of_getElem? hb)
      refine ⟨_, _, dp_row hwa, dp_row hwb, shaped_row hla, shaped_row hlb, ⟨_, rfl, ?_⟩⟩
      rw [eqv_row]
      by_cases e : a = b
      · rw [decide_eq_true e, Bool.not_true, if_neg (by decide)]
        refine ⟨rfl, fun j hj => ?_, ⟨_, rfl⟩⟩
        by_cases hji : j < i
        · exact hall j hji
        · have : j = i := by omega
          subst this
          rw [ha, hb, e]
      · rw [decide_eq_false e, Bool.not_false, if_pos rfl]
        refine item hx fun w1 a' ha' hwa' => item hy fun w2 b' hb' hwb' => ?_
        rw [ha] at ha'
        rw [hb] at hb'
        cases ha'
        cases hb'
        exact ⟨i, by omega, a, hwa', b, hwb', by omega, c1, hoa, hob, e, fun d hd hne => q2 i d a b hi' ha hb hall hd hne⟩
    · rintro σ H' ⟨rfl, hall, x2, rfl⟩
      walk_at "rd"
      refine q1 (List.ext_getElem? fun j => ?_)
      have l1 := o1.len
      have l2 := o2.len
      by_cases hj : j < c1 + 1
      · exact hall j (by omega)
      · rw [List.getElem?_eq_none (by omega), List.getElem?_eq_none (by omega)]

/-! ### the law's other rows -/
theorem rowsV_nil {H : Hp} : RowsV H [] [] := ⟨rfl, fun i v r h => by cases h⟩
theorem rowsV_cons {H : Hp} {v : V} {r : Rw} {vs : List V} {rs : List Rw} (h : RwAt H v r) (t : RowsV H vs rs) : RowsV H (v :: vs) (r :: rs) := ⟨by rw [List.length_cons, List.length_cons, t.1], fun i v' r' h1 h2 => by
  cases i with
  | zero =>
    have e1 : v = v' := by simpa using h1
    have e2 : r = r' := by simpa using h2
    subst e1; subst e2
    exact h
  | succ i => exact t.2 i v' r' (by simpa using h1) (by simpa using h2)⟩
theorem lo_cut {x : Str} {lo hi : Option Int} (h : lettersOnly x = true) : lettersOnly (cutS x lo hi) = true := by
  rw [lo_tl] at *
  rw [List.all_eq_true] at *
  intro c hc
  refine h c ?_
  have : c ∈ ((tl x).drop (HT.sIx x.length 0 lo)).take (HT.sIx x.length x.length hi - HT.sIx x.length 0 lo) := by
    have e : tl (cutS x lo hi) = ((tl x).drop (HT.sIx x.length 0 lo)).take (HT.sIx x.length x.length hi - HT.sIx x.length 0 lo) := by
      show (((tl x).drop _).take _).toArray.toList = _
      simp
    rw [e] at hc
    exact hc
  exact List.mem_of_mem_drop (List.mem_of_mem_take this)
/-- what stands in the menu: right for its place, but perhaps too long -/
def menuOk (m : Rw) (n : Nat) : Prop := ∀ k x, m = some (k, x) → 0 ≤ k ∧ k ≤ n ∧ lettersOnly x = true ∧ x.length ≤ 190
theorem RowsV.set {H : Hp} {D : Addr} {ws : List V} {rs : List Rw} {n : Nat} {v : V} {r : Rw} (h : H D = some (.lst ws)) (rv : RowsV H ws rs) (hr : RwAt H v r) : RowsV (upd H D (.lst (ws.set n v))) (ws.set n v) (rs.set n r) := by
  refine ⟨by rw [List.length_set, List.length_set]; exact rv.1, fun i v' r' h1 h2 => ?_⟩
  rw [List.getElem?_set] at h1 h2
  by_cases hi : n = i
  · rw [if_pos hi] at h1 h2
    split at h1
    · rw [if_pos (by have := rv.1; omega)] at h2
      injection h1 with h1
      injection h2 with h2
      rw [← h1, ← h2]
      exact hr.upd h
    · cases h1
  · rw [if_neg hi] at h1 h2
    exact (rv.2 i v' r' h1 h2).upd h
theorem EffOk.set {c n : Nat} {rs : List Rw} {r : Rw} (h : EffOk c rs) (hr : okRw r n c = true) : EffOk c (rs.set n r) where
  c1 := h.c1
  c2 := h.c2
  len := by rw [List.length_set]; exact h.len
  ok := fun i r' e => by
    rw [List.getElem?_set] at e
    by_cases hi : n = i
    · rw [if_pos hi] at e
      split at e
      · injection e with e; rw [← e, ← hi]; exact hr
      · cases e
    · rw [if_neg hi] at e
      exact h.ok i r' e
def sp_lother (K : PySem.W.Frag) : Sp := fun vs H Q _ => ∃ (p l : Addr) (d : Int × Int) (c : Nat) (ws : List V) (rs : List Rw), vs = [.ref p, .ref l, .int (c : Int)] ∧ H p = some (dw d) ∧ okD d ∧ EffOk c rs ∧ H l = some (.lst ws) ∧ l ≠ p ∧ RowsV H ws rs ∧
    ∀ (l2 : Addr) (ws2 : List V) (rs2 : List Rw) (d' : Int × Int) (H' : Hp), EffOk c rs2 → okD d' → H' p = some (dw d') → But p H H' → H l2 = none → l2 ≠ p → H' l2 = some (.lst ws2) → RowsV H' ws2 rs2 → Q (.ref l2) H'
theorem ok__law_other (T : Top K mg) : FnOk P w K mg base CX0 3 T.a__law_other T.d__law_other ["_law_draws_here", "_law_rows_here", "_law_capacity"] (sp_lother K) := by
  have G__law_draw := ok__law_draw (w := w) (base := base) T
  have G__law_letter := ok__law_letter (w := w) (base := base) T
  refine T.F__law_other.ok sc__law_other (fun vs H Q E h => ?_) (fun cdv A outer s H vs Q E hr h => ?_)
  · obtain ⟨p, l, d, c, ws, rs, rfl, _⟩ := h
    rfl
  · obtain ⟨p, l, d, c, ws, rs, rfl, hp, hd, ok, hl, lp, hrv, q⟩ := h
    refine ⟨_, (pss_cons (ps_set (i := 3) sc__law_other.nd rfl (Or.inl rfl) (pe_callTy call_list_of (by rfl) T.z_list (by decide +kernel) (pa_cons (pv 1) pa_nil)))
      (pss_cons (ps_set (i := 4) sc__law_other.nd rfl (Or.inl rfl) (pe_call G__law_draw (hr.mono (by first | decide | omega)) rfl T.m__law_draw T.F__law_draw.kp T.b__law_draw .nil pass0 (pa_cons (pv 0) (pa_cons (pe_op op_add (pv 2) pe_int) pa_nil))))
      (pss_cons (ps_set (i := 5) sc__law_other.nd rfl (Or.inl rfl) (pe_ix ix_list (pv 1) (pv 4) (fun _ _ => rfl)))
      (pss_cons (ps_set (i := 6) sc__law_other.nd rfl (Or.inl rfl) (pe_call G__law_letter (hr.mono (by first | decide | omega)) rfl T.m__law_letter T.F__law_letter.kp T.b__law_letter .nil pass0 (pa_cons (pv 0) pa_nil)))
      (pss_cons (ps_set (i := 7) sc__law_other.nd rfl (Or.inl rfl) (pe_lst (pa_cons pe_non (pa_cons (pe_tup (pa_cons (pv 4) (pa_cons pe_str pa_nil))) (pa_cons (pe_tup (pa_cons pe_int (pa_cons pe_str pa_nil))) pa_nil)))))
      (pss_cons (ps_if (pt_cmpR op_notN (pv 5) pe_non (nomark _)) (pss_cons (ps_asg (pv 5) (pg_tup (by rfl) (pgs_cons (pg_name (i := 8) sc__law_other.nd rfl (Or.inl rfl)) (pgs_cons (pg_name (i := 9) sc__law_other.nd rfl (Or.inl rfl)) pgs_nil))))
      (pss_one (ps_set (i := 7) sc__law_other.nd rfl (Or.inl rfl) (pe_op op_cat (pv 7) (pe_lst (pa_cons (pe_tup (pa_cons (pe_callB (call_max2 rfl) (by rfl) T.z_max (by decide +kernel) (pa_cons pe_int (pa_cons (pe_op op_sub (pv 8) pe_int) pa_nil))) (pa_cons (pe_op op_add_str (pv 6) (pv 9)) pa_nil))) (pa_cons (pe_tup (pa_cons (pv 8) (pa_cons (pe_slice sl_str (pv 9) (po_some pe_int) po_none) pa_nil))) (pa_cons (pe_tup (pa_cons (pe_callB (call_min2 rfl) (by rfl) T.z_min (by decide +kernel) (pa_cons (pv 4) (pa_cons (pe_op op_add (pv 8) pe_int) pa_nil))) (pa_cons (pe_slice sl_str (pv 9) (po_some pe_int) po_none) pa_nil))) pa_nil)))))))) pss_nil)
      (pss_cons (ps_set (i := 10) sc__law_other.nd rfl (Or.inl rfl) (pe_ix ix_list (pv 7) (pe_call G__law_draw (hr.mono (by first | decide | omega)) rfl T.m__law_draw T.F__law_draw.kp T.b__law_draw .nil pass0 (pa_cons (pv 0) (pa_cons (pe_callB call_len_seq (by rfl) T.z_len (by decide +kernel) (pa_cons (pv 7) pa_nil)) pa_nil))) (fun _ _ => rfl)))
      (pss_cons (ps_if (PW.pt (pw_or (pt_cmpR op_isN (pv 10) pe_non (nomark _)) (pw_or1 (pt_cmpR op_le (pe_op op_add (pe_ix ix_tup (pv 10) pe_int (fun _ _ => rfl)) (pe_callB call_len_str (by rfl) T.z_len (by decide +kernel) (pa_cons (pe_ix ix_tup (pv 10) pe_int (fun _ _ => rfl)) pa_nil))) (pv 2) (nomark _))))) (pss_one (ps_asg (pv 10) (pg_sub (pv 3) (pv 4) set_list))) pss_nil)
      (pss_one (ps_ret (pv 3))))))))))), ?_⟩
    have hst : start ["_law_draws_here", "_law_rows_here", "_law_capacity", "_law_changed", "_law_at", "_law_row", "_law_letter_here", "_law_menu", "_law_kept", "_law_word", "_law_found"] [.ref p, .ref l, .int c] = [some (.ref p), some (.ref l), some (.int c), none, none, none, none, none, none, none, none] := rfl
    rw [hst]
    walk_at "rd"
    refine ⟨ws, .inl (SqL.of hl), fun L hL => ?_⟩
    have Lp : L ≠ p := fun e => by rw [e, hp] at hL; cases hL
    have hcc := ok.c2
    simp only [sp_draw]
    refine ⟨p, d, (c : Int) + 1, rfl, by rw [upd_ne (Ne.symm Lp)]; exact hp, hd, by omega, by omega, fun at0 d1 H1 a0 a1 hd1 hp1 k1 => ?_⟩
    obtain ⟨n, rfl⟩ := nat_of a0
    have hlen := ok.len
    have hn : n ≤ c := by omega
    have hl1 : H1 l = some (.lst ws) := k1 l _ lp (by rw [upd_ne (fun e => by rw [e, hL] at hl; cases hl)]; exact hl)
    have hL1 : H1 L = some (.lst ws) := k1 L _ Lp upd_same
    have B1 : But p H H1 := ((But.refl p H).new hL _).trans k1
    have rv1 : RowsV H1 ws rs := (hrv.mono (same_new hL _)).but k1 (by rw [upd_ne (Ne.symm Lp)]; exact hp)
    obtain ⟨r0, e0, _, o0⟩ := ok.at hn
    have hnw : n < ws.length := by rw [hrv.1, hlen]; omega
    have ew : ws[n]? = some ws[n] := List.getElem?_eq_getElem hnw
    have rr0 := rv1.2 n _ _ ew e0
    generalize ws[n] = w0 at ew rr0
    refine ⟨l, ws, _, w0, rfl, rfl, SqL.of hl1, atI_nat ew, d1, hp1, hd1, fun lc d2 H2 hlc hd2 hp2 k2 => ⟨by walk_at "sz", fun T1 hT1 => ⟨by walk_at "sz", fun T2 hT2 => ⟨by walk_at "sz", fun M hM => ?_⟩⟩⟩⟩
    have hL2 := k2 L _ Lp hL1
    have rv2 := rv1.but k2 hp1
    have rr2 := rr0.but k2 hp1
    have B2 := B1.trans k2
    have T1p : T1 ≠ p := fun e => by rw [e, hp2] at hT1; cases hT1
    have T1L : T1 ≠ L := fun e => by rw [e, hL2] at hT1; cases hT1
    have s3 := same_new hT1 (.tup [.int (n : Nat), .str (Str.ofString "")])
    have s4 := same_new hT2 (.tup [.int 0, .str (Str.ofString "")])
    have s5 := same_new hM (.lst [.non, .ref T1, .ref T2])
    have s345 := (s3.trans s4).trans s5
    have hT1b := (s4.trans s5) T1 _ upd_same
    have hT2b := s5 T2 _ upd_same
    have B5 : But p H _ := ((B2.new hT1 (.tup [.int (n : Nat), .str (Str.ofString "")])).new hT2 (.tup [.int 0, .str (Str.ofString "")])).new hM (.lst [.non, .ref T1, .ref T2])
    have rm0 : RowsV (upd (upd (upd H2 T1 (.tup [.int (n : Nat), .str (Str.ofString "")])) T2 (.tup [.int 0, .str (Str.ofString "")])) M (.lst [.non, .ref T1, .ref T2])) [.non, .ref T1, .ref T2] [none, some ((n : Int), Str.ofString ""), some ((0 : Int), Str.ofString "")] :=
      rowsV_cons rfl (rowsV_cons ⟨by decide, T1, rfl, hT1b⟩ (rowsV_cons ⟨by decide, T2, rfl, hT2b⟩ rowsV_nil))
    have gm0 : ∀ m ∈ [none, some ((n : Int), Str.ofString ""), some ((0 : Int), Str.ofString "")], menuOk m n := by
      intro m hm
      simp only [List.mem_cons, List.not_mem_nil, or_false] at hm
      rcases hm with rfl | rfl | rfl
      · exact fun k x e => by cases e
      · exact fun k x e => by cases e; exact ⟨by omega, by omega, lettersOnly_nil, by decide⟩
      · exact fun k x e => by cases e; exact ⟨by omega, by omega, lettersOnly_nil, by decide⟩
    have hp5 := s345 _ _ hp2
    have hL5 := s345 _ _ hL2
    have rv5 := rv2.mono s345
    have rr5 := rr2.mono s345
    have hM5 : upd (upd (upd H2 T1 (.tup [.int (n : Nat), .str (Str.ofString "")])) T2 (.tup [.int 0, .str (Str.ofString "")])) M (.lst [.non, .ref T1, .ref T2]) M = some (.lst [.non, .ref T1, .ref T2]) := upd_same
    clear rv1 rv2 rr0 rr2 hL1 hL2 hl1 k1 k2 B1 B2 s3 s4 s5 s345 hT1b hT2b hp1 hp2
    generalize hH5 : upd (upd (upd H2 T1 (.tup [.int (n : Nat), .str (Str.ofString "")])) T2 (.tup [.int 0, .str (Str.ofString "")])) M (.lst [.non, .ref T1, .ref T2]) = H5 at *
    have hlw : n < ws.length := by rw [hrv.1, hlen]; omega
    have fin : ∀ (H6 : Hp) (M' : Addr) (mws : List V) (ms : List Rw) (d3 : Int × Int) (v : Int), H6 p = some (dw d3) → okD d3 → H6 L = some (.lst ws) → H6 M' = some (.lst mws) → RowsV H6 mws ms → (∀ m ∈ ms, menuOk m n) → RowsV H6 ws rs → But p H H6 → 0 ≤ v → v < mws.length →
        rIxL K (.ref M') (.int v) H6 fun x H1 => if decide (x = V.non) = true then rSetL (.ref L) (.int (n : Nat)) x H1 fun H3 => Q (.ref L) H3 else
          rIxT K x (.int 0) H1 fun x1 H1 => rIxT K x (.int 1) H1 fun x2 H1 => ∃ z, x2 = V.str z ∧ z.length ≤ sizeLine ∧ ∃ i, x1 = V.int i ∧ if decide (i + (z.length : Int) ≤ (c : Int)) = true then rSetL (.ref L) (.int (n : Nat)) x H1 fun H3 => Q (.ref L) H3 else Q (.ref L) H1 := by
      intro H6 M' mws ms d3 v hp6 hd3 hL6 hM6 hm gm rv6 B6 v0 v1
      have hj : v.toNat < mws.length := by omega
      have hj2 : v.toNat < ms.length := by rw [← hm.1]; exact hj
      have e1 : mws[v.toNat]? = some mws[v.toNat] := List.getElem?_eq_getElem hj
      have e2 : ms[v.toNat]? = some ms[v.toNat] := List.getElem?_eq_getElem hj2
      have hr := hm.2 _ _ _ e1 e2
      have hg := gm _ (List.getElem_mem hj2)
      refine ix_at (SqL.of hM6) v0 e1 ?_
      generalize mws[v.toNat] = w1 at hr
      generalize ms[v.toNat] = r1 at hr hg
      have put : ∀ w r, RwAt H6 w r → okRw r n c = true → rSetL (.ref L) (.int (n : Nat)) w H6 fun H3 => Q (.ref L) H3 := fun w r h1 h2 => by
        refine set_at hL6 (by omega) (by omega) ?_
        rw [Int.toNat_natCast]
        exact q L _ _ d3 _ (ok.set h2) hd3 (by rw [upd_ne (Ne.symm Lp)]; exact hp6) (B6.mut hL _) hL Lp upd_same (rv6.set hL6 h1)
      cases r1 with
      | none =>
        have ew : w1 = .non := hr
        subst ew
        rw [decide_eq_true rfl, if_pos rfl]
        exact put _ none rfl rfl
      | some kx =>
        obtain ⟨k1, x1⟩ := kx
        obtain ⟨g1, g2, g3, g4⟩ := hg k1 x1 rfl
        obtain ⟨lx1, a1, rfl, ha1⟩ := id hr
        rw [decide_eq_false (by intro h; cases h), if_neg (by decide)]
        refine ⟨a1, _, 0, .int k1, rfl, rfl, SqT.of ha1, rfl, a1, _, 1, .str x1, rfl, rfl, SqT.of ha1, rfl, x1, rfl, sz_of (by omega), k1, rfl, ?_⟩
        by_cases hs : k1 + (x1.length : Int) ≤ (c : Int)
        · rw [decide_eq_true hs, if_pos rfl]
          exact put _ _ hr (okRw_mk g1 g2 g3 hs)
        · rw [decide_eq_false hs, if_neg (by decide)]
          exact q L ws rs d3 H6 ok hd3 hp6 B6 hL Lp hL6 rv6
    cases r0 with
    | none =>
      have ew0 : w0 = .non := rr5
      subst ew0
      rw [decide_eq_true rfl, Bool.not_true, if_neg (by decide)]
      refine ⟨_, .inl (SqL.of hM5), p, d2, _, rfl, hp5, hd2, by simp, by simp, fun v d3 H6 v0 v1 hd3 hp6 k6 => ?_⟩
      have Mp : M ≠ p := fun e => by rw [e, hp5] at hM5; cases hM5
      exact fin H6 M _ _ d3 v hp6 hd3 (k6 L _ Lp hL5) (k6 M _ Mp hM5) (rm0.but k6 hp5) gm0 (rv5.but k6 hp5) (B5.trans k6) v0 v1
    | some kx =>
      obtain ⟨k, x⟩ := kx
      obtain ⟨g1, g2, g3, g4⟩ := okRw_len o0 k x rfl
      obtain ⟨k, rfl⟩ := nat_of g1
      obtain ⟨lx, a0, rfl, ha0⟩ := rr5
      rw [decide_eq_false (by intro h; cases h), Bool.not_false, if_pos rfl]
      refine ⟨a0, rfl, _, SqT.of ha0, rfl, ?_⟩
      simp only [gCons, gNil]
      walk_at "rd"
      have hsg : (sg lc).length = 1 := rfl
      refine ⟨by rw [hsg]; exact sz_of (by omega), by walk_at "sz", fun P1 hP1 => ⟨x, rfl, sz_of (by omega), by walk_at "sz", fun P2 hP2 => ⟨x, rfl, sz_of (by omega), by walk_at "sz", fun P3 hP3 => ⟨by walk_at "sz", fun P4 hP4 => ?_⟩⟩⟩⟩
      have cutl := cutS_length x (some 1) none
      have lcut : lettersOnly (cutS x (some 1) none) = true := lo_cut g3
      have lsg : lettersOnly (sg lc ++ x) = true := lo_app (by rw [lo_tl, tl_sg]; simp [hlc]) g3
      have hk1 : (if (k : Int) - 1 > 0 then (k : Int) - 1 else 0) = ((k - 1 : Nat) : Int) := by split <;> omega
      have hk2 : (if (k : Int) + 1 < (n : Int) then (k : Int) + 1 else (n : Int)) = ((min (k + 1) n : Nat) : Int) := by split <;> omega
      simp only [hk1] at hP2 hP3 hP4 ⊢
      simp only [hk2] at hP4 ⊢
      have t1 := same_new hP1 (.tup [.int ((k - 1 : Nat) : Int), .str (sg lc ++ x)])
      have t2 := same_new hP2 (.tup [.int (k : Nat), .str (cutS x (some 1) none)])
      have t3 := same_new hP3 (.tup [.int ((min (k + 1) n : Nat) : Int), .str (cutS x (some 1) none)])
      have t4 := same_new hP4 (.lst [.ref P1, .ref P2, .ref P3])
      have a1 := ((t2.trans t3).trans t4) P1 _ upd_same
      have a2 := (t3.trans t4) P2 _ upd_same
      have a3 := t4 P3 _ upd_same
      have t14 := ((t1.trans t2).trans t3).trans t4
      have B9 : But p H _ := (((B5.new hP1 (.tup [.int ((k - 1 : Nat) : Int), .str (sg lc ++ x)])).new hP2 (.tup [.int (k : Nat), .str (cutS x (some 1) none)])).new hP3 (.tup [.int ((min (k + 1) n : Nat) : Int), .str (cutS x (some 1) none)])).new hP4 (.lst [.ref P1, .ref P2, .ref P3])
      have hp9 := t14 _ _ hp5
      have hL9 := t14 _ _ hL5
      have hM9 := t14 _ _ hM5
      have rm9 := rm0.mono t14
      have rv9 := rv5.mono t14
      have hP9 : (upd (upd (upd (upd H5 P1 (.tup [.int ((k - 1 : Nat) : Int), .str (sg lc ++ x)])) P2 (.tup [.int (k : Nat), .str (cutS x (some 1) none)])) P3 (.tup [.int ((min (k + 1) n : Nat) : Int), .str (cutS x (some 1) none)])) P4 (.lst [.ref P1, .ref P2, .ref P3])) P4 = some (.lst [.ref P1, .ref P2, .ref P3]) := upd_same
      generalize (upd (upd (upd (upd H5 P1 (.tup [.int ((k - 1 : Nat) : Int), .str (sg lc ++ x)])) P2 (.tup [.int (k : Nat), .str (cutS x (some 1) none)])) P3 (.tup [.int ((min (k + 1) n : Nat) : Int), .str (cutS x (some 1) none)])) P4 (.lst [.ref P1, .ref P2, .ref P3])) = H9 at *
      refine ⟨M, P4, _, _, rfl, rfl, hM9, hP9, by show 6 ≤ sizeLine; decide, fun P5 hP5 => ?_⟩
      have t5 := same_new hP5 (.lst ([V.non, .ref T1, .ref T2] ++ [.ref P1, .ref P2, .ref P3]))
      have hp10 := t5 _ _ hp9
      have P5p : P5 ≠ p := fun e => by rw [e, hp9] at hP5; cases hP5
      have rm1 : RowsV (upd H9 P5 (.lst ([V.non, .ref T1, .ref T2] ++ [.ref P1, .ref P2, .ref P3]))) [.non, .ref T1, .ref T2, .ref P1, .ref P2, .ref P3] [none, some ((n : Int), Str.ofString ""), some ((0 : Int), Str.ofString ""), some (((k - 1 : Nat) : Int), sg lc ++ x), some ((k : Int), cutS x (some 1) none), some (((min (k + 1) n : Nat) : Int), cutS x (some 1) none)] := by
        have rm10 := rm9.mono t5
        have q1 := rm10.2 0 _ _ rfl rfl
        have q2 := rm10.2 1 _ _ rfl rfl
        have q3 := rm10.2 2 _ _ rfl rfl
        have hxl : (sg lc ++ x).length ≤ 200 := by rw [len_app, hsg]; omega
        exact rowsV_cons q1 (rowsV_cons q2 (rowsV_cons q3 (rowsV_cons ⟨hxl, P1, rfl, t5 _ _ a1⟩ (rowsV_cons ⟨by omega, P2, rfl, t5 _ _ a2⟩ (rowsV_cons ⟨by omega, P3, rfl, t5 _ _ a3⟩ rowsV_nil)))))
      have gm1 : ∀ m ∈ [none, some ((n : Int), Str.ofString ""), some ((0 : Int), Str.ofString ""), some (((k - 1 : Nat) : Int), sg lc ++ x), some ((k : Int), cutS x (some 1) none), some (((min (k + 1) n : Nat) : Int), cutS x (some 1) none)], menuOk m n := by
        intro m hm
        simp only [List.mem_cons, List.not_mem_nil, or_false] at hm
        rcases hm with rfl | rfl | rfl | rfl | rfl | rfl
        · exact fun k x e => by cases e
        · exact fun k x e => by cases e; exact ⟨by omega, by omega, lettersOnly_nil, by decide⟩
        · exact fun k x e => by cases e; exact ⟨by omega, by omega, lettersOnly_nil, by decide⟩
        · exact fun k x e => by cases e; exact ⟨by omega, by omega, lsg, by rw [len_app, hsg]; omega⟩
        · exact fun k x e => by cases e; exact ⟨by omega, by omega, lcut, by omega⟩
        · exact fun k x e => by cases e; exact ⟨by omega, by omega, lcut, by omega⟩
      refine ⟨P5, rfl, _, .inl (SqL.of upd_same), p, d2, _, rfl, hp10, hd2, by simp, by simp, fun v d3 H6 v0 v1 hd3 hp6 k6 => ?_⟩
      exact fin H6 P5 _ _ d3 v hp6 hd3 (k6 L _ Lp (t5 _ _ hL9)) (k6 P5 _ P5p upd_same) (rm1.but k6 hp10) gm1 ((rv9.mono t5).but k6 hp10) ((B9.new hP5 _).trans k6) v0 v1

/-! ### errors of separating_queue -/
def sp_lsep (K : PySem.W.Frag) (C : Addr) : Sp := fun vs H Q _ => ∃ v1 v2 : V, vs = [v1, v2] ∧
  (((NoEff K C H v1 ∨ ∃ (x : Addr) (c : Nat) (r : List Rw), v1 = .ref x ∧ EffAt C H x c r ∧ NoEff K C H v2) ∧ ∀ l H1, Same H H1 → H1 l = some (.lst [.str "effect", .non]) → Q (.ref l) H1) ∨
  (∃ (x y : Addr) (c1 c2 : Nat) (r1 r2 : List Rw), v1 = .ref x ∧ v2 = .ref y ∧ EffAt C H x c1 r1 ∧ EffAt C H y c2 r2 ∧ c1 ≠ c2 ∧ ∀ l H1, Same H H1 → H1 l = some (.lst [.str "capacity", .int (c1 : Nat), .int (c2 : Nat)]) → Q (.ref l) H1))
theorem ok__law_error (T : Top K mg) : FnOk P w K mg base CX0 7 T.a__law_error T.d__law_error ["_law_one", "_law_other_here"] (sp_lsep K T.x_Effect) := by
  have G_separating_queue := ok_separating_queue (w := w) (base := base) T
  refine T.F__law_error.ok sc__law_error (fun vs H Q E h => ?_) (fun cdv A outer s H vs Q E hr h => ?_)
  · obtain ⟨v1, v2, rfl, _⟩ := h
    rfl
  · obtain ⟨v1, v2, rfl, h⟩ := h
    refine ⟨_, (pss_cons (ps_try_mix (tb := fun W => tDrop (tCallS (sp_sep K T.x_Effect T.x_InvalidEffect T.x_CapacityMismatch) (WE W) (tCons (tVar 0) (tCons (tVar 1) tNil)))) (l := [⟨.ref T.x_InvalidEffect, some 2, fun a cls d => tRet (tLst (tCons (tC (.str "effect")) (tCons (tBy1 "position" T.x_InvalidEffect a cls d (tVar 2)) tNil)))⟩, ⟨.ref T.x_CapacityMismatch, some 2, fun a cls d => tRet (tLst (tCons (tC (.str "capacity")) (tCons (tBy1 "first" T.x_CapacityMismatch a cls d (tVar 2)) (tCons (tBy1 "second" T.x_CapacityMismatch a cls d (tVar 2)) tNil))))⟩]) rfl rfl sc__law_error.nd (by simp) (fun W pn xe tk _ => by exact (pss_one (ps_expr (pe_callS G_separating_queue (hr.mono (by first | decide | omega)) rfl T.m_separating_queue T.F_separating_queue.kp T.b_separating_queue (fun σ => passAt tk σ) (pa_cons (pv 0) (pa_cons (pv 1) pa_nil)))))) (.named rfl rfl ⟨rfl, by decide, .inl T.E_InvalidEffect.g⟩ (fun a oe cls d pn hz hf => pss_one (ps_ret (by exact (pe_lst (pa_cons pe_str (pa_cons (pe_by1 T.E_InvalidEffect hz hf (pv 2)) pa_nil)))))) (.named rfl rfl ⟨rfl, by decide, .inl T.E_CapacityMismatch.g⟩ (fun a oe cls d pn hz hf => pss_one (ps_ret (by exact (pe_lst (pa_cons pe_str (pa_cons (pe_by1 T.E_CapacityMismatch hz hf (pv 2)) (pa_cons (pe_by1 (T.E_CapacityMismatch.second (p2 := "second") T.n2_CapacityMismatch) hz hf (pv 2)) pa_nil))))))) .nil)))
      (pss_one (ps_ret (pe_lst (pa_cons pe_str pa_nil))))), ?_⟩
    have hst : start ["_law_one", "_law_other_here", "e"] [v1, v2] = [some v1, some v2, none] := rfl
    rw [hst]
    walk_at "rd"
    simp only [tCallS, WE, sp_sep]
    walk_at "rd"
    rcases h with ⟨h, q⟩ | ⟨x, y, c1, c2, r1, r2, rfl, rfl, hx, hy, hne, q⟩
    · have A : ∀ d, H d = none → wMix K { nx := tRet (tLst (tCons (tC (V.str (Str.ofString "none"))) tNil)) { nx := fun x H' => Q V.non H', rt := Q }, rt := Q }
            [{ c := Value.ref T.x_InvalidEffect, i := some 2, ts := fun a cls d => tRet (tLst (tCons (tC (V.str (Str.ofString "effect"))) (tCons (tBy1 (Str.ofString "position") T.x_InvalidEffect a cls d (tVar 2)) tNil))) },
              { c := Value.ref T.x_CapacityMismatch, i := some 2, ts := fun a cls d => tRet (tLst (tCons (tC (V.str (Str.ofString "capacity"))) (tCons (tBy1 (Str.ofString "first") T.x_CapacityMismatch a cls d (tVar 2)) (tCons (tBy1 (Str.ofString "second") T.x_CapacityMismatch a cls d (tVar 2)) tNil)))) }]
            (Value.ref T.x_InvalidEffect) (some d) [some v1, some v2, none] (upd H d (HO.xd [(Str.ofString "position", V.non)])) := by
        intro d hd
        refine ⟨true, T.E_InvalidEffect.te, fun _ a _ => ?_, fun h => by cases h⟩
        simp only [Cls1.ends, Cls1.at]
        walk_at "rd"
        try unfold tBy1
        walk_at "rd"
        refine ⟨_, upd_same, .non, by rw [lk_cons, if_pos rfl], by walk_at "sz", fun p hp => q p _ ((same_new hd _).trans (same_new hp _)) upd_same⟩
      rcases h with h | ⟨x, c, r, rfl, hx, h⟩
      · exact .inl ⟨h, A⟩
      · exact .inr ⟨x, rfl, c, r, hx, .inl ⟨h, A⟩⟩
    · refine .inr ⟨x, rfl, c1, r1, hx, .inr ⟨y, rfl, c2, r2, hy, fun _ d hd => ?_, fun h => absurd h hne⟩⟩
      refine ⟨false, T.ne_CapacityMismatch_InvalidEffect, (fun h => by cases h), fun _ => ⟨true, T.E_CapacityMismatch.te, fun _ a _ => ?_, fun h => by cases h⟩⟩
      simp only [Cls1.ends, Cls1.at]
      walk_at "rd"
      try unfold tBy1
      walk_at "rd"
      refine ⟨_, upd_same, .int (c1 : Nat), by rw [lk_cons, if_pos rfl], _, upd_same, .int (c2 : Nat), by rw [lk_cons, if_neg (by decide +kernel), lk_cons, if_pos rfl], by walk_at "sz", fun p hp => q p _ ((same_new hd _).trans (same_new hp _)) upd_same⟩

/-- all but lists stand as they stood -/
def Keep (H H' : Hp) : Prop := ∀ b o, H b = some o → (∀ ns, o ≠ .lst ns) → H' b = some o
theorem Keep.but {p : Addr} {H H' : Hp} {ns : List V} (k : But p H H') (hp : H p = some (.lst ns)) : Keep H H' := fun b o e n => k b o (fun z => by rw [z, hp] at e; injection e with e; exact n ns e.symm) e
theorem Keep.upd {D : Addr} {H : Hp} {ns : List V} (hp : H D = some (.lst ns)) (o' : HO) : Keep H (upd H D o') := fun b o e n => by
  rw [upd_ne (fun z => by rw [z, hp] at e; injection e with e; exact n ns e.symm)]; exact e
theorem Keep.same {H H' : Hp} (s : Same H H') : Keep H H' := fun b o e _ => s b o e
theorem Keep.trans {H H1 H2 : Hp} (a : Keep H H1) (b : Keep H1 H2) : Keep H H2 := fun q o e n => b q o (a q o e n) n
theorem RwAt.keep {H H' : Hp} (k : Keep H H') {v : V} : ∀ {r : Rw}, RwAt H v r → RwAt H' v r
  | none, h => h
  | some (_, _), ⟨l, a, e, ha⟩ => ⟨l, a, e, k a _ ha (fun ns z => by cases z)⟩
theorem EffAt.keep {C : Addr} {H H' : Hp} (k : Keep H H') {x : Addr} {c : Nat} {rs : List Rw} (h : EffAt C H x c rs) : EffAt C H' x c rs := by
  obtain ⟨dx, t, e, ⟨ws, h1, h2, h3⟩, ok⟩ := h
  exact ⟨dx, t, k _ _ e (fun ns z => by cases z), ⟨ws, k _ _ h1 (fun ns z => by cases z), h2, fun i v r e1 e2 => (h3 i v r e1 e2).keep k⟩, ok⟩
theorem cut_pre {z : Str} {n : Nat} : tl (cutS z none (some (n : Int))) = (tl z).take n := by
  have hl : (tl z).length = z.length := tl_len z
  show (((tl z).drop (HT.sIx z.length 0 none)).take (HT.sIx z.length z.length (some (n : Int)) - HT.sIx z.length 0 none)).toArray.toList = _
  have e1 : HT.sIx z.length 0 none = 0 := rfl
  have e2 : HT.sIx z.length z.length (some (n : Int)) = min n z.length := by
    simp only [HT.sIx]
    rw [if_neg (by omega)]; omega
  rw [e1, e2]
  show ((tl z).drop 0).take (min n z.length - 0) = _
  rw [List.drop_zero, Nat.sub_zero, List.take_eq_take_iff]
  omega

theorem RowsV.upd {H : Hp} {D : Addr} {ns : List V} {o : HO} (h : H D = some (.lst ns)) {vs : List V} {rs : List Rw} (r : RowsV H vs rs) : RowsV (upd H D o) vs rs := ⟨r.1, fun i v r' h1 h2 => (r.2 i v r' h1 h2).upd h⟩
theorem rowsV_snoc {H : Hp} {v : V} {r : Rw} {vs : List V} {rs : List Rw} (t : RowsV H vs rs) (h : RwAt H v r) : RowsV H (vs ++ [v]) (rs ++ [r]) := ⟨by rw [List.length_append, List.length_append, t.1]; rfl, fun i v' r' h1 h2 => by
  by_cases hi : i < rs.length
  · rw [List.getElem?_append_left hi] at h2
    rw [List.getElem?_append_left (by rw [t.1]; exact hi)] at h1
    exact t.2 i v' r' h1 h2
  · have hi2 : i = rs.length := by
      have := (List.getElem?_eq_some_iff.mp h2).1
      simp at this
      omega
    subst hi2
    rw [List.getElem?_append_right (Nat.le_refl _)] at h2
    rw [List.getElem?_append_right (by rw [t.1]; exact Nat.le_refl _), t.1] at h1
    simp at h1 h2
    rw [← h1, ← h2]
    exact h⟩
theorem EffOk.snoc {c : Nat} {rs : List Rw} {r : Rw} (h : EffOk c rs) (hr : okRw r c c = true) : EffOk c (rs.take c ++ [r]) where
  c1 := h.c1
  c2 := h.c2
  len := by have := h.len; rw [List.length_append, List.length_take]; show min c rs.length + 1 = _; omega
  ok := fun i r' e => by
    have hl := h.len
    have htl : (rs.take c).length = c := by rw [List.length_take]; omega
    by_cases hi : i < c
    · rw [List.getElem?_append_left (by omega), List.getElem?_take, if_pos hi] at e
      exact h.ok i r' e
    · have hi2 : i = c := by
        have := (List.getElem?_eq_some_iff.mp e).1
        simp at this
        omega
      subst hi2
      rw [List.getElem?_append_right (by omega), htl, Nat.sub_self] at e
      have e : r = r' := by simpa using e
      rw [← e]; exact hr
theorem eq_rowsL {K : PySem.W.Frag} {H : Hp} {a b : Addr} {w1 w2 : List V} {r1 r2 : List Rw} {Q : VK} (h1 : H a = some (.lst w1)) (h2 : H b = some (.lst w2)) (v1 : RowsV H w1 r1) (v2 : RowsV H w2 r2) (l1 : ∀ r ∈ r1, rowLt r) (l2 : ∀ r ∈ r2, rowLt r) (q : Q (.bl (decide (r1 = r2))) H) : rEqD K (.ref a) (.ref b) H Q :=
  ⟨_, _, .lst (SqL.of h1) (dp_rows v1), .lst (SqL.of h2) (dp_rows v2), shaped_rowsL l1, shaped_rowsL l2, by rw [PyData.eqv, eqv_rows]; exact q⟩
theorem ne_rowsL {K : PySem.W.Frag} {H : Hp} {a b : Addr} {w1 w2 : List V} {r1 r2 : List Rw} {Q : VK} (h1 : H a = some (.lst w1)) (h2 : H b = some (.lst w2)) (v1 : RowsV H w1 r1) (v2 : RowsV H w2 r2) (l1 : ∀ r ∈ r1, rowLt r) (l2 : ∀ r ∈ r2, rowLt r) (q : Q (.bl (!decide (r1 = r2))) H) : rNeD K (.ref a) (.ref b) H Q :=
  ⟨_, _, .lst (SqL.of h1) (dp_rows v1), .lst (SqL.of h2) (dp_rows v2), shaped_rowsL l1, shaped_rowsL l2, by rw [PyData.eqv, eqv_rows]; exact q⟩
theorem resD_eq {K : PySem.W.Frag} {H : Hp} {r1 r2 : Rw} {z : Str} {Q : VK} {n1 n2 c1 c2 : Int} (h1 : okRw r1 n1 c1 = true) (h2 : okRw r2 n2 c2 = true) (lz : lettersOnly z = true) (q : Q (.bl (decide (resV r1 z = resV r2 z))) H) : rEqD K (resV r1 z) (resV r2 z) H Q := by
  obtain ⟨d, e, a, b, c, f, g⟩ := resD_ne (K := K) (H := H) (Q := fun v H' => v = .bl (!decide (resV r1 z = resV r2 z)) ∧ H' = H) h1 h2 lz ⟨rfl, rfl⟩
  refine ⟨d, e, a, b, c, f, ?_⟩
  have := g.1
  injection this with this
  have e2 : PyData.eqv d e = decide (resV r1 z = resV r2 z) := by
    cases h : PyData.eqv d e <;> cases h' : decide (resV r1 z = resV r2 z) <;> rw [h, h'] at this <;> first | rfl | cases this
  rw [e2]
  exact q
theorem RowsV.take {H : Hp} {vs : List V} {rs : List Rw} (t : RowsV H vs rs) (n : Nat) : RowsV H (vs.take n) (rs.take n) := ⟨by rw [List.length_take, List.length_take, t.1], fun i v r h1 h2 => by
  rw [List.getElem?_take] at h1 h2
  by_cases hi : i < n
  · rw [if_pos hi] at h1 h2; exact t.2 i v r h1 h2
  · rw [if_neg hi] at h1; cases h1⟩
theorem cutV_pre {xs : List V} {n : Nat} : cutV xs none (some (n : Int)) = xs.take n := by
  unfold cutV
  have e1 : HT.sIx xs.length 0 none = 0 := rfl
  have e2 : HT.sIx xs.length xs.length (some (n : Int)) = min n xs.length := by
    simp only [HT.sIx]
    rw [if_neg (by omega)]; omega
  rw [e1, e2, List.drop_zero, Nat.sub_zero, List.take_eq_take_iff]
  omega
/-! ### the law -/
def spLaw (K : PySem.W.Frag) : Sp := fun vs H Q _ => ∃ (a : Addr) (ns : List Int), vs = [.ref a] ∧ SqL K H a (ns.map V.int) ∧ ns.length ≤ 63 ∧ ∀ H', Q (.bl true) H'
theorem ok_law (T : Top K mg) : FnOk P w K mg base CX0 8 T.a_law T.d_law ["_law_script"] (spLaw K) := by
  have G_Effect_identity := ok_Effect_identity (w := w) (base := base) T
  have G__law_draws := ok__law_draws (w := w) (base := base) T
  have G__law_rows := ok__law_rows (w := w) (base := base) T
  have G_separating_queue := ok_separating_queue (w := w) (base := base) T
  have G_Effect_init := ok_Effect_init (w := w) (base := base) T
  have G__law_error := ok__law_error (w := w) (base := base) T
  have G__law_draw := ok__law_draw (w := w) (base := base) T
  have G__law_other := ok__law_other (w := w) (base := base) T
  have G__law_applied := ok__law_applied (w := w) (base := base) T
  refine T.F_law.ok sc_law (fun vs H Q E h => ?_) (fun cdv A outer s H vs Q E hr h => ?_)
  · obtain ⟨a, ns, rfl, _⟩ := h
    rfl
  · obtain ⟨a, ns, rfl, ha, hn, q⟩ := h
    refine ⟨_, (pss_cons (ps_for PassesOwn.never rfl (pi_list (pe_lst (pa_cons pe_int (pa_cons pe_int (pa_cons pe_int (pa_cons pe_int pa_nil)))))) (pg_name (i := 1) sc_law.nd rfl (Or.inl rfl)) (pss_cons (ps_setLc (i := 2) (own := [("_law_length", 13)]) (g := (gName 13)) (tt := tYes) (by rfl) sc_law.nd rfl rfl (sw_true rfl rfl rfl (by decide +kernel)) (pi_range1 (by rfl) T.z_range (pa_cons (pv 1) pa_nil)) (blkOk_by (own := [("_law_length", 13)]) (N := ["_law_script", "_law_most", "_law_rows_here", "_law_letter_here", "_law_other_here", "_law_found", "_law_same", "_law_k", "_law_draws_here", "_law_capacity", "_law_one", "_law_two", "_law_near", "_law_length"]) (sc := defScope s_law) (by decide +kernel)) (fun _ _ _ _ _ => pg_name (i := 13) sc_law.nd rfl (Or.inl rfl)) (fun _ _ _ _ _ => pts_nil) (fun _ _ _ _ _ => (pe_tup (pa_cons (pv 13) (pa_cons pe_str pa_nil)))))
      (pss_one (ps_for PassesOwn.never rfl (pi_str pe_str) (pg_name (i := 3) sc_law.nd rfl (Or.inl rfl)) (pss_cons (ps_set (i := 4) sc_law.nd rfl (Or.inl rfl) (pe_make T.mk_Effect G_Effect_init (hr.mono (by first | decide | omega)) (by rfl) T.g_Effect T.b_Effect_init .nil passN (pa_cons (pv 1) (pa_cons (pe_op op_cat (pv 2) (pe_lst (pa_cons (pe_tup (pa_cons (pe_op op_sub (pv 1) pe_int) (pa_cons (pv 3) pa_nil))) pa_nil))) pa_nil))))
      (pss_cons (ps_set (i := 5) sc_law.nd rfl (Or.inl rfl) (pe_call G_separating_queue (hr.mono (by first | decide | omega)) rfl T.m_separating_queue T.F_separating_queue.kp T.b_separating_queue .nil passN (pa_cons (ClX.pe_cmeth (pe_glob (v := .ref T.x_Effect) (by rfl) T.g_Effect rfl) T.rd_Effect T.cm_Effect_identity (FnOk.raw G_Effect_identity T.b_Effect_identity .nil) (hr.mono (by first | decide | omega)) passN (pa_cons (pv 1) pa_nil)) (pa_cons (pv 4) pa_nil))))
      (pss_one (ps_if (PW.pt (pw_or (pt_cmpR op_isN (pv 5) pe_non (nomark _)) (pw_or (pt_cmpR op_ne (pe_callB call_len_str (by rfl) T.z_len (by decide +kernel) (pa_cons (pv 5) pa_nil)) (pv 1) (nomark _)) (pw_or1 (pt_cmpR op_eq (pv 5) (pe_op op_rep_str (pv 3) (pv 1)) (nomark _)))))) (pss_one (ps_ret pe_bl)) pss_nil))))))))
      (pss_cons (ps_set (i := 6) sc_law.nd rfl (Or.inl rfl) (ClX.pe_cmeth (pe_glob (v := .ref T.x_Effect) (by rfl) T.g_Effect rfl) T.rd_Effect T.cm_Effect_identity (FnOk.raw G_Effect_identity T.b_Effect_identity .nil) (hr.mono (by first | decide | omega)) passN (pa_cons pe_int pa_nil)))
      (pss_cons (ps_if (pt_cmpR (op_neD hr.units) (pe_lst (pa_cons (pe_call G__law_error (hr.mono (by first | decide | omega)) rfl T.m__law_error T.F__law_error.kp T.b__law_error .nil pass0 (pa_cons pe_non (pa_cons (pv 6) pa_nil))) (pa_cons (pe_call G__law_error (hr.mono (by first | decide | omega)) rfl T.m__law_error T.F__law_error.kp T.b__law_error .nil pass0 (pa_cons (pv 6) (pa_cons pe_int pa_nil))) (pa_cons (pe_call G__law_error (hr.mono (by first | decide | omega)) rfl T.m__law_error T.F__law_error.kp T.b__law_error .nil pass0 (pa_cons pe_non (pa_cons pe_int pa_nil))) pa_nil)))) (pe_op op_rep (pe_lst (pa_cons (pe_lst (pa_cons pe_str (pa_cons pe_non pa_nil))) pa_nil)) pe_int) (nomark _)) (pss_one (ps_ret pe_bl)) pss_nil)
      (pss_cons (ps_for PassesOwn.never rfl (pi_range1 (by rfl) T.z_range (pa_cons (pe_callB (call_max2 rfl) (by rfl) T.z_max (by decide +kernel) (pa_cons pe_int (pa_cons (pe_callB call_len_seq (by rfl) T.z_len (by decide +kernel) (pa_cons (pv 0) pa_nil)) pa_nil))) pa_nil)) (pg_name (i := 7) sc_law.nd rfl (Or.inl rfl)) (pss_cons (ps_set (i := 8) sc_law.nd rfl (Or.inl rfl) (pe_call G__law_draws (hr.mono (by first | decide | omega)) rfl T.m__law_draws T.F__law_draws.kp T.b__law_draws .nil pass0 (pa_cons (pv 0) (pa_cons (pv 7) pa_nil))))
      (pss_cons (ps_set (i := 9) sc_law.nd rfl (Or.inl rfl) (pe_ix ix_list (pe_lst (pa_cons (pe_op op_add pe_int (pe_call G__law_draw (hr.mono (by first | decide | omega)) rfl T.m__law_draw T.F__law_draw.kp T.b__law_draw .nil pass0 (pa_cons (pv 8) (pa_cons pe_int pa_nil)))) (pa_cons (pe_op op_add pe_int (pe_call G__law_draw (hr.mono (by first | decide | omega)) rfl T.m__law_draw T.F__law_draw.kp T.b__law_draw .nil pass0 (pa_cons (pv 8) (pa_cons pe_int pa_nil)))) pa_nil))) (pe_callTy call_int1 (by rfl) T.z_int (by decide +kernel) (pa_cons (pe_cmpR op_eq (pe_call G__law_draw (hr.mono (by first | decide | omega)) rfl T.m__law_draw T.F__law_draw.kp T.b__law_draw .nil pass0 (pa_cons (pv 8) (pa_cons pe_int pa_nil))) pe_int (nomark _)) pa_nil)) (fun _ _ => rfl)))
      (pss_cons (ps_set (i := 2) sc_law.nd rfl (Or.inl rfl) (pe_call G__law_rows (hr.mono (by first | decide | omega)) rfl T.m__law_rows T.F__law_rows.kp T.b__law_rows .nil pass0 (pa_cons (pv 8) (pa_cons (pv 9) pa_nil))))
      (pss_cons (ps_set (i := 4) sc_law.nd rfl (Or.inl rfl) (pe_ix ix_list (pe_lst (pa_cons (pe_call G__law_other (hr.mono (by first | decide | omega)) rfl T.m__law_other T.F__law_other.kp T.b__law_other .nil pass0 (pa_cons (pv 8) (pa_cons (pv 2) (pa_cons (pv 9) pa_nil)))) (pa_cons (pe_call G__law_rows (hr.mono (by first | decide | omega)) rfl T.m__law_rows T.F__law_rows.kp T.b__law_rows .nil pass0 (pa_cons (pv 8) (pa_cons (pv 9) pa_nil))) (pa_cons (pv 2) pa_nil)))) (pe_call G__law_draw (hr.mono (by first | decide | omega)) rfl T.m__law_draw T.F__law_draw.kp T.b__law_draw .nil pass0 (pa_cons (pv 8) (pa_cons pe_int pa_nil))) (fun _ _ => rfl)))
      (pss_cons (ps_par (i := 10) (j := 11) (by rfl) sc_law.nd rfl rfl (by decide) rfl rfl (pa_cons (pe_make T.mk_Effect G_Effect_init (hr.mono (by first | decide | omega)) (by rfl) T.g_Effect T.b_Effect_init .nil passN (pa_cons (pv 9) (pa_cons (pv 2) pa_nil))) (pa_cons (pe_make T.mk_Effect G_Effect_init (hr.mono (by first | decide | omega)) (by rfl) T.g_Effect T.b_Effect_init .nil passN (pa_cons (pv 9) (pa_cons (pv 4) pa_nil))) pa_nil)) (by rfl))
      (pss_cons (ps_set (i := 5) sc_law.nd rfl (Or.inl rfl) (pe_call G_separating_queue (hr.mono (by first | decide | omega)) rfl T.m_separating_queue T.F_separating_queue.kp T.b_separating_queue .nil passN (pa_cons (pv 10) (pa_cons (pv 11) pa_nil))))
      (pss_cons (ps_if (pt_cmpR op_ne (pe_cmpR op_isN (pv 5) pe_non (nomark _)) (pe_cmpR (op_eqD hr.units) (pv 2) (pv 4) (nomark _)) (nomark _)) (pss_one (ps_ret pe_bl)) pss_nil)
      (pss_cons (ps_if (pt_cmpR op_notN (pv 5) pe_non (nomark _)) (pss_cons (ps_if (PW.pt (pw_or (pt_cmpR op_gt (pe_callB call_len_str (by rfl) T.z_len (by decide +kernel) (pa_cons (pv 5) pa_nil)) (pv 9) (nomark _)) (pw_or1 (pt_cmpR (op_eqD hr.units) (pe_call G__law_applied (hr.mono (by first | decide | omega)) rfl T.m__law_applied T.F__law_applied.kp T.b__law_applied .nil pass0 (pa_cons (pv 10) (pa_cons (pv 5) pa_nil))) (pe_call G__law_applied (hr.mono (by first | decide | omega)) rfl T.m__law_applied T.F__law_applied.kp T.b__law_applied .nil pass0 (pa_cons (pv 11) (pa_cons (pv 5) pa_nil))) (nomark _))))) (pss_one (ps_ret pe_bl)) pss_nil)
      (pss_one (ps_if (pt_cmpR (op_neD hr.units) (pe_slice sl_list (pv 2) po_none (po_some (pe_callB call_len_str (by rfl) T.z_len (by decide +kernel) (pa_cons (pv 5) pa_nil)))) (pe_slice sl_list (pv 4) po_none (po_some (pe_callB call_len_str (by rfl) T.z_len (by decide +kernel) (pa_cons (pv 5) pa_nil)))) (nomark _)) (pss_one (ps_ret pe_bl)) pss_nil))) pss_nil)
      (pss_cons (ps_set (i := 12) sc_law.nd rfl (Or.inl rfl) (pe_ix ix_list (pe_lst (pa_cons (pe_op op_add (pv 9) pe_int) (pa_cons pe_int pa_nil))) (pe_callTy call_int1 (by rfl) T.z_int (by decide +kernel) (pa_cons (pe_cmpR op_eq (pv 9) pe_int (nomark _)) pa_nil)) (fun _ _ => rfl)))
      (pss_one (ps_if (pt_cmpR (op_neD hr.units) (pe_call G__law_error (hr.mono (by first | decide | omega)) rfl T.m__law_error T.F__law_error.kp T.b__law_error .nil pass0 (pa_cons (pv 10) (pa_cons (ClX.pe_cmeth (pe_glob (v := .ref T.x_Effect) (by rfl) T.g_Effect rfl) T.rd_Effect T.cm_Effect_identity (FnOk.raw G_Effect_identity T.b_Effect_identity .nil) (hr.mono (by first | decide | omega)) passN (pa_cons (pv 12) pa_nil)) pa_nil))) (pe_lst (pa_cons pe_str (pa_cons (pv 9) (pa_cons (pv 12) pa_nil)))) (nomark _)) (pss_one (ps_ret pe_bl)) pss_nil))))))))))))
      (pss_one (ps_ret pe_bl)))))), ?_⟩
    have hst : start ["_law_script", "_law_most", "_law_rows_here", "_law_letter_here", "_law_other_here", "_law_found", "_law_same", "_law_k", "_law_draws_here", "_law_capacity", "_law_one", "_law_two", "_law_near", "_law_length"] [.ref a] = [some (.ref a), none, none, none, none, none, none, none, none, none, none, none, none, none] := rfl
    rw [hst]
    walk_at "rd"
    have eoth : ∀ {m : Nat} {H1 : Hp} {Q' : VK}, 1 ≤ m → m ≤ 100 → (∀ x H2, Same H1 H2 → H1 x = none → EffAt T.x_Effect H2 x m (idRows m) → Q' (.ref x) H2) → sp_ecm K T.x_Effect T.x_InvalidCapacity idRows [.ref T.x_Effect, .int (m : Nat)] H1 Q' E0 := fun {m H1 Q'} h1 h2 k => by
      refine ⟨_, rfl, .int _, fun h => ?_, fun n e _ _ x H2 s hx hE => ?_⟩
      · simp only [isCapV, Bool.and_eq_false_iff, decide_eq_false_iff_not] at h
        omega
      · have e2 : n = m := by injection e with e; omega
        subst e2
        exact k x H2 s hx hE
    refine forL fun R1 kR1 => ?_
    walk_at "rd"
    refine ⟨by walk_at "sz", fun L0 hL0 => ?_⟩
    refine kR1 L0 [.int 9, .int 12, .int 50, .int 100] (fun i σ H' => Same H H' ∧ H' L0 = some (.lst [.int 9, .int 12, .int 50, .int 100]) ∧ ∃ x1 x2 x3 x4 x5 x6 x7 x8 x9 x10 x11 x12 x13 : Option V, σ = [some (.ref a), x1, x2, x3, x4, x5, x6, x7, x8, x9, x10, x11, x12, x13])
      _ (SqL.of upd_same) ⟨same_new hL0 _, upd_same, _, _, _, _, _, _, _, _, _, _, _, _, _, rfl⟩ (fun i σ H' _ h => SqL.of h.2.1) ?_ ?_
    · rintro i w1 σ H1 hw ⟨s1, hLL, x1, x2, x3, x4, x5, x6, x7, x8, x9, x10, x11, x12, x13, rfl⟩
      obtain ⟨m, rfl, hm1, hm2⟩ : ∃ m : Nat, w1 = .int (m : Nat) ∧ 1 ≤ m ∧ m ≤ 100 := by
        have hm := List.mem_of_getElem? hw
        simp only [List.mem_cons, List.not_mem_nil, or_false] at hm
        rcases hm with rfl | rfl | rfl | rfl
        · exact ⟨9, rfl, by decide, by decide⟩
        · exact ⟨12, rfl, by decide, by decide⟩
        · exact ⟨50, rfl, by decide, by decide⟩
        · exact ⟨100, rfl, by decide, by decide⟩
      walk_at "rd"
      refine lcR fun R2 kR2 => ?_
      walk_at "rd"
      refine kR2 (m : Nat) H1 (by omega) (by omega) fun D hD => ?_
      have hDH : H D = none := s1.free hD
      refine ⟨fun i H' => i ≤ m ∧ Same H1 H' ∧ ∃ ws, H' D = some (.lst ws) ∧ RowsV H' ws ((idRows m).take i), ⟨Nat.zero_le _, same_new hD _, [], upd_same, by rw [List.take_zero]; exact rowsV_nil⟩, ?_, ?_⟩
      · rintro j H2 hj ⟨_, s2, ws, hD2, rv2⟩
        walk_at "wp"
        walk_at "rd"
        refine ⟨by walk_at "sz", fun T1 hT1 => ?_⟩
        have s3 := same_new hT1 (.tup [.int (0 + (j : Int)), .str (Str.ofString "")])
        have hD3 := s3 _ _ hD2
        have hwl : ws.length = j := by rw [rv2.1, List.length_take]; unfold idRows; simp; omega
        refine ⟨ws, hD3, by rw [hwl]; exact Nat.lt_of_le_of_lt (by omega : j ≤ 100000) (by decide), by omega, same_mut (s2.trans s3) hD, _, upd_same, ?_⟩
        have e : (idRows m).take (j + 1) = (idRows m).take j ++ [some ((j : Int), Str.ofString "")] := by
          rw [List.take_add_one, idRows_at (by omega)]; rfl
        rw [e]
        exact rowsV_snoc ((rv2.mono s3).upd hD3) (RwAt.upd (r := some _) hD3 ⟨by decide, T1, rfl, by rw [upd_same, Int.zero_add]⟩)
      · rintro H2 ⟨_, s2, ws, hD2, rv2⟩
        rw [show ((m : Int)).toNat = m by omega] at rv2
        have s12 := s1.trans s2
        have hLL2 := s2 _ _ hLL
        clear kR2
        refine forS fun R3 kR3 => ?_
        walk_at "rd"
        have tab : tl (Str.ofString "ab") = [97, 98] := by decide +kernel
        refine kR3 (Str.ofString "ab") (fun i σ H' => Same H H' ∧ H' L0 = some (.lst [.int 9, .int 12, .int 50, .int 100]) ∧ H' D = some (.lst ws) ∧ RowsV H' ws ((idRows m).take m) ∧ ∃ x3 x4 x5 x6 x7 x8 x9 x10 x11 x12 x13 : Option V, σ = [some (.ref a), some (.int (m : Nat)), some (.ref D), x3, x4, x5, x6, x7, x8, x9, x10, x11, x12, x13])
          H2 ⟨s12, hLL2, hD2, rv2, _, _, _, _, _, _, _, _, _, _, _, rfl⟩ ?_ ?_
        · clear hLL2 s12 rv2 hD2 s2 hLL s1 hD
          clear hDH
          rintro i2 cc σ H3 hcc ⟨s3, hLL3, hD3, rv3, y3, y4, y5, y6, y7, y8, y9, y10, y11, y12, y13, rfl⟩
          have hc97 : cc = 97 ∨ cc = 98 := by
            rw [tab] at hcc
            have := List.mem_of_getElem? hcc
            simpa using this
          walk_at "rd"
          refine ⟨by walk_at "sz", fun T1 hT1 => ⟨by walk_at "sz", fun L1 hL1 => ?_⟩⟩
          have t1 := same_new hT1 (.tup [.int ((m : Int) - 1), .str ⟨#[cc]⟩])
          have t2 := same_new hL1 (.lst [.ref T1])
          have aT1 := t2 T1 _ upd_same
          have aL1 : upd (upd H3 T1 (.tup [.int ((m : Int) - 1), .str ⟨#[cc]⟩])) L1 (.lst [.ref T1]) L1 = some (.lst [.ref T1]) := upd_same
          have aD := (t1.trans t2) _ _ hD3
          have aLL := (t1.trans t2) _ _ hLL3
          have aS := (s3.trans t1).trans t2
          have aR := (rv3.mono t1).mono t2
          generalize upd (upd H3 T1 (.tup [.int ((m : Int) - 1), .str ⟨#[cc]⟩])) L1 (.lst [.ref T1]) = H4 at *
          have hwl : ws.length = m := by rw [rv3.1, List.length_take]; unfold idRows; simp
          refine ⟨D, L1, _, _, rfl, rfl, aD, aL1, by rw [hwl]; exact sz_of (by show m + 1 ≤ 100000; omega), fun D2 hD2 => ?_⟩
          have t3 := same_new hD2 (.lst (ws ++ [.ref T1]))
          have hX : okRw (some (((m - 1 : Nat) : Int), sg cc)) m m = true := okRw_mk (by omega) (by omega) (by rw [lo_tl, tl_sg]; rcases hc97 with rfl | rfl <;> decide) (by show ((m - 1 : Nat) : Int) + ((1 : Nat) : Int) ≤ m; omega)
          have oi := idRows_ok hm1 hm2
          have ox := oi.snoc hX
          have aX : RwAt (upd H4 D2 (.lst (ws ++ [.ref T1]))) (.ref T1) (some (((m - 1 : Nat) : Int), sg cc)) := ⟨by show 1 ≤ 200; decide, T1, rfl, by rw [show ((m - 1 : Nat) : Int) = (m : Int) - 1 by omega]; exact t3 _ _ aT1⟩
          refine mke (b := true) ox upd_same (rowsV_snoc (aR.mono t3) aX) fun y H5 s5 hy EO => ?_
          refine eoth hm1 hm2 fun x H6 s6 hx EI => ?_
          have EO := EO.mono s6
          have st : Same H H6 ∧ H6 L0 = some (.lst [.int 9, .int 12, .int 50, .int 100]) ∧ H6 D = some (.lst ws) ∧ RowsV H6 ws ((idRows m).take m) := ⟨((aS.trans t3).trans s5).trans s6, s6 _ _ (s5 _ _ (t3 _ _ aLL)), s6 _ _ (s5 _ _ (t3 _ _ aD)), ((aR.mono t3).mono s5).mono s6⟩
          clear aS aR aLL aD aL1 aT1 t1 t2 t3 s5 s6 aX hx hy hD2
          have htl : ((idRows m).take m).length = m := by rw [List.length_take]; unfold idRows; simp
          have hXm : ((idRows m).take m ++ [some (((m - 1 : Nat) : Int), sg cc)])[m]? = some (some (((m - 1 : Nat) : Int), sg cc)) := by
            rw [List.getElem?_append_right (by omega), htl, Nat.sub_self]; rfl
          refine ⟨.ref x, .ref y, rfl, .inr ⟨x, m, idRows m, rfl, EI, .inr ⟨y, m, _, rfl, EO, fun h => absurd rfl h, fun _ => ⟨fun he => ?_, fun n d r1 r2 hn h1 h2 hall hd hne => ?_⟩⟩⟩⟩
          · rw [← he, idRows_at (Nat.le_refl m)] at hXm
            injection hXm with h
            injection h with h
            injection h with h _
            omega
          · have hnm : n = m := by
              by_cases h : n < m
              · rw [List.getElem?_append_left (by omega), List.getElem?_take, if_pos h, h1] at h2
                injection h2 with h2
                rw [h2] at hne
                exact absurd rfl hne
              · omega
            subst hnm
            rw [idRows_at (Nat.le_refl n)] at h1
            rw [hXm] at h2
            cases h1
            cases h2
            have hdc : d ≠ cc := fun h => hne (by
              subst h
              simp only [resV, V.str.injEq]
              refine tl_inj ?_
              rw [tl_end_app, tl_end_app, tl_empty, tl_sg, tl_ones, List.append_nil, List.length_replicate, List.drop_replicate, List.drop_replicate, show n - (n - n) = n by omega, show n - (n - (n - 1)) = n - 1 by omega]
              rw [← List.replicate_succ', show n - 1 + 1 = n by omega])
            dsimp only
            rw [decide_eq_false (by intro h; cases h), if_neg (by decide)]
            refine ⟨_, rfl, by rw [len_ones]; exact sz_of (by omega), ?_⟩
            rw [len_ones, decide_eq_true rfl, Bool.not_true, if_neg (by decide)]
            refine ⟨sg cc, n, rfl, rfl, by omega, by omega, by show 1 * ((n : Int)).toNat ≤ _; omega, ?_⟩
            rw [Int.toNat_natCast, srep_ones (tl_sg cc)]
            refine ⟨rfl, ?_⟩
            rw [decide_eq_false (fun h => hdc (by
              injection h with h
              have := congrArg tl h
              rw [tl_ones, tl_ones] at this
              have h0 := congrArg (fun l => l[0]?) this
              simp only [List.getElem?_replicate] at h0
              rw [if_pos (by omega), if_pos (by omega)] at h0
              injection h0)), if_neg (by decide)]
            exact ⟨st.1, st.2.1, st.2.2.1, st.2.2.2, ⟨_, rfl⟩, ⟨_, rfl⟩, ⟨_, rfl⟩, ⟨_, rfl⟩, ⟨_, rfl⟩, ⟨_, rfl⟩, ⟨_, rfl⟩, ⟨_, rfl⟩, ⟨_, rfl⟩, ⟨_, rfl⟩, ⟨_, rfl⟩⟩
        · rintro σ H3 ⟨s3, hLL3, hD3, rv3, y3, y4, y5, y6, y7, y8, y9, y10, y11, y12, y13, rfl⟩
          exact ⟨s3, hLL3, _, _, _, _, _, _, _, _, _, _, _, _, _, rfl⟩
    · rintro σ H1 ⟨s1, _, x1, x2, x3, x4, x5, x6, x7, x8, x9, x10, x11, x12, x13, rfl⟩
      walk_at "rd"
      have nN : ∀ {H' : Hp}, NoEff K T.x_Effect H' .non := ⟨.type "NoneType", .base .non, kit_not T.cs_Effect T.cy_Effect T.su_Effect_NoneType⟩
      have n5 : ∀ {H' : Hp}, NoEff K T.x_Effect H' (.int 5) := ⟨.type "int", .base (.int 5), kit_not T.cs_Effect T.cy_Effect T.su_Effect_int⟩
      refine eoth (m := 2) (by decide) (by decide) fun xs H2 s2 _ ES => ?_
      refine ⟨.non, .ref xs, rfl, .inl ⟨.inl nN, fun l1 H3 s3 e1 => ?_⟩⟩
      refine ⟨.ref xs, .int 5, rfl, .inl ⟨.inr ⟨xs, 2, idRows 2, rfl, ES.mono s3, n5⟩, fun l2 H4 s4 e2 => ?_⟩⟩
      refine ⟨.non, .int 5, rfl, .inl ⟨.inl nN, fun l3 H5 s5 e3 => ?_⟩⟩
      refine ⟨by walk_at "sz", fun P1 hP1 => ⟨by walk_at "sz", fun P2 hP2 => ⟨by walk_at "sz", fun P3 hP3 => ?_⟩⟩⟩
      refine ⟨P3, 3, _, rfl, rfl, upd_same, by decide, by decide, by show 1 * 3 ≤ sizeLine; decide, fun P4 hP4 => ?_⟩
      have t1 := same_new hP1 (.lst [.ref l1, .ref l2, .ref l3])
      have t2 := same_new hP2 (.lst [.str "effect", .non])
      have t3 := same_new hP3 (.lst [.ref P2])
      have t4 := same_new hP4 (.lst (List.replicate ((3 : Int)).toNat [V.ref P2]).flatten)
      have aP1 := ((t2.trans t3).trans t4) P1 _ upd_same
      have aP2 := (t3.trans t4) P2 _ upd_same
      have t14 := ((t1.trans t2).trans t3).trans t4
      have b1 := t14 _ _ (s5 _ _ (s4 _ _ e1))
      have b2 := t14 _ _ (s5 _ _ e2)
      have b3 := t14 _ _ e3
      have eff : ∀ {H' : Hp} {z : Addr}, H' z = some (.lst [.str "effect", .non]) → Dp K H' (.ref z) (.list [.str "effect", .none]) := fun h => .lst (SqL.of h) (.cons (.str _) (.cons .non .nil))
      refine ⟨.list [.list [.str "effect", .none], .list [.str "effect", .none], .list [.str "effect", .none]], .list [.list [.str "effect", .none], .list [.str "effect", .none], .list [.str "effect", .none]],
        .lst (SqL.of aP1) (.cons (eff b1) (.cons (eff b2) (.cons (eff b3) .nil))), .lst (SqL.of upd_same) (.cons (eff aP2) (.cons (eff aP2) (.cons (eff aP2) .nil))), by decide +kernel, by decide +kernel, false, by rw [show PyData.eqv (.list [.list [.str "effect", .none], .list [.str "effect", .none], .list [.str "effect", .none]]) (.list [.list [.str "effect", .none], .list [.str "effect", .none], .list [.str "effect", .none]]) = true by decide +kernel]; rfl, ?_⟩
      rw [if_neg (by decide)]
      have s6 := ((((s1.trans s2).trans s3).trans s4).trans s5).trans t14
      clear aP1 aP2 b1 b2 b3 t1 t2 t3 t4 t14 e1 e2 e3 s2 s3 s4 s5
      refine forR fun R4 kR4 => ?_
      walk_at "rd"
      refine ⟨_, .inl (s6.seq ha), ?_⟩
      rw [List.length_map]
      refine kR4 _ (fun i σ H' => Same H H' ∧ ∃ x1 x2 x3 x4 x5 x6 x7 x8 x9 x10 x11 x12 x13 : Option V, σ = [some (.ref a), x1, x2, x3, x4, x5, x6, x7, x8, x9, x10, x11, x12, x13]) _ (by split <;> omega) (by split <;> omega) ⟨s6, _, _, _, _, _, _, _, _, _, _, _, _, _, rfl⟩ ?_ ?_
      · clear s6 s1 hP1 hP2 hP3 hP4 ES
        rintro i σ H2 hi ⟨s6, x1, x2, x3, x4, x5, x6, x7, x8, x9, x10, x11, x12, x13, rfl⟩
        have hi40 : i < 64 := by
          revert hi
          split <;> omega
        clear hi
        walk_at "rd"
        simp only [sp_draws]
        refine ⟨a, ns, 0 + (i : Int), rfl, s6.seq ha, hn, by omega, by omega, fun p d H3 s7 hp7 hd hp8 => ?_⟩
        walk_at "rd"
        simp only [sp_draw]
        have hpn : H p = none := s6.free hp7
        refine ⟨p, d, 7, rfl, hp8, hd, by decide, by decide, fun v1 d1 H4 a1 b1 hd1 hp9 k1 => ⟨_, rfl, p, d1, 100, rfl, hp9, hd1, by decide, by decide, fun v2 d2 H5 a2 b2 hd2 hp10 k2 => ⟨_, rfl, by walk_at "sz", fun L1 hL1 => ?_⟩⟩⟩
        have L1p : L1 ≠ p := fun e => by rw [e, hp10] at hL1; cases hL1
        have s8 : Same H H5 := same_but (same_but (s6.trans s7) hpn k1) hpn k2
        refine ⟨p, d2, 6, rfl, by rw [upd_ne (Ne.symm L1p)]; exact hp10, hd2, by decide, by decide, fun v3 d3 H6 a3 b3 hd3 hp11 k3 => ?_⟩
        have s9 : Same H H6 := same_but (s8.trans (same_new hL1 _)) hpn k3
        have hL6 := k3 L1 _ L1p upd_same
        clear k1 k2 k3 s8 s7 s6 hp7 hp8 hp9 hp10 hL1
        have pick : ∀ {R : V → Hp → Prop}, (∀ c : Nat, 1 ≤ c → c ≤ 100 → R (.int (c : Nat)) H6) → rIxL K (.ref L1) (.int (if decide (V.int v3 = V.int 0) = true then 1 else 0)) H6 R := fun {R} k => by
          by_cases h : v3 = 0
          · rw [decide_eq_true (by rw [h]), if_pos rfl]
            refine ix_at (SqL.of hL6) (by decide) rfl ?_
            have := k (1 + v2).toNat (by omega) (by omega)
            rw [Int.toNat_of_nonneg (by omega)] at this
            exact this
          · rw [decide_eq_false (fun e => h (by injection e)), if_neg (by decide)]
            refine ix_at (SqL.of hL6) (by decide) rfl ?_
            have := k (1 + v1).toNat (by omega) (by omega)
            rw [Int.toNat_of_nonneg (by omega)] at this
            exact this
        refine ⟨trivial, pick fun c hc1 hc2 => ?_⟩
        clear pick hL6 L1p
        refine ⟨p, d3, c, rfl, hp11, hd3, hc1, hc2, fun l1 ws1 rs1 d4 H7 ok1 hd4 hp12 k4 hl1 l1p hll1 rv1 => ?_⟩
        refine ⟨p, l1, d4, c, ws1, rs1, rfl, hp12, hd4, ok1, hll1, l1p, rv1, fun l2 ws2 rs2 d5 H8 ok2 hd5 hp13 k5 hl2 l2p hll2 rv2 => ?_⟩
        refine ⟨p, d5, c, rfl, hp13, hd5, hc1, hc2, fun l3 ws3 rs3 d6 H9 ok3 hd6 hp14 k6 hl3 l3p hll3 rv3 => ⟨by walk_at "sz", fun P1 hP1 => ?_⟩⟩
        have P1p : P1 ≠ p := fun e => by rw [e, hp14] at hP1; cases hP1
        have t1 := same_new hP1 (.lst [.ref l2, .ref l3, .ref l1])
        refine ⟨p, d6, 3, rfl, t1 _ _ hp14, hd6, by decide, by decide, fun v4 d7 H10 a4 b4 hd7 hp15 k7 => ?_⟩
        have hp14' := t1 _ _ hp14
        have f1 : H10 l1 = some (.lst ws1) ∧ RowsV H10 ws1 rs1 := ⟨k7 _ _ l1p (t1 _ _ (k6 _ _ l1p (k5 _ _ l1p hll1))), (((rv1.but k5 hp12).but k6 hp13).mono t1).but k7 hp14'⟩
        have f2 : H10 l2 = some (.lst ws2) ∧ RowsV H10 ws2 rs2 := ⟨k7 _ _ l2p (t1 _ _ (k6 _ _ l2p hll2)), ((rv2.but k6 hp13).mono t1).but k7 hp14'⟩
        have f3 : H10 l3 = some (.lst ws3) ∧ RowsV H10 ws3 rs3 := ⟨k7 _ _ l3p (t1 _ _ hll3), (rv3.mono t1).but k7 hp14'⟩
        have hP10 := k7 P1 _ P1p upd_same
        have s10 : Same H H10 := same_but ((same_but (same_but (same_but s9 hpn k4) hpn k5) hpn k6).trans t1) hpn k7
        have pick2 : ∀ {R : V → Hp → Prop}, (∀ l4 ws4 rs4, H10 l4 = some (.lst ws4) → RowsV H10 ws4 rs4 → EffOk c rs4 → R (.ref l4) H10) → rIxL K (.ref P1) (.int v4) H10 R := fun {R} k => by
          have hc3 : v4 = 0 ∨ v4 = 1 ∨ v4 = 2 := by omega
          rcases hc3 with rfl | rfl | rfl
          · exact ix_at (SqL.of hP10) (by decide) rfl (k l2 ws2 rs2 f2.1 f2.2 ok2)
          · exact ix_at (SqL.of hP10) (by decide) rfl (k l3 ws3 rs3 f3.1 f3.2 ok3)
          · exact ix_at (SqL.of hP10) (by decide) rfl (k l1 ws1 rs1 f1.1 f1.2 ok1)
        refine pick2 fun l4 ws4 rs4 g4 rv4 ok4 => ?_
        clear pick2 f2 f3 hP10 t1 hP1 rv1 rv2 rv3 hll1 hll2 hll3 k4 k5 k6 k7 s9 hp11 hp12 hp13 hp14 hp14' hl1 hl2 hl3
        refine mke (b := true) ok1 f1.1 f1.2 fun y1 H11 s11 _ E1 => ?_
        refine mke (b := true) ok4 (s11 _ _ g4) (rv4.mono s11) fun y2 H12 s12 _ E2 => ?_
        have st : Same H H12 ∧ H12 l1 = some (.lst ws1) ∧ RowsV H12 ws1 rs1 ∧ H12 l4 = some (.lst ws4) ∧ RowsV H12 ws4 rs4 ∧ EffAt T.x_Effect H12 y1 c rs1 ∧ EffAt T.x_Effect H12 y2 c rs4 :=
          ⟨(s10.trans s11).trans s12, s12 _ _ (s11 _ _ f1.1), (f1.2.mono s11).mono s12, s12 _ _ (s11 _ _ g4), (rv4.mono s11).mono s12, E1.mono s12, E2⟩
        have mono : ∀ {Ha Hb : Hp}, Same Ha Hb → (Same H Ha ∧ Ha l1 = some (.lst ws1) ∧ RowsV Ha ws1 rs1 ∧ Ha l4 = some (.lst ws4) ∧ RowsV Ha ws4 rs4 ∧ EffAt T.x_Effect Ha y1 c rs1 ∧ EffAt T.x_Effect Ha y2 c rs4) → (Same H Hb ∧ Hb l1 = some (.lst ws1) ∧ RowsV Hb ws1 rs1 ∧ Hb l4 = some (.lst ws4) ∧ RowsV Hb ws4 rs4 ∧ EffAt T.x_Effect Hb y1 c rs1 ∧ EffAt T.x_Effect Hb y2 c rs4) :=
          fun s h => ⟨h.1.trans s, s _ _ h.2.1, h.2.2.1.mono s, s _ _ h.2.2.2.1, h.2.2.2.2.1.mono s, h.2.2.2.2.2.1.mono s, h.2.2.2.2.2.2.mono s⟩
        clear f1 g4 rv4 s10 s11 s12 E1 E2 hp15 P1p
        have near : ∀ (Hn : Hp) (P2 : Addr) (G : V → Hp → Prop), EffAt T.x_Effect Hn y1 c rs1 → Hn P2 = none → (∀ x H', Same Hn H' → G x H') → rIxL K (.ref P2) (.int (if decide (V.int (c : Nat) = V.int 100) = true then 1 else 0)) (upd Hn P2 (.lst [.int ((c : Int) + 1), .int 99])) (fun x H1 =>
            sp_ecm K T.x_Effect T.x_InvalidCapacity idRows [.ref T.x_Effect, x] H1 (fun x1 H1 => sp_lsep K T.x_Effect [.ref y1, x1] H1 (fun x2 H1 => [V.str (Str.ofString "capacity"), V.int (c : Nat), x].length ≤ sizeLine ∧ ∀ p1, H1 p1 = none →
              rNeD K x2 (.ref p1) (upd H1 p1 (.lst [.str (Str.ofString "capacity"), .int (c : Nat), x])) fun x3 H' => ∃ k, x3 = .bl k ∧ if k = true then Q (.bl false) H' else G x H') E0) E0) := by
          intro Hn P2 G hE hP2 hG
          have sn := same_new hP2 (.lst [.int ((c : Int) + 1), .int 99])
          have fin : ∀ m : Nat, 1 ≤ m → m ≤ 100 → c ≠ m → sp_ecm K T.x_Effect T.x_InvalidCapacity idRows [.ref T.x_Effect, .int (m : Nat)] (upd Hn P2 (.lst [.int ((c : Int) + 1), .int 99])) (fun x1 H1 => sp_lsep K T.x_Effect [.ref y1, x1] H1 (fun x2 H1 => [V.str (Str.ofString "capacity"), V.int (c : Nat), V.int (m : Nat)].length ≤ sizeLine ∧ ∀ p1, H1 p1 = none →
              rNeD K x2 (.ref p1) (upd H1 p1 (.lst [.str (Str.ofString "capacity"), .int (c : Nat), .int (m : Nat)])) fun x3 H' => ∃ k, x3 = .bl k ∧ if k = true then Q (.bl false) H' else G (.int (m : Nat)) H') E0) E0 := by
            intro m hm1 hm2 hcm
            refine eoth hm1 hm2 fun xn H2 s2 _ EN => ?_
            refine ⟨.ref y1, .ref xn, rfl, .inr ⟨y1, xn, c, m, rs1, _, rfl, rfl, (hE.mono sn).mono s2, EN, hcm, fun l5 H3 s3 e3 => ⟨by walk_at "sz", fun p1 hp1 => ?_⟩⟩⟩
            have s4 := same_new hp1 (.lst [.str (Str.ofString "capacity"), .int (c : Nat), .int (m : Nat)])
            have dl : ∀ {H' : Hp} {z : Addr}, H' z = some (.lst [.str "capacity", .int (c : Nat), .int (m : Nat)]) → Dp K H' (.ref z) (.list [.str "capacity", .int (c : Nat), .int (m : Nat)]) := fun h => .lst (SqL.of h) (.cons (.str _) (.cons (.int _) (.cons (.int _) .nil)))
            have shp : SeqAt.shaped (.list [.str "capacity", .int (c : Nat), .int (m : Nat)]) = true := by
              unfold SeqAt.shaped
              simp only [PyData.canLay0, PyData.canLayAll0, PyData.depth, PyData.depthAll]
              rw [show PyData.strOk (Str.ofString "capacity") = true by decide +kernel]
              rfl
            refine ⟨_, _, dl (s4 _ _ e3), dl upd_same, shp, shp, false, by simp [PyData.eqv, PyData.eqvAll], ?_⟩
            rw [if_neg (by decide)]
            exact hG _ _ (((sn.trans s2).trans s3).trans s4)
          by_cases hc : c = 100
          · rw [decide_eq_true (by rw [hc]; rfl), if_pos rfl]
            exact ix_at (SqL.of upd_same) (by decide) rfl (fin 99 (by decide) (by decide) (by omega))
          · rw [decide_eq_false (fun h => hc (by injection h with h; omega)), if_neg (by decide)]
            refine ix_at (SqL.of upd_same) (by decide) rfl ?_
            have := fin (c + 1) (by omega) (by omega) (by omega)
            rw [show ((c + 1 : Nat) : Int) = (c : Int) + 1 by omega] at this
            exact this
        refine ⟨.ref y1, .ref y2, rfl, .inr ⟨y1, c, rs1, rfl, st.2.2.2.2.2.1, .inr ⟨y2, c, rs4, rfl, st.2.2.2.2.2.2, fun h => absurd rfl h, fun _ => ⟨fun he => ?_, fun n dd ra rb hn h1 h2 hall hdd hne => ?_⟩⟩⟩⟩
        · dsimp only
          refine eq_rowsL st.2.1 st.2.2.2.1 st.2.2.1 st.2.2.2.2.1 ok1.lt ok4.lt ⟨rfl, ?_⟩
          rw [decide_eq_true he, decide_eq_true rfl, decide_eq_true rfl, Bool.not_true, if_neg (by decide), if_neg (by decide)]
          refine ⟨(c : Int), rfl, by walk_at "sz", fun P2 hP2 => ?_⟩
          exact ⟨rfl, near _ P2 _ st.2.2.2.2.2.1 hP2 fun x H' s => ⟨st.1.trans s, ⟨_, rfl⟩, ⟨_, rfl⟩, ⟨_, rfl⟩, ⟨_, rfl⟩, ⟨_, rfl⟩, ⟨_, rfl⟩, ⟨_, rfl⟩, ⟨_, rfl⟩, ⟨_, rfl⟩, ⟨_, rfl⟩, ⟨_, rfl⟩, ⟨_, rfl⟩, ⟨_, rfl⟩⟩⟩
        · dsimp only
          have hne14 : rs1 ≠ rs4 := fun h => hne (by rw [h, h2] at h1; cases h1; rfl)
          refine eq_rowsL st.2.1 st.2.2.2.1 st.2.2.1 st.2.2.2.2.1 ok1.lt ok4.lt ⟨rfl, ?_⟩
          rw [decide_eq_false hne14, decide_eq_false (show ¬ V.str (ones dd n) = V.non from fun h => by cases h), decide_eq_true (show V.bl false = V.bl false from rfl), Bool.not_true, if_neg (by decide), Bool.not_false, if_pos rfl]
          have lz : lettersOnly (ones dd n) = true := lo_ones (by rcases hdd with rfl | rfl <;> decide)
          refine ⟨_, rfl, by rw [len_ones]; exact sz_of (by omega), (c : Int), rfl, ?_⟩
          rw [len_ones, decide_eq_false (by omega), if_neg (by decide)]
          refine ⟨_, rfl, c, rs1, st.2.2.2.2.2.1, lz, by rw [len_ones]; exact hn, fun H13 s13 => ?_⟩
          have st := mono s13 st
          refine ⟨_, rfl, c, rs4, st.2.2.2.2.2.2, lz, by rw [len_ones]; exact hn, fun H14 s14 => ?_⟩
          have st := mono s14 st
          have e1 : appV rs1 (ones dd n) = resV ra (ones dd n) := by unfold appV; rw [len_ones, lookR h1]
          have e2 : appV rs4 (ones dd n) = resV rb (ones dd n) := by unfold appV; rw [len_ones, lookR h2]
          rw [e1, e2]
          refine resD_eq (ok1.ok n ra h1) (ok4.ok n rb h2) lz ⟨_, rfl, ?_⟩
          rw [decide_eq_false hne, if_neg (by decide)]
          refine ⟨_, rfl, by rw [len_ones]; exact sz_of (by omega), ?_⟩
          refine ⟨l1, ws1, rfl, SqL.of st.2.1, fun P3 hP3 => ?_⟩
          have s15 := same_new hP3 (.lst (cutV ws1 none (some ((ones dd n).length : Int))))
          have st := mono s15 st
          refine ⟨_, rfl, by rw [len_ones]; exact sz_of (by omega), l4, ws4, rfl, SqL.of st.2.2.2.1, fun P4 hP4 => ?_⟩
          have s16 := same_new hP4 (.lst (cutV ws4 none (some ((ones dd n).length : Int))))
          have a3 := s16 P3 _ upd_same
          have a4 : upd (upd H14 P3 (.lst (cutV ws1 none (some ((ones dd n).length : Int))))) P4 (.lst (cutV ws4 none (some ((ones dd n).length : Int)))) P4 = some (.lst (cutV ws4 none (some ((ones dd n).length : Int)))) := upd_same
          have st := mono s16 st
          have b3 := a3.trans (show _ = some (HO.lst (ws1.take (ones dd n).length)) by rw [cutV_pre])
          have b4 := a4.trans (show _ = some (HO.lst (ws4.take (ones dd n).length)) by rw [cutV_pre])
          have htk : rs1.take (ones dd n).length = rs4.take (ones dd n).length := by
            rw [len_ones]
            refine List.ext_getElem? fun j => ?_
            rw [List.getElem?_take, List.getElem?_take]
            by_cases hj : j < n
            · rw [if_pos hj, if_pos hj]; exact hall j hj
            · rw [if_neg hj, if_neg hj]
          refine ne_rowsL b3 b4 (st.2.2.1.take _) (st.2.2.2.2.1.take _) (fun r hr => ok1.lt r (List.mem_of_mem_take hr)) (fun r hr => ok4.lt r (List.mem_of_mem_take hr)) ⟨_, rfl, ?_⟩
          rw [decide_eq_true htk, Bool.not_true, if_neg (by decide)]
          exact ⟨(c : Int), rfl, by walk_at "sz", fun P5 hP5 => ⟨rfl, near _ P5 _ st.2.2.2.2.2.1 hP5 fun x H' s => ⟨st.1.trans s, ⟨_, rfl⟩, ⟨_, rfl⟩, ⟨_, rfl⟩, ⟨_, rfl⟩, ⟨_, rfl⟩, ⟨_, rfl⟩, ⟨_, rfl⟩, ⟨_, rfl⟩, ⟨_, rfl⟩, ⟨_, rfl⟩, ⟨_, rfl⟩, ⟨_, rfl⟩, ⟨_, rfl⟩⟩⟩⟩
      · rintro σ H' ⟨_, x1, x2, x3, x4, x5, x6, x7, x8, x9, x10, x11, x12, x13, rfl⟩
        walk_at "rd"
        exact q H'

end
theorem all_mk {w : World} {K : PySem.W.Frag} {h : Heap} {mg : Str → Option Value} {fa : Addr} (X : K.In h) (G : h.Ns mainGlobals mg) (hfa : mg "law" = some (.ref fa))
    {f_is_int : Addr} {oc_is_int kV_is_int dc_is_int pm_is_int cd_is_int ct_is_int : Value} {od_is_int an_is_int : Option Addr} {sl_is_int : Array (Option Value)}
    {f_is_int_between : Addr} {oc_is_int_between kV_is_int_between dc_is_int_between pm_is_int_between cd_is_int_between ct_is_int_between : Value} {od_is_int_between an_is_int_between : Option Addr} {sl_is_int_between : Array (Option Value)}
    {f_is_capacity : Addr} {oc_is_capacity kV_is_capacity dc_is_capacity pm_is_capacity cd_is_capacity ct_is_capacity : Value} {od_is_capacity an_is_capacity : Option Addr} {sl_is_capacity : Array (Option Value)}
    {f_is_queue : Addr} {oc_is_queue kV_is_queue dc_is_queue pm_is_queue cd_is_queue ct_is_queue : Value} {od_is_queue an_is_queue : Option Addr} {sl_is_queue : Array (Option Value)}
    {t_is_queue : Addr} {tc_is_queue : Value} {td_is_queue : Option Addr} {tn_is_queue : Nat} {ts_is_queue : Array (Option Value)} {tu_is_queue : Tok}
    {f_has_letters_only : Addr} {oc_has_letters_only kV_has_letters_only dc_has_letters_only pm_has_letters_only cd_has_letters_only ct_has_letters_only : Value} {od_has_letters_only an_has_letters_only : Option Addr} {sl_has_letters_only : Array (Option Value)}
    {f_check_capacity : Addr} {oc_check_capacity kV_check_capacity dc_check_capacity pm_check_capacity cd_check_capacity ct_check_capacity : Value} {od_check_capacity an_check_capacity : Option Addr} {sl_check_capacity : Array (Option Value)}
    {f_check_queue : Addr} {oc_check_queue kV_check_queue dc_check_queue pm_check_queue cd_check_queue ct_check_queue : Value} {od_check_queue an_check_queue : Option Addr} {sl_check_queue : Array (Option Value)}
    {f_check_length : Addr} {oc_check_length kV_check_length dc_check_length pm_check_length cd_check_length ct_check_length : Value} {od_check_length an_check_length : Option Addr} {sl_check_length : Array (Option Value)}
    {f_is_count : Addr} {oc_is_count kV_is_count dc_is_count pm_is_count cd_is_count ct_is_count : Value} {od_is_count an_is_count : Option Addr} {sl_is_count : Array (Option Value)}
    {f_check_count : Addr} {oc_check_count kV_check_count dc_check_count pm_check_count cd_check_count ct_check_count : Value} {od_check_count an_check_count : Option Addr} {sl_check_count : Array (Option Value)}
    {f_ending : Addr} {oc_ending kV_ending dc_ending pm_ending cd_ending ct_ending : Value} {od_ending an_ending : Option Addr} {sl_ending : Array (Option Value)}
    {f_is_row : Addr} {oc_is_row kV_is_row dc_is_row pm_is_row cd_is_row ct_is_row : Value} {od_is_row an_is_row : Option Addr} {sl_is_row : Array (Option Value)}
    {f_identity_rows : Addr} {oc_identity_rows kV_identity_rows dc_identity_rows pm_identity_rows cd_identity_rows ct_identity_rows : Value} {od_identity_rows an_identity_rows : Option Addr} {sl_identity_rows : Array (Option Value)}
    {f_product_rows : Addr} {oc_product_rows kV_product_rows dc_product_rows pm_product_rows cd_product_rows ct_product_rows : Value} {od_product_rows an_product_rows : Option Addr} {sl_product_rows : Array (Option Value)}
    {f_row_after : Addr} {oc_row_after kV_row_after dc_row_after pm_row_after cd_row_after ct_row_after : Value} {od_row_after an_row_after : Option Addr} {sl_row_after : Array (Option Value)}
    {f_end_of_row : Addr} {oc_end_of_row kV_end_of_row dc_end_of_row pm_end_of_row cd_end_of_row ct_end_of_row : Value} {od_end_of_row an_end_of_row : Option Addr} {sl_end_of_row : Array (Option Value)}
    {f_result_of_row : Addr} {oc_result_of_row kV_result_of_row dc_result_of_row pm_result_of_row cd_result_of_row ct_result_of_row : Value} {od_result_of_row an_result_of_row : Option Addr} {sl_result_of_row : Array (Option Value)}
    {f_power_rows : Addr} {oc_power_rows kV_power_rows dc_power_rows pm_power_rows cd_power_rows ct_power_rows : Value} {od_power_rows an_power_rows : Option Addr} {sl_power_rows : Array (Option Value)}
    {f_Effect_init : Addr} {oc_Effect_init kV_Effect_init dc_Effect_init pm_Effect_init cd_Effect_init ct_Effect_init : Value} {od_Effect_init an_Effect_init : Option Addr} {sl_Effect_init : Array (Option Value)}
    {f_Effect_capacity : Addr} {oc_Effect_capacity kV_Effect_capacity dc_Effect_capacity pm_Effect_capacity cd_Effect_capacity ct_Effect_capacity : Value} {od_Effect_capacity an_Effect_capacity : Option Addr} {sl_Effect_capacity : Array (Option Value)}
    {f_Effect_rows : Addr} {oc_Effect_rows kV_Effect_rows dc_Effect_rows pm_Effect_rows cd_Effect_rows ct_Effect_rows : Value} {od_Effect_rows an_Effect_rows : Option Addr} {sl_Effect_rows : Array (Option Value)}
    {f_Effect_identity : Addr} {oc_Effect_identity kV_Effect_identity dc_Effect_identity pm_Effect_identity cd_Effect_identity ct_Effect_identity : Value} {od_Effect_identity an_Effect_identity : Option Addr} {sl_Effect_identity : Array (Option Value)}
    {f_Effect_call : Addr} {oc_Effect_call kV_Effect_call dc_Effect_call pm_Effect_call cd_Effect_call ct_Effect_call : Value} {od_Effect_call an_Effect_call : Option Addr} {sl_Effect_call : Array (Option Value)}
    {f_Effect_getitem : Addr} {oc_Effect_getitem kV_Effect_getitem dc_Effect_getitem pm_Effect_getitem cd_Effect_getitem ct_Effect_getitem : Value} {od_Effect_getitem an_Effect_getitem : Option Addr} {sl_Effect_getitem : Array (Option Value)}
    {f_check_rows : Addr} {oc_check_rows kV_check_rows dc_check_rows pm_check_rows cd_check_rows ct_check_rows : Value} {od_check_rows an_check_rows : Option Addr} {sl_check_rows : Array (Option Value)}
    {f_check_effect : Addr} {oc_check_effect kV_check_effect dc_check_effect pm_check_effect cd_check_effect ct_check_effect : Value} {od_check_effect an_check_effect : Option Addr} {sl_check_effect : Array (Option Value)}
    {f_check_same_capacity : Addr} {oc_check_same_capacity kV_check_same_capacity dc_check_same_capacity pm_check_same_capacity cd_check_same_capacity ct_check_same_capacity : Value} {od_check_same_capacity an_check_same_capacity : Option Addr} {sl_check_same_capacity : Array (Option Value)}
    {f_separating_queue : Addr} {oc_separating_queue kV_separating_queue dc_separating_queue pm_separating_queue cd_separating_queue ct_separating_queue : Value} {od_separating_queue an_separating_queue : Option Addr} {sl_separating_queue : Array (Option Value)}
    {f_queue_between : Addr} {oc_queue_between kV_queue_between dc_queue_between pm_queue_between cd_queue_between ct_queue_between : Value} {od_queue_between an_queue_between : Option Addr} {sl_queue_between : Array (Option Value)}
    {f__law_draws : Addr} {oc__law_draws kV__law_draws dc__law_draws pm__law_draws cd__law_draws ct__law_draws : Value} {od__law_draws an__law_draws : Option Addr} {sl__law_draws : Array (Option Value)}
    {f__law_draw : Addr} {oc__law_draw kV__law_draw dc__law_draw pm__law_draw cd__law_draw ct__law_draw : Value} {od__law_draw an__law_draw : Option Addr} {sl__law_draw : Array (Option Value)}
    {f__law_letter : Addr} {oc__law_letter kV__law_letter dc__law_letter pm__law_letter cd__law_letter ct__law_letter : Value} {od__law_letter an__law_letter : Option Addr} {sl__law_letter : Array (Option Value)}
    {f__law_queue : Addr} {oc__law_queue kV__law_queue dc__law_queue pm__law_queue cd__law_queue ct__law_queue : Value} {od__law_queue an__law_queue : Option Addr} {sl__law_queue : Array (Option Value)}
    {f__law_rows : Addr} {oc__law_rows kV__law_rows dc__law_rows pm__law_rows cd__law_rows ct__law_rows : Value} {od__law_rows an__law_rows : Option Addr} {sl__law_rows : Array (Option Value)}
    {f__law_applied : Addr} {oc__law_applied kV__law_applied dc__law_applied pm__law_applied cd__law_applied ct__law_applied : Value} {od__law_applied an__law_applied : Option Addr} {sl__law_applied : Array (Option Value)}
    {f__law_other : Addr} {oc__law_other kV__law_other dc__law_other pm__law_other cd__law_other ct__law_other : Value} {od__law_other an__law_other : Option Addr} {sl__law_other : Array (Option Value)}
    {f__law_error : Addr} {oc__law_error kV__law_error dc__law_error pm__law_error cd__law_error ct__law_error : Value} {od__law_error an__law_error : Option Addr} {sl__law_error : Array (Option Value)}
    {f_law : Addr} {oc_law kV_law dc_law pm_law cd_law ct_law : Value} {od_law an_law : Option Addr} {sl_law : Array (Option Value)}
    {u_LETTERS : Tok}
    {u_MOST_CAPACITY : Tok}
    {u_MOST_COUNT : Tok}
    {x_Effect : Addr}
    {cp_Effect_identity : Addr} {cr_Effect_identity : List Value}
    {pp_Effect_capacity : Addr} {pq_Effect_capacity : List Value}
    {pp_Effect_rows : Addr} {pq_Effect_rows : List Value}
    {x_InvalidCapacity : Addr}
    {x_InvalidInteger : Addr}
    {x_InvalidQueue : Addr}
    {x_InvalidEffect y_InvalidEffect ca_InvalidEffect cc_InvalidEffect : Addr} {oc_InvalidEffect kV_InvalidEffect dc_InvalidEffect pm_InvalidEffect ct_InvalidEffect cl_InvalidEffect cx_InvalidEffect : Value} {od_InvalidEffect an_InvalidEffect cd_InvalidEffect ce_InvalidEffect : Option Addr} {sl_InvalidEffect csl_InvalidEffect ccs_InvalidEffect : Array (Option Value)} {vs_InvalidEffect : Array Value} {fl_InvalidEffect : Str} {tf_InvalidEffect : Tok}
    {x_CapacityMismatch y_CapacityMismatch ca_CapacityMismatch cc_CapacityMismatch : Addr} {oc_CapacityMismatch kV_CapacityMismatch dc_CapacityMismatch pm_CapacityMismatch ct_CapacityMismatch cl_CapacityMismatch cx_CapacityMismatch : Value} {od_CapacityMismatch an_CapacityMismatch cd_CapacityMismatch ce_CapacityMismatch : Option Addr} {sl_CapacityMismatch csl_CapacityMismatch ccs_CapacityMismatch : Array (Option Value)} {vs_CapacityMismatch : Array Value} {fl_CapacityMismatch : Str} {tf_CapacityMismatch : Tok}
    {x_EffectFailed y_EffectFailed ca_EffectFailed cc_EffectFailed : Addr} {oc_EffectFailed kV_EffectFailed dc_EffectFailed pm_EffectFailed ct_EffectFailed cl_EffectFailed cx_EffectFailed : Value} {od_EffectFailed an_EffectFailed cd_EffectFailed ce_EffectFailed : Option Addr} {sl_EffectFailed csl_EffectFailed ccs_EffectFailed : Array (Option Value)} {vs_EffectFailed : Array Value} {fl_EffectFailed : Str} {tf_EffectFailed : Tok}
    (gx_Effect : PySem.W.nsIn K mainGlobals "Effect" = some (some (.ref x_Effect)))
    (pg_Effect : PySem.W.plainGet K x_Effect Str.empty = true)
    (hd_Effect : PySem.W.hasDictIn K x_Effect = true)
    (po_Effect : PySem.W.plainOver K x_Effect = true)
    (sa_Effect : PySem.W.findIn K (.ref x_Effect) "__setattr__" = some (some (.builtin "object.__setattr__")))
    (kc_Effect : PySem.W.keepIn K (.ref x_Effect) = true)
    (mk_Effect : PySem.W.makesIn K x_Effect = true)
    (in_Effect : PySem.W.findIn K (.ref x_Effect) "__init__" = some (some (.ref f_Effect_init)))
    (if_Effect : PySem.W.isFn K (.ref f_Effect_init) = true)
    (ca_Effect : PySem.W.findIn K (.ref x_Effect) "__class__" = some (some (.builtin "object.__class__")))
    (cm_Effect : PySem.W.mroIn K x_Effect (.type "object") = some true)
    (cg_Effect : PySem.W.specialIn K (.builtin "object.__class__") "__get__" = some (some (.builtin "getset_descriptor.__get__")))
    (ct_Effect : PySem.W.takesIn K (.builtin "object.__class__") = some true)
    (cs_Effect : PySem.W.isClsIn K x_Effect = true)
    (cy_Effect : PySem.W.typeIn K (.ref x_Effect) = some (.type "type"))
    (su_Effect_NoneType : PySem.W.subIn K (.type "NoneType") (.ref x_Effect) = some false)
    (su_Effect_int : PySem.W.subIn K (.type "int") (.ref x_Effect) = some false)
    (rd_Effect : PySem.W.readsIn K x_Effect (.type "type") = true)
    (rg_Effect : PySem.W.specialIn K (.ref x_Effect) "__getattribute__" = some (some (.builtin "type.__getattribute__")))
    (ctz_Effect_identity : PySem.W.findCls K (.ref x_Effect) (.type "type") "identity" = some (.get (.builtin "classmethod.__get__") (.ref cp_Effect_identity) .none (.ref x_Effect)))
    (cq_Effect_identity : PySem.W.recIn K cp_Effect_identity "classmethod" = some (.ref f_Effect_identity :: cr_Effect_identity))
    (cf_Effect_identity : PySem.W.fnIn K f_Effect_identity = true)
    (na_Effect_capacity : PySem.W.findIn K (.ref x_Effect) "_capacity" = some none)
    (na_Effect_rows : PySem.W.findIn K (.ref x_Effect) "_rows" = some none)
    (pa_Effect_capacity : PySem.W.findIn K (.ref x_Effect) "capacity" = some (some (.ref pp_Effect_capacity)))
    (pg_Effect_capacity : PySem.W.specialIn K (.ref pp_Effect_capacity) "__get__" = some (some (.builtin "property.__get__")))
    (pt_Effect_capacity : PySem.W.takesIn K (.ref pp_Effect_capacity) = some true)
    (pr_Effect_capacity : PySem.W.recIn K pp_Effect_capacity "property" = some (.ref f_Effect_capacity :: pq_Effect_capacity))
    (pa_Effect_rows : PySem.W.findIn K (.ref x_Effect) "rows" = some (some (.ref pp_Effect_rows)))
    (pg_Effect_rows : PySem.W.specialIn K (.ref pp_Effect_rows) "__get__" = some (some (.builtin "property.__get__")))
    (pt_Effect_rows : PySem.W.takesIn K (.ref pp_Effect_rows) = some true)
    (pr_Effect_rows : PySem.W.recIn K pp_Effect_rows "property" = some (.ref f_Effect_rows :: pq_Effect_rows))
    (oa_Effect : PySem.W.findIn K (.ref x_Effect) "__call__" = some (some (.ref f_Effect_call)))
    (of_Effect : PySem.W.isFn K (.ref f_Effect_call) = true)
    (oi_Effect : PySem.W.fnIn K f_Effect_call = true)
    (ga_Effect_ : PySem.W.findIn K (.ref x_Effect) "__getitem__" = some (some (.ref f_Effect_getitem)))
    (gf_Effect_ : PySem.W.isFn K (.ref f_Effect_getitem) = true)
    (gi_Effect_ : PySem.W.fnIn K f_Effect_getitem = true)
    (a_is_int : PySem.W.nsIn K mainGlobals "is_int" = some (some (.ref f_is_int)))
    (l_is_int : K.lookup f_is_int = some ⟨oc_is_int, od_is_int, .func (PySem.W.fnOf "is_int" "is_int" (defArgs s_is_int) (defBody s_is_int) (defScope s_is_int) .none kV_is_int dc_is_int pm_is_int an_is_int cd_is_int ct_is_int), sl_is_int⟩)
    (c_is_int : PySem.W.codeIn K cd_is_int "is_int" = true)
    (k_is_int : PySem.W.keepIn K (.ref f_is_int) = true)
    (a_is_int_between : PySem.W.nsIn K mainGlobals "is_int_between" = some (some (.ref f_is_int_between)))
    (l_is_int_between : K.lookup f_is_int_between = some ⟨oc_is_int_between, od_is_int_between, .func (PySem.W.fnOf "is_int_between" "is_int_between" (defArgs s_is_int_between) (defBody s_is_int_between) (defScope s_is_int_between) .none kV_is_int_between dc_is_int_between pm_is_int_between an_is_int_between cd_is_int_between ct_is_int_between), sl_is_int_between⟩)
    (c_is_int_between : PySem.W.codeIn K cd_is_int_between "is_int_between" = true)
    (k_is_int_between : PySem.W.keepIn K (.ref f_is_int_between) = true)
    (a_is_capacity : PySem.W.nsIn K mainGlobals "is_capacity" = some (some (.ref f_is_capacity)))
    (l_is_capacity : K.lookup f_is_capacity = some ⟨oc_is_capacity, od_is_capacity, .func (PySem.W.fnOf "is_capacity" "is_capacity" (defArgs s_is_capacity) (defBody s_is_capacity) (defScope s_is_capacity) .none kV_is_capacity dc_is_capacity pm_is_capacity an_is_capacity cd_is_capacity ct_is_capacity), sl_is_capacity⟩)
    (c_is_capacity : PySem.W.codeIn K cd_is_capacity "is_capacity" = true)
    (k_is_capacity : PySem.W.keepIn K (.ref f_is_capacity) = true)
    (a_is_queue : PySem.W.nsIn K mainGlobals "is_queue" = some (some (.ref f_is_queue)))
    (l_is_queue : K.lookup f_is_queue = some ⟨oc_is_queue, od_is_queue, .func (PySem.W.fnOf "is_queue" "is_queue" (defArgs s_is_queue) (defBody s_is_queue) (defScope s_is_queue) (.ref t_is_queue) kV_is_queue dc_is_queue pm_is_queue an_is_queue cd_is_queue ct_is_queue), sl_is_queue⟩)
    (c_is_queue : PySem.W.codeIn K cd_is_queue "is_queue" = true)
    (k_is_queue : PySem.W.keepIn K (.ref f_is_queue) = true)
    (lt_is_queue : K.lookup t_is_queue = some ⟨tc_is_queue, td_is_queue, .seq #[.int 100 tu_is_queue] tn_is_queue, ts_is_queue⟩)
    (a_has_letters_only : PySem.W.nsIn K mainGlobals "has_letters_only" = some (some (.ref f_has_letters_only)))
    (l_has_letters_only : K.lookup f_has_letters_only = some ⟨oc_has_letters_only, od_has_letters_only, .func (PySem.W.fnOf "has_letters_only" "has_letters_only" (defArgs s_has_letters_only) (defBody s_has_letters_only) (defScope s_has_letters_only) .none kV_has_letters_only dc_has_letters_only pm_has_letters_only an_has_letters_only cd_has_letters_only ct_has_letters_only), sl_has_letters_only⟩)
    (c_has_letters_only : PySem.W.codeIn K cd_has_letters_only "has_letters_only" = true)
    (k_has_letters_only : PySem.W.keepIn K (.ref f_has_letters_only) = true)
    (a_check_capacity : PySem.W.nsIn K mainGlobals "check_capacity" = some (some (.ref f_check_capacity)))
    (l_check_capacity : K.lookup f_check_capacity = some ⟨oc_check_capacity, od_check_capacity, .func (PySem.W.fnOf "check_capacity" "check_capacity" (defArgs s_check_capacity) (defBody s_check_capacity) (defScope s_check_capacity) .none kV_check_capacity dc_check_capacity pm_check_capacity an_check_capacity cd_check_capacity ct_check_capacity), sl_check_capacity⟩)
    (c_check_capacity : PySem.W.codeIn K cd_check_capacity "check_capacity" = true)
    (k_check_capacity : PySem.W.keepIn K (.ref f_check_capacity) = true)
    (a_check_queue : PySem.W.nsIn K mainGlobals "check_queue" = some (some (.ref f_check_queue)))
    (l_check_queue : K.lookup f_check_queue = some ⟨oc_check_queue, od_check_queue, .func (PySem.W.fnOf "check_queue" "check_queue" (defArgs s_check_queue) (defBody s_check_queue) (defScope s_check_queue) .none kV_check_queue dc_check_queue pm_check_queue an_check_queue cd_check_queue ct_check_queue), sl_check_queue⟩)
    (c_check_queue : PySem.W.codeIn K cd_check_queue "check_queue" = true)
    (k_check_queue : PySem.W.keepIn K (.ref f_check_queue) = true)
    (a_check_length : PySem.W.nsIn K mainGlobals "check_length" = some (some (.ref f_check_length)))
    (l_check_length : K.lookup f_check_length = some ⟨oc_check_length, od_check_length, .func (PySem.W.fnOf "check_length" "check_length" (defArgs s_check_length) (defBody s_check_length) (defScope s_check_length) .none kV_check_length dc_check_length pm_check_length an_check_length cd_check_length ct_check_length), sl_check_length⟩)
    (c_check_length : PySem.W.codeIn K cd_check_length "check_length" = true)
    (k_check_length : PySem.W.keepIn K (.ref f_check_length) = true)
    (a_is_count : PySem.W.nsIn K mainGlobals "is_count" = some (some (.ref f_is_count)))
    (l_is_count : K.lookup f_is_count = some ⟨oc_is_count, od_is_count, .func (PySem.W.fnOf "is_count" "is_count" (defArgs s_is_count) (defBody s_is_count) (defScope s_is_count) .none kV_is_count dc_is_count pm_is_count an_is_count cd_is_count ct_is_count), sl_is_count⟩)
    (c_is_count : PySem.W.codeIn K cd_is_count "is_count" = true)
    (k_is_count : PySem.W.keepIn K (.ref f_is_count) = true)
    (a_check_count : PySem.W.nsIn K mainGlobals "check_count" = some (some (.ref f_check_count)))
    (l_check_count : K.lookup f_check_count = some ⟨oc_check_count, od_check_count, .func (PySem.W.fnOf "check_count" "check_count" (defArgs s_check_count) (defBody s_check_count) (defScope s_check_count) .none kV_check_count dc_check_count pm_check_count an_check_count cd_check_count ct_check_count), sl_check_count⟩)
    (c_check_count : PySem.W.codeIn K cd_check_count "check_count" = true)
    (k_check_count : PySem.W.keepIn K (.ref f_check_count) = true)
    (a_ending : PySem.W.nsIn K mainGlobals "ending" = some (some (.ref f_ending)))
    (l_ending : K.lookup f_ending = some ⟨oc_ending, od_ending, .func (PySem.W.fnOf "ending" "ending" (defArgs s_ending) (defBody s_ending) (defScope s_ending) .none kV_ending dc_ending pm_ending an_ending cd_ending ct_ending), sl_ending⟩)
    (c_ending : PySem.W.codeIn K cd_ending "ending" = true)
    (k_ending : PySem.W.keepIn K (.ref f_ending) = true)
    (a_is_row : PySem.W.nsIn K mainGlobals "is_row" = some (some (.ref f_is_row)))
    (l_is_row : K.lookup f_is_row = some ⟨oc_is_row, od_is_row, .func (PySem.W.fnOf "is_row" "is_row" (defArgs s_is_row) (defBody s_is_row) (defScope s_is_row) .none kV_is_row dc_is_row pm_is_row an_is_row cd_is_row ct_is_row), sl_is_row⟩)
    (c_is_row : PySem.W.codeIn K cd_is_row "is_row" = true)
    (k_is_row : PySem.W.keepIn K (.ref f_is_row) = true)
    (a_identity_rows : PySem.W.nsIn K mainGlobals "identity_rows" = some (some (.ref f_identity_rows)))
    (l_identity_rows : K.lookup f_identity_rows = some ⟨oc_identity_rows, od_identity_rows, .func (PySem.W.fnOf "identity_rows" "identity_rows" (defArgs s_identity_rows) (defBody s_identity_rows) (defScope s_identity_rows) .none kV_identity_rows dc_identity_rows pm_identity_rows an_identity_rows cd_identity_rows ct_identity_rows), sl_identity_rows⟩)
    (c_identity_rows : PySem.W.codeIn K cd_identity_rows "identity_rows" = true)
    (k_identity_rows : PySem.W.keepIn K (.ref f_identity_rows) = true)
    (a_product_rows : PySem.W.nsIn K mainGlobals "product_rows" = some (some (.ref f_product_rows)))
    (l_product_rows : K.lookup f_product_rows = some ⟨oc_product_rows, od_product_rows, .func (PySem.W.fnOf "product_rows" "product_rows" (defArgs s_product_rows) (defBody s_product_rows) (defScope s_product_rows) .none kV_product_rows dc_product_rows pm_product_rows an_product_rows cd_product_rows ct_product_rows), sl_product_rows⟩)
    (c_product_rows : PySem.W.codeIn K cd_product_rows "product_rows" = true)
    (k_product_rows : PySem.W.keepIn K (.ref f_product_rows) = true)
    (a_row_after : PySem.W.nsIn K mainGlobals "row_after" = some (some (.ref f_row_after)))
    (l_row_after : K.lookup f_row_after = some ⟨oc_row_after, od_row_after, .func (PySem.W.fnOf "row_after" "row_after" (defArgs s_row_after) (defBody s_row_after) (defScope s_row_after) .none kV_row_after dc_row_after pm_row_after an_row_after cd_row_after ct_row_after), sl_row_after⟩)
    (c_row_after : PySem.W.codeIn K cd_row_after "row_after" = true)
    (k_row_after : PySem.W.keepIn K (.ref f_row_after) = true)
    (a_end_of_row : PySem.W.nsIn K mainGlobals "end_of_row" = some (some (.ref f_end_of_row)))
    (l_end_of_row : K.lookup f_end_of_row = some ⟨oc_end_of_row, od_end_of_row, .func (PySem.W.fnOf "end_of_row" "end_of_row" (defArgs s_end_of_row) (defBody s_end_of_row) (defScope s_end_of_row) .none kV_end_of_row dc_end_of_row pm_end_of_row an_end_of_row cd_end_of_row ct_end_of_row), sl_end_of_row⟩)
    (c_end_of_row : PySem.W.codeIn K cd_end_of_row "end_of_row" = true)
    (k_end_of_row : PySem.W.keepIn K (.ref f_end_of_row) = true)
    (a_result_of_row : PySem.W.nsIn K mainGlobals "result_of_row" = some (some (.ref f_result_of_row)))
    (l_result_of_row : K.lookup f_result_of_row = some ⟨oc_result_of_row, od_result_of_row, .func (PySem.W.fnOf "result_of_row" "result_of_row" (defArgs s_result_of_row) (defBody s_result_of_row) (defScope s_result_of_row) .none kV_result_of_row dc_result_of_row pm_result_of_row an_result_of_row cd_result_of_row ct_result_of_row), sl_result_of_row⟩)
    (c_result_of_row : PySem.W.codeIn K cd_result_of_row "result_of_row" = true)
    (k_result_of_row : PySem.W.keepIn K (.ref f_result_of_row) = true)
    (a_power_rows : PySem.W.nsIn K mainGlobals "power_rows" = some (some (.ref f_power_rows)))
    (l_power_rows : K.lookup f_power_rows = some ⟨oc_power_rows, od_power_rows, .func (PySem.W.fnOf "power_rows" "power_rows" (defArgs s_power_rows) (defBody s_power_rows) (defScope s_power_rows) .none kV_power_rows dc_power_rows pm_power_rows an_power_rows cd_power_rows ct_power_rows), sl_power_rows⟩)
    (c_power_rows : PySem.W.codeIn K cd_power_rows "power_rows" = true)
    (k_power_rows : PySem.W.keepIn K (.ref f_power_rows) = true)
    (l_Effect_init : K.lookup f_Effect_init = some ⟨oc_Effect_init, od_Effect_init, .func (PySem.W.fnOf "__init__" "Effect.__init__" (defArgs s_Effect_init) (defBody s_Effect_init) (defScope s_Effect_init) .none kV_Effect_init dc_Effect_init pm_Effect_init an_Effect_init cd_Effect_init ct_Effect_init), sl_Effect_init⟩)
    (c_Effect_init : PySem.W.codeIn K cd_Effect_init "Effect.__init__" = true)
    (k_Effect_init : PySem.W.keepIn K (.ref f_Effect_init) = true)
    (l_Effect_capacity : K.lookup f_Effect_capacity = some ⟨oc_Effect_capacity, od_Effect_capacity, .func (PySem.W.fnOf "capacity" "Effect.capacity" (defArgs s_Effect_capacity) (defBody s_Effect_capacity) (defScope s_Effect_capacity) .none kV_Effect_capacity dc_Effect_capacity pm_Effect_capacity an_Effect_capacity cd_Effect_capacity ct_Effect_capacity), sl_Effect_capacity⟩)
    (c_Effect_capacity : PySem.W.codeIn K cd_Effect_capacity "Effect.capacity" = true)
    (k_Effect_capacity : PySem.W.keepIn K (.ref f_Effect_capacity) = true)
    (l_Effect_rows : K.lookup f_Effect_rows = some ⟨oc_Effect_rows, od_Effect_rows, .func (PySem.W.fnOf "rows" "Effect.rows" (defArgs s_Effect_rows) (defBody s_Effect_rows) (defScope s_Effect_rows) .none kV_Effect_rows dc_Effect_rows pm_Effect_rows an_Effect_rows cd_Effect_rows ct_Effect_rows), sl_Effect_rows⟩)
    (c_Effect_rows : PySem.W.codeIn K cd_Effect_rows "Effect.rows" = true)
    (k_Effect_rows : PySem.W.keepIn K (.ref f_Effect_rows) = true)
    (l_Effect_identity : K.lookup f_Effect_identity = some ⟨oc_Effect_identity, od_Effect_identity, .func (PySem.W.fnOf "identity" "Effect.identity" (defArgs s_Effect_identity) (defBody s_Effect_identity) (defScope s_Effect_identity) .none kV_Effect_identity dc_Effect_identity pm_Effect_identity an_Effect_identity cd_Effect_identity ct_Effect_identity), sl_Effect_identity⟩)
    (c_Effect_identity : PySem.W.codeIn K cd_Effect_identity "Effect.identity" = true)
    (k_Effect_identity : PySem.W.keepIn K (.ref f_Effect_identity) = true)
    (l_Effect_call : K.lookup f_Effect_call = some ⟨oc_Effect_call, od_Effect_call, .func (PySem.W.fnOf "__call__" "Effect.__call__" (defArgs s_Effect_call) (defBody s_Effect_call) (defScope s_Effect_call) .none kV_Effect_call dc_Effect_call pm_Effect_call an_Effect_call cd_Effect_call ct_Effect_call), sl_Effect_call⟩)
    (c_Effect_call : PySem.W.codeIn K cd_Effect_call "Effect.__call__" = true)
    (k_Effect_call : PySem.W.keepIn K (.ref f_Effect_call) = true)
    (l_Effect_getitem : K.lookup f_Effect_getitem = some ⟨oc_Effect_getitem, od_Effect_getitem, .func (PySem.W.fnOf "__getitem__" "Effect.__getitem__" (defArgs s_Effect_getitem) (defBody s_Effect_getitem) (defScope s_Effect_getitem) .none kV_Effect_getitem dc_Effect_getitem pm_Effect_getitem an_Effect_getitem cd_Effect_getitem ct_Effect_getitem), sl_Effect_getitem⟩)
    (c_Effect_getitem : PySem.W.codeIn K cd_Effect_getitem "Effect.__getitem__" = true)
    (k_Effect_getitem : PySem.W.keepIn K (.ref f_Effect_getitem) = true)
    (a_check_rows : PySem.W.nsIn K mainGlobals "check_rows" = some (some (.ref f_check_rows)))
    (l_check_rows : K.lookup f_check_rows = some ⟨oc_check_rows, od_check_rows, .func (PySem.W.fnOf "check_rows" "check_rows" (defArgs s_check_rows) (defBody s_check_rows) (defScope s_check_rows) .none kV_check_rows dc_check_rows pm_check_rows an_check_rows cd_check_rows ct_check_rows), sl_check_rows⟩)
    (c_check_rows : PySem.W.codeIn K cd_check_rows "check_rows" = true)
    (k_check_rows : PySem.W.keepIn K (.ref f_check_rows) = true)
    (a_check_effect : PySem.W.nsIn K mainGlobals "check_effect" = some (some (.ref f_check_effect)))
    (l_check_effect : K.lookup f_check_effect = some ⟨oc_check_effect, od_check_effect, .func (PySem.W.fnOf "check_effect" "check_effect" (defArgs s_check_effect) (defBody s_check_effect) (defScope s_check_effect) .none kV_check_effect dc_check_effect pm_check_effect an_check_effect cd_check_effect ct_check_effect), sl_check_effect⟩)
    (c_check_effect : PySem.W.codeIn K cd_check_effect "check_effect" = true)
    (k_check_effect : PySem.W.keepIn K (.ref f_check_effect) = true)
    (a_check_same_capacity : PySem.W.nsIn K mainGlobals "check_same_capacity" = some (some (.ref f_check_same_capacity)))
    (l_check_same_capacity : K.lookup f_check_same_capacity = some ⟨oc_check_same_capacity, od_check_same_capacity, .func (PySem.W.fnOf "check_same_capacity" "check_same_capacity" (defArgs s_check_same_capacity) (defBody s_check_same_capacity) (defScope s_check_same_capacity) .none kV_check_same_capacity dc_check_same_capacity pm_check_same_capacity an_check_same_capacity cd_check_same_capacity ct_check_same_capacity), sl_check_same_capacity⟩)
    (c_check_same_capacity : PySem.W.codeIn K cd_check_same_capacity "check_same_capacity" = true)
    (k_check_same_capacity : PySem.W.keepIn K (.ref f_check_same_capacity) = true)
    (a_separating_queue : PySem.W.nsIn K mainGlobals "separating_queue" = some (some (.ref f_separating_queue)))
    (l_separating_queue : K.lookup f_separating_queue = some ⟨oc_separating_queue, od_separating_queue, .func (PySem.W.fnOf "separating_queue" "separating_queue" (defArgs s_separating_queue) (defBody s_separating_queue) (defScope s_separating_queue) .none kV_separating_queue dc_separating_queue pm_separating_queue an_separating_queue cd_separating_queue ct_separating_queue), sl_separating_queue⟩)
    (c_separating_queue : PySem.W.codeIn K cd_separating_queue "separating_queue" = true)
    (k_separating_queue : PySem.W.keepIn K (.ref f_separating_queue) = true)
    (a_queue_between : PySem.W.nsIn K mainGlobals "queue_between" = some (some (.ref f_queue_between)))
    (l_queue_between : K.lookup f_queue_between = some ⟨oc_queue_between, od_queue_between, .func (PySem.W.fnOf "queue_between" "queue_between" (defArgs s_queue_between) (defBody s_queue_between) (defScope s_queue_between) .none kV_queue_between dc_queue_between pm_queue_between an_queue_between cd_queue_between ct_queue_between), sl_queue_between⟩)
    (c_queue_between : PySem.W.codeIn K cd_queue_between "queue_between" = true)
    (k_queue_between : PySem.W.keepIn K (.ref f_queue_between) = true)
    (a__law_draws : PySem.W.nsIn K mainGlobals "_law_draws" = some (some (.ref f__law_draws)))
    (l__law_draws : K.lookup f__law_draws = some ⟨oc__law_draws, od__law_draws, .func (PySem.W.fnOf "_law_draws" "_law_draws" (defArgs s__law_draws) (defBody s__law_draws) (defScope s__law_draws) .none kV__law_draws dc__law_draws pm__law_draws an__law_draws cd__law_draws ct__law_draws), sl__law_draws⟩)
    (c__law_draws : PySem.W.codeIn K cd__law_draws "_law_draws" = true)
    (k__law_draws : PySem.W.keepIn K (.ref f__law_draws) = true)
    (a__law_draw : PySem.W.nsIn K mainGlobals "_law_draw" = some (some (.ref f__law_draw)))
    (l__law_draw : K.lookup f__law_draw = some ⟨oc__law_draw, od__law_draw, .func (PySem.W.fnOf "_law_draw" "_law_draw" (defArgs s__law_draw) (defBody s__law_draw) (defScope s__law_draw) .none kV__law_draw dc__law_draw pm__law_draw an__law_draw cd__law_draw ct__law_draw), sl__law_draw⟩)
    (c__law_draw : PySem.W.codeIn K cd__law_draw "_law_draw" = true)
    (k__law_draw : PySem.W.keepIn K (.ref f__law_draw) = true)
    (a__law_letter : PySem.W.nsIn K mainGlobals "_law_letter" = some (some (.ref f__law_letter)))
    (l__law_letter : K.lookup f__law_letter = some ⟨oc__law_letter, od__law_letter, .func (PySem.W.fnOf "_law_letter" "_law_letter" (defArgs s__law_letter) (defBody s__law_letter) (defScope s__law_letter) .none kV__law_letter dc__law_letter pm__law_letter an__law_letter cd__law_letter ct__law_letter), sl__law_letter⟩)
    (c__law_letter : PySem.W.codeIn K cd__law_letter "_law_letter" = true)
    (k__law_letter : PySem.W.keepIn K (.ref f__law_letter) = true)
    (a__law_queue : PySem.W.nsIn K mainGlobals "_law_queue" = some (some (.ref f__law_queue)))
    (l__law_queue : K.lookup f__law_queue = some ⟨oc__law_queue, od__law_queue, .func (PySem.W.fnOf "_law_queue" "_law_queue" (defArgs s__law_queue) (defBody s__law_queue) (defScope s__law_queue) .none kV__law_queue dc__law_queue pm__law_queue an__law_queue cd__law_queue ct__law_queue), sl__law_queue⟩)
    (c__law_queue : PySem.W.codeIn K cd__law_queue "_law_queue" = true)
    (k__law_queue : PySem.W.keepIn K (.ref f__law_queue) = true)
    (a__law_rows : PySem.W.nsIn K mainGlobals "_law_rows" = some (some (.ref f__law_rows)))
    (l__law_rows : K.lookup f__law_rows = some ⟨oc__law_rows, od__law_rows, .func (PySem.W.fnOf "_law_rows" "_law_rows" (defArgs s__law_rows) (defBody s__law_rows) (defScope s__law_rows) .none kV__law_rows dc__law_rows pm__law_rows an__law_rows cd__law_rows ct__law_rows), sl__law_rows⟩)
    (c__law_rows : PySem.W.codeIn K cd__law_rows "_law_rows" = true)
    (k__law_rows : PySem.W.keepIn K (.ref f__law_rows) = true)
    (a__law_applied : PySem.W.nsIn K mainGlobals "_law_applied" = some (some (.ref f__law_applied)))
    (l__law_applied : K.lookup f__law_applied = some ⟨oc__law_applied, od__law_applied, .func (PySem.W.fnOf "_law_applied" "_law_applied" (defArgs s__law_applied) (defBody s__law_applied) (defScope s__law_applied) .none kV__law_applied dc__law_applied pm__law_applied an__law_applied cd__law_applied ct__law_applied), sl__law_applied⟩)
    (c__law_applied : PySem.W.codeIn K cd__law_applied "_law_applied" = true)
    (k__law_applied : PySem.W.keepIn K (.ref f__law_applied) = true)
    (a__law_other : PySem.W.nsIn K mainGlobals "_law_other" = some (some (.ref f__law_other)))
    (l__law_other : K.lookup f__law_other = some ⟨oc__law_other, od__law_other, .func (PySem.W.fnOf "_law_other" "_law_other" (defArgs s__law_other) (defBody s__law_other) (defScope s__law_other) .none kV__law_other dc__law_other pm__law_other an__law_other cd__law_other ct__law_other), sl__law_other⟩)
    (c__law_other : PySem.W.codeIn K cd__law_other "_law_other" = true)
    (k__law_other : PySem.W.keepIn K (.ref f__law_other) = true)
    (a__law_error : PySem.W.nsIn K mainGlobals "_law_error" = some (some (.ref f__law_error)))
    (l__law_error : K.lookup f__law_error = some ⟨oc__law_error, od__law_error, .func (PySem.W.fnOf "_law_error" "_law_error" (defArgs s__law_error) (defBody s__law_error) (defScope s__law_error) .none kV__law_error dc__law_error pm__law_error an__law_error cd__law_error ct__law_error), sl__law_error⟩)
    (c__law_error : PySem.W.codeIn K cd__law_error "_law_error" = true)
    (k__law_error : PySem.W.keepIn K (.ref f__law_error) = true)
    (a_law : PySem.W.nsIn K mainGlobals "law" = some (some (.ref f_law)))
    (l_law : K.lookup f_law = some ⟨oc_law, od_law, .func (PySem.W.fnOf "law" "law" (defArgs s_law) (defBody s_law) (defScope s_law) .none kV_law dc_law pm_law an_law cd_law ct_law), sl_law⟩)
    (c_law : PySem.W.codeIn K cd_law "law" = true)
    (k_law : PySem.W.keepIn K (.ref f_law) = true)
    (z_NotImplemented : PySem.W.nsIn K mainGlobals "NotImplemented" = some none)
    (z_TypeError : PySem.W.nsIn K mainGlobals "TypeError" = some none)
    (z_any : PySem.W.nsIn K mainGlobals "any" = some none)
    (z_bool : PySem.W.nsIn K mainGlobals "bool" = some none)
    (z_classmethod : PySem.W.nsIn K mainGlobals "classmethod" = some none)
    (z_enumerate : PySem.W.nsIn K mainGlobals "enumerate" = some none)
    (z_int : PySem.W.nsIn K mainGlobals "int" = some none)
    (z_isinstance : PySem.W.nsIn K mainGlobals "isinstance" = some none)
    (z_len : PySem.W.nsIn K mainGlobals "len" = some none)
    (z_list : PySem.W.nsIn K mainGlobals "list" = some none)
    (z_max : PySem.W.nsIn K mainGlobals "max" = some none)
    (z_min : PySem.W.nsIn K mainGlobals "min" = some none)
    (z_property : PySem.W.nsIn K mainGlobals "property" = some none)
    (z_range : PySem.W.nsIn K mainGlobals "range" = some none)
    (z_str : PySem.W.nsIn K mainGlobals "str" = some none)
    (z_tuple : PySem.W.nsIn K mainGlobals "tuple" = some none)
    (n_LETTERS : PySem.W.nsIn K mainGlobals "LETTERS" = some (some (.str "abcdefghijklmnopqrstuvwxyz" u_LETTERS)))
    (n_MOST_CAPACITY : PySem.W.nsIn K mainGlobals "MOST_CAPACITY" = some (some (.int 100 u_MOST_CAPACITY)))
    (n_MOST_COUNT : PySem.W.nsIn K mainGlobals "MOST_COUNT" = some (some (.int 1000000000000000000000000000000 u_MOST_COUNT)))
    (gx_InvalidCapacity : PySem.W.nsIn K mainGlobals "InvalidCapacity" = some (some (.ref x_InvalidCapacity)))
    (q_InvalidCapacity : PySem.W.excIn K x_InvalidCapacity [.type "ValueError", .type "Exception", .type "BaseException", .type "object"] "ValueError.__new__" = true)
    (k_InvalidCapacity : PySem.W.keepIn K (.ref x_InvalidCapacity) = true)
    (b_InvalidCapacity : PySem.W.subIn K (.ref x_InvalidCapacity) (.type "BaseException") = some true)
    (t_InvalidCapacity : PySem.W.typeIn K (.ref x_InvalidCapacity) = some (.type "type"))
    (i_InvalidCapacity : PySem.W.isClsIn K x_InvalidCapacity = true)
    (s_InvalidCapacity : PySem.W.subIn K (.ref x_InvalidCapacity) (.ref x_InvalidCapacity) = some true)
    (gx_InvalidInteger : PySem.W.nsIn K mainGlobals "InvalidInteger" = some (some (.ref x_InvalidInteger)))
    (q_InvalidInteger : PySem.W.excIn K x_InvalidInteger [.type "ValueError", .type "Exception", .type "BaseException", .type "object"] "ValueError.__new__" = true)
    (k_InvalidInteger : PySem.W.keepIn K (.ref x_InvalidInteger) = true)
    (b_InvalidInteger : PySem.W.subIn K (.ref x_InvalidInteger) (.type "BaseException") = some true)
    (t_InvalidInteger : PySem.W.typeIn K (.ref x_InvalidInteger) = some (.type "type"))
    (i_InvalidInteger : PySem.W.isClsIn K x_InvalidInteger = true)
    (s_InvalidInteger : PySem.W.subIn K (.ref x_InvalidInteger) (.ref x_InvalidInteger) = some true)
    (gx_InvalidQueue : PySem.W.nsIn K mainGlobals "InvalidQueue" = some (some (.ref x_InvalidQueue)))
    (q_InvalidQueue : PySem.W.excIn K x_InvalidQueue [.type "ValueError", .type "Exception", .type "BaseException", .type "object"] "ValueError.__new__" = true)
    (k_InvalidQueue : PySem.W.keepIn K (.ref x_InvalidQueue) = true)
    (b_InvalidQueue : PySem.W.subIn K (.ref x_InvalidQueue) (.type "BaseException") = some true)
    (t_InvalidQueue : PySem.W.typeIn K (.ref x_InvalidQueue) = some (.type "type"))
    (i_InvalidQueue : PySem.W.isClsIn K x_InvalidQueue = true)
    (s_InvalidQueue : PySem.W.subIn K (.ref x_InvalidQueue) (.ref x_InvalidQueue) = some true)
    (gx_InvalidEffect : PySem.W.nsIn K mainGlobals "InvalidEffect" = some (some (.ref x_InvalidEffect)))
    (q_InvalidEffect : PySem.W.excInitIn K x_InvalidEffect [.type "ValueError", .type "Exception", .type "BaseException", .type "object"] "ValueError.__new__" = true)
    (ov_InvalidEffect : PySem.W.excOver K x_InvalidEffect [.type "ValueError", .type "Exception", .type "BaseException", .type "object"] = true)
    (sa_InvalidEffect : PySem.W.findIn K (.ref x_InvalidEffect) "__setattr__" = some (some (.builtin "object.__setattr__")))
    (ga_InvalidEffect : PySem.W.findIn K (.ref x_InvalidEffect) "__getattribute__" = some (some (.builtin "BaseException.__getattribute__")))
    (gg_InvalidEffect : PySem.W.findIn K (.ref x_InvalidEffect) "__getattr__" = some none)
    (no_InvalidEffect : PySem.W.findIn K (.ref x_InvalidEffect) "position" = some none)
    (iC_InvalidEffect : PySem.W.findIn K (.ref x_InvalidEffect) "__init__" = some (some (.ref y_InvalidEffect)))
    (tC_InvalidEffect : PySem.W.typeIn K (.ref y_InvalidEffect) = some (.type "function"))
    (kC_InvalidEffect : PySem.W.keepIn K (.ref x_InvalidEffect) = true)
    (exC_InvalidEffect : PySem.W.subIn K (.ref x_InvalidEffect) (.type "BaseException") = some true)
    (suB_InvalidEffect : PySem.W.subIn K (.ref x_InvalidEffect) (.type "ValueError") = some true)
    (tyC_InvalidEffect : PySem.W.typeIn K (.ref x_InvalidEffect) = some (.type "type"))
    (hdC_InvalidEffect : PySem.W.hasDictIn K x_InvalidEffect = true)
    (ic_InvalidEffect : PySem.W.isClsIn K x_InvalidEffect = true)
    (sC_InvalidEffect : PySem.W.subIn K (.ref x_InvalidEffect) (.ref x_InvalidEffect) = some true)
    (mC_InvalidEffect : PySem.W.mroIn K x_InvalidEffect (.ref x_InvalidEffect) = some true)
    (su_InvalidEffect : PySem.W.ks_superIn K x_InvalidEffect x_InvalidEffect "__init__" = some (some (.builtin "ValueError.__init__")))
    (zs_InvalidEffect : PySem.W.nsIn K mainGlobals "super" = some none)
    (zt_InvalidEffect : PySem.W.nsIn K cStatics "thirdparty.any" = some none)
    (l_InvalidEffect : K.lookup y_InvalidEffect = some ⟨oc_InvalidEffect, od_InvalidEffect, .func (PySem.W.ksFn "__init__" "InvalidEffect.__init__" (L2.defArgs s_InvalidEffect_init) (L2.defBody s_InvalidEffect_init) (L2.defScope s_InvalidEffect_init) .none kV_InvalidEffect dc_InvalidEffect pm_InvalidEffect an_InvalidEffect (.ref ca_InvalidEffect) ct_InvalidEffect cc_InvalidEffect), sl_InvalidEffect⟩)
    (cI_InvalidEffect : PySem.W.codeIn K (.ref ca_InvalidEffect) "InvalidEffect.__init__" = true)
    (lc_InvalidEffect : K.lookup cc_InvalidEffect = some ⟨cl_InvalidEffect, cd_InvalidEffect, .cell (some (.ref x_InvalidEffect)), csl_InvalidEffect⟩)
    (la_InvalidEffect : K.lookup ca_InvalidEffect = some ⟨cx_InvalidEffect, ce_InvalidEffect, .fields vs_InvalidEffect, ccs_InvalidEffect⟩)
    (v2_InvalidEffect : vs_InvalidEffect[2]? = some (.str fl_InvalidEffect tf_InvalidEffect))
    (fe_InvalidEffect : ((P.main.file : Str) == fl_InvalidEffect) = true)
    (gx_CapacityMismatch : PySem.W.nsIn K mainGlobals "CapacityMismatch" = some (some (.ref x_CapacityMismatch)))
    (q_CapacityMismatch : PySem.W.excInitIn K x_CapacityMismatch [.type "ValueError", .type "Exception", .type "BaseException", .type "object"] "ValueError.__new__" = true)
    (ov_CapacityMismatch : PySem.W.excOver K x_CapacityMismatch [.type "ValueError", .type "Exception", .type "BaseException", .type "object"] = true)
    (sa_CapacityMismatch : PySem.W.findIn K (.ref x_CapacityMismatch) "__setattr__" = some (some (.builtin "object.__setattr__")))
    (ga_CapacityMismatch : PySem.W.findIn K (.ref x_CapacityMismatch) "__getattribute__" = some (some (.builtin "BaseException.__getattribute__")))
    (gg_CapacityMismatch : PySem.W.findIn K (.ref x_CapacityMismatch) "__getattr__" = some none)
    (no_CapacityMismatch : PySem.W.findIn K (.ref x_CapacityMismatch) "first" = some none)
    (iC_CapacityMismatch : PySem.W.findIn K (.ref x_CapacityMismatch) "__init__" = some (some (.ref y_CapacityMismatch)))
    (tC_CapacityMismatch : PySem.W.typeIn K (.ref y_CapacityMismatch) = some (.type "function"))
    (kC_CapacityMismatch : PySem.W.keepIn K (.ref x_CapacityMismatch) = true)
    (exC_CapacityMismatch : PySem.W.subIn K (.ref x_CapacityMismatch) (.type "BaseException") = some true)
    (suB_CapacityMismatch : PySem.W.subIn K (.ref x_CapacityMismatch) (.type "ValueError") = some true)
    (tyC_CapacityMismatch : PySem.W.typeIn K (.ref x_CapacityMismatch) = some (.type "type"))
    (hdC_CapacityMismatch : PySem.W.hasDictIn K x_CapacityMismatch = true)
    (ic_CapacityMismatch : PySem.W.isClsIn K x_CapacityMismatch = true)
    (sC_CapacityMismatch : PySem.W.subIn K (.ref x_CapacityMismatch) (.ref x_CapacityMismatch) = some true)
    (mC_CapacityMismatch : PySem.W.mroIn K x_CapacityMismatch (.ref x_CapacityMismatch) = some true)
    (su_CapacityMismatch : PySem.W.ks_superIn K x_CapacityMismatch x_CapacityMismatch "__init__" = some (some (.builtin "ValueError.__init__")))
    (zs_CapacityMismatch : PySem.W.nsIn K mainGlobals "super" = some none)
    (zt_CapacityMismatch : PySem.W.nsIn K cStatics "thirdparty.any" = some none)
    (l_CapacityMismatch : K.lookup y_CapacityMismatch = some ⟨oc_CapacityMismatch, od_CapacityMismatch, .func (PySem.W.ksFn "__init__" "CapacityMismatch.__init__" (L2.defArgs s_CapacityMismatch_init) (L2.defBody s_CapacityMismatch_init) (L2.defScope s_CapacityMismatch_init) .none kV_CapacityMismatch dc_CapacityMismatch pm_CapacityMismatch an_CapacityMismatch (.ref ca_CapacityMismatch) ct_CapacityMismatch cc_CapacityMismatch), sl_CapacityMismatch⟩)
    (cI_CapacityMismatch : PySem.W.codeIn K (.ref ca_CapacityMismatch) "CapacityMismatch.__init__" = true)
    (lc_CapacityMismatch : K.lookup cc_CapacityMismatch = some ⟨cl_CapacityMismatch, cd_CapacityMismatch, .cell (some (.ref x_CapacityMismatch)), csl_CapacityMismatch⟩)
    (la_CapacityMismatch : K.lookup ca_CapacityMismatch = some ⟨cx_CapacityMismatch, ce_CapacityMismatch, .fields vs_CapacityMismatch, ccs_CapacityMismatch⟩)
    (v2_CapacityMismatch : vs_CapacityMismatch[2]? = some (.str fl_CapacityMismatch tf_CapacityMismatch))
    (fe_CapacityMismatch : ((P.main.file : Str) == fl_CapacityMismatch) = true)
    (no2_CapacityMismatch : PySem.W.findIn K (.ref x_CapacityMismatch) "second" = some none)
    (gx_EffectFailed : PySem.W.nsIn K mainGlobals "EffectFailed" = some (some (.ref x_EffectFailed)))
    (q_EffectFailed : PySem.W.excInitIn K x_EffectFailed [.type "LookupError", .type "Exception", .type "BaseException", .type "object"] "LookupError.__new__" = true)
    (ov_EffectFailed : PySem.W.excOver K x_EffectFailed [.type "LookupError", .type "Exception", .type "BaseException", .type "object"] = true)
    (sa_EffectFailed : PySem.W.findIn K (.ref x_EffectFailed) "__setattr__" = some (some (.builtin "object.__setattr__")))
    (ga_EffectFailed : PySem.W.findIn K (.ref x_EffectFailed) "__getattribute__" = some (some (.builtin "BaseException.__getattribute__")))
    (gg_EffectFailed : PySem.W.findIn K (.ref x_EffectFailed) "__getattr__" = some none)
    (no_EffectFailed : PySem.W.findIn K (.ref x_EffectFailed) "length" = some none)
    (iC_EffectFailed : PySem.W.findIn K (.ref x_EffectFailed) "__init__" = some (some (.ref y_EffectFailed)))
    (tC_EffectFailed : PySem.W.typeIn K (.ref y_EffectFailed) = some (.type "function"))
    (kC_EffectFailed : PySem.W.keepIn K (.ref x_EffectFailed) = true)
    (exC_EffectFailed : PySem.W.subIn K (.ref x_EffectFailed) (.type "BaseException") = some true)
    (suB_EffectFailed : PySem.W.subIn K (.ref x_EffectFailed) (.type "LookupError") = some true)
    (tyC_EffectFailed : PySem.W.typeIn K (.ref x_EffectFailed) = some (.type "type"))
    (hdC_EffectFailed : PySem.W.hasDictIn K x_EffectFailed = true)
    (ic_EffectFailed : PySem.W.isClsIn K x_EffectFailed = true)
    (sC_EffectFailed : PySem.W.subIn K (.ref x_EffectFailed) (.ref x_EffectFailed) = some true)
    (mC_EffectFailed : PySem.W.mroIn K x_EffectFailed (.ref x_EffectFailed) = some true)
    (su_EffectFailed : PySem.W.ks_superIn K x_EffectFailed x_EffectFailed "__init__" = some (some (.builtin "LookupError.__init__")))
    (zs_EffectFailed : PySem.W.nsIn K mainGlobals "super" = some none)
    (zt_EffectFailed : PySem.W.nsIn K cStatics "thirdparty.any" = some none)
    (l_EffectFailed : K.lookup y_EffectFailed = some ⟨oc_EffectFailed, od_EffectFailed, .func (PySem.W.ksFn "__init__" "EffectFailed.__init__" (L2.defArgs s_EffectFailed_init) (L2.defBody s_EffectFailed_init) (L2.defScope s_EffectFailed_init) .none kV_EffectFailed dc_EffectFailed pm_EffectFailed an_EffectFailed (.ref ca_EffectFailed) ct_EffectFailed cc_EffectFailed), sl_EffectFailed⟩)
    (cI_EffectFailed : PySem.W.codeIn K (.ref ca_EffectFailed) "EffectFailed.__init__" = true)
    (lc_EffectFailed : K.lookup cc_EffectFailed = some ⟨cl_EffectFailed, cd_EffectFailed, .cell (some (.ref x_EffectFailed)), csl_EffectFailed⟩)
    (la_EffectFailed : K.lookup ca_EffectFailed = some ⟨cx_EffectFailed, ce_EffectFailed, .fields vs_EffectFailed, ccs_EffectFailed⟩)
    (v2_EffectFailed : vs_EffectFailed[2]? = some (.str fl_EffectFailed tf_EffectFailed))
    (fe_EffectFailed : ((P.main.file : Str) == fl_EffectFailed) = true)
    (ne_CapacityMismatch_InvalidEffect : PySem.W.subIn K (.ref x_CapacityMismatch) (.ref x_InvalidEffect) = some false)
    : ∃ fd : FuncData, (∀ (s : Shared) (v : Value), BindsTo s fd ⟨[v], []⟩ [("_law_script", v)]) ∧ ∀ base : Heap, K.In base → base.Ns mainGlobals mg → FnOk P w K mg base CX0 8 fa fd ["_law_script"] (spLaw K) := by
  have e := hfa.symm.trans (PySem.W.mg_of X G a_law)
  cases e
  have F_is_int := fun_mk (st := s_is_int) l_is_int c_is_int k_is_int
  have b_is_int := F_is_int.binds (ps := ["value"]) fun _ _ _ _ _ _ us hl => match us, hl with | [_], _ => rfl
  have F_is_int_between := fun_mk (st := s_is_int_between) l_is_int_between c_is_int_between k_is_int_between
  have b_is_int_between := F_is_int_between.binds (ps := ["value", "least", "most"]) fun _ _ _ _ _ _ us hl => match us, hl with | [_, _, _], _ => rfl
  have F_is_capacity := fun_mk (st := s_is_capacity) l_is_capacity c_is_capacity k_is_capacity
  have b_is_capacity := F_is_capacity.binds (ps := ["value"]) fun _ _ _ _ _ _ us hl => match us, hl with | [_], _ => rfl
  have F_is_queue : FunD K "is_queue" "is_queue" (defArgs s_is_queue) (defBody s_is_queue) (defScope s_is_queue) [.int 100] [] f_is_queue _ := ⟨⟨oc_is_queue, od_is_queue, _, kV_is_queue, dc_is_queue, pm_is_queue, an_is_queue, cd_is_queue, ct_is_queue, sl_is_queue, rfl, l_is_queue, c_is_queue, .inr ⟨by simp, t_is_queue, _, _, tn_is_queue, rfl, lt_is_queue, rfl, .cons ⟨_, rfl⟩ .nil⟩, .inl rfl⟩, k_is_queue⟩
  obtain ⟨e_is_queue, v_is_queue, bd_is_queue⟩ := F_is_queue.binds1 (ps := ["value", "capacity"]) 1 0 (by simp) (by rfl) fun _ _ _ _ _ _ _ us its hl hl2 => match us, hl, its, hl2 with | [_], _, [_], _ => ⟨_, rfl, rfl⟩
  obtain ⟨ez_is_queue, vz_is_queue, b_is_queue⟩ := F_is_queue.binds1 (ps := ["value", "capacity"]) 2 1 (by simp) (by rfl) fun _ _ _ _ _ _ _ us its hl hl2 => match us, hl, its, hl2 with | [_, _], _, [_], _ => ⟨_, rfl, rfl⟩
  cases vz_is_queue
  have F_has_letters_only := fun_mk (st := s_has_letters_only) l_has_letters_only c_has_letters_only k_has_letters_only
  have b_has_letters_only := F_has_letters_only.binds (ps := ["value"]) fun _ _ _ _ _ _ us hl => match us, hl with | [_], _ => rfl
  have F_check_capacity := fun_mk (st := s_check_capacity) l_check_capacity c_check_capacity k_check_capacity
  have b_check_capacity := F_check_capacity.binds (ps := ["value"]) fun _ _ _ _ _ _ us hl => match us, hl with | [_], _ => rfl
  have F_check_queue := fun_mk (st := s_check_queue) l_check_queue c_check_queue k_check_queue
  have b_check_queue := F_check_queue.binds (ps := ["value", "capacity"]) fun _ _ _ _ _ _ us hl => match us, hl with | [_, _], _ => rfl
  have F_check_length := fun_mk (st := s_check_length) l_check_length c_check_length k_check_length
  have b_check_length := F_check_length.binds (ps := ["value", "capacity"]) fun _ _ _ _ _ _ us hl => match us, hl with | [_, _], _ => rfl
  have F_is_count := fun_mk (st := s_is_count) l_is_count c_is_count k_is_count
  have b_is_count := F_is_count.binds (ps := ["value"]) fun _ _ _ _ _ _ us hl => match us, hl with | [_], _ => rfl
  have F_check_count := fun_mk (st := s_check_count) l_check_count c_check_count k_check_count
  have b_check_count := F_check_count.binds (ps := ["value"]) fun _ _ _ _ _ _ us hl => match us, hl with | [_], _ => rfl
  have F_ending := fun_mk (st := s_ending) l_ending c_ending k_ending
  have b_ending := F_ending.binds (ps := ["text", "most"]) fun _ _ _ _ _ _ us hl => match us, hl with | [_, _], _ => rfl
  have F_is_row := fun_mk (st := s_is_row) l_is_row c_is_row k_is_row
  have b_is_row := F_is_row.binds (ps := ["value", "length", "capacity"]) fun _ _ _ _ _ _ us hl => match us, hl with | [_, _, _], _ => rfl
  have F_identity_rows := fun_mk (st := s_identity_rows) l_identity_rows c_identity_rows k_identity_rows
  have b_identity_rows := F_identity_rows.binds (ps := ["capacity"]) fun _ _ _ _ _ _ us hl => match us, hl with | [_], _ => rfl
  have F_product_rows := fun_mk (st := s_product_rows) l_product_rows c_product_rows k_product_rows
  have b_product_rows := F_product_rows.binds (ps := ["first", "second"]) fun _ _ _ _ _ _ us hl => match us, hl with | [_, _], _ => rfl
  have F_row_after := fun_mk (st := s_row_after) l_row_after c_row_after k_row_after
  have b_row_after := F_row_after.binds (ps := ["row", "rows"]) fun _ _ _ _ _ _ us hl => match us, hl with | [_, _], _ => rfl
  have F_end_of_row := fun_mk (st := s_end_of_row) l_end_of_row c_end_of_row k_end_of_row
  have b_end_of_row := F_end_of_row.binds (ps := ["row"]) fun _ _ _ _ _ _ us hl => match us, hl with | [_], _ => rfl
  have F_result_of_row := fun_mk (st := s_result_of_row) l_result_of_row c_result_of_row k_result_of_row
  have b_result_of_row := F_result_of_row.binds (ps := ["row", "queue"]) fun _ _ _ _ _ _ us hl => match us, hl with | [_, _], _ => rfl
  have F_power_rows := fun_mk (st := s_power_rows) l_power_rows c_power_rows k_power_rows
  have b_power_rows := F_power_rows.binds (ps := ["rows", "exponent"]) fun _ _ _ _ _ _ us hl => match us, hl with | [_, _], _ => rfl
  have F_Effect_init := fun_mk (st := s_Effect_init) l_Effect_init c_Effect_init k_Effect_init
  have b_Effect_init := F_Effect_init.binds (ps := ["self", "capacity", "rows"]) fun _ _ _ _ _ _ us hl => match us, hl with | [_, _, _], _ => rfl
  have F_Effect_capacity := fun_mk (st := s_Effect_capacity) l_Effect_capacity c_Effect_capacity k_Effect_capacity
  have b_Effect_capacity := F_Effect_capacity.binds (ps := ["self"]) fun _ _ _ _ _ _ us hl => match us, hl with | [_], _ => rfl
  have F_Effect_rows := fun_mk (st := s_Effect_rows) l_Effect_rows c_Effect_rows k_Effect_rows
  have b_Effect_rows := F_Effect_rows.binds (ps := ["self"]) fun _ _ _ _ _ _ us hl => match us, hl with | [_], _ => rfl
  have F_Effect_identity := fun_mk (st := s_Effect_identity) l_Effect_identity c_Effect_identity k_Effect_identity
  have b_Effect_identity := F_Effect_identity.binds (ps := ["cls", "capacity"]) fun _ _ _ _ _ _ us hl => match us, hl with | [_, _], _ => rfl
  have F_Effect_call := fun_mk (st := s_Effect_call) l_Effect_call c_Effect_call k_Effect_call
  have b_Effect_call := F_Effect_call.binds (ps := ["self", "queue"]) fun _ _ _ _ _ _ us hl => match us, hl with | [_, _], _ => rfl
  have F_Effect_getitem := fun_mk (st := s_Effect_getitem) l_Effect_getitem c_Effect_getitem k_Effect_getitem
  have b_Effect_getitem := F_Effect_getitem.binds (ps := ["self", "at"]) fun _ _ _ _ _ _ us hl => match us, hl with | [_, _], _ => rfl
  have F_check_rows := fun_mk (st := s_check_rows) l_check_rows c_check_rows k_check_rows
  have b_check_rows := F_check_rows.binds (ps := ["value", "capacity"]) fun _ _ _ _ _ _ us hl => match us, hl with | [_, _], _ => rfl
  have F_check_effect := fun_mk (st := s_check_effect) l_check_effect c_check_effect k_check_effect
  have b_check_effect := F_check_effect.binds (ps := ["value"]) fun _ _ _ _ _ _ us hl => match us, hl with | [_], _ => rfl
  have F_check_same_capacity := fun_mk (st := s_check_same_capacity) l_check_same_capacity c_check_same_capacity k_check_same_capacity
  have b_check_same_capacity := F_check_same_capacity.binds (ps := ["one", "other"]) fun _ _ _ _ _ _ us hl => match us, hl with | [_, _], _ => rfl
  have F_separating_queue := fun_mk (st := s_separating_queue) l_separating_queue c_separating_queue k_separating_queue
  have b_separating_queue := F_separating_queue.binds (ps := ["one", "other"]) fun _ _ _ _ _ _ us hl => match us, hl with | [_, _], _ => rfl
  have F_queue_between := fun_mk (st := s_queue_between) l_queue_between c_queue_between k_queue_between
  have b_queue_between := F_queue_between.binds (ps := ["length", "row", "other_row"]) fun _ _ _ _ _ _ us hl => match us, hl with | [_, _, _], _ => rfl
  have F__law_draws := fun_mk (st := s__law_draws) l__law_draws c__law_draws k__law_draws
  have b__law_draws := F__law_draws.binds (ps := ["_law_script", "_law_k"]) fun _ _ _ _ _ _ us hl => match us, hl with | [_, _], _ => rfl
  have F__law_draw := fun_mk (st := s__law_draw) l__law_draw c__law_draw k__law_draw
  have b__law_draw := F__law_draw.binds (ps := ["_law_draws_here", "_law_upto"]) fun _ _ _ _ _ _ us hl => match us, hl with | [_, _], _ => rfl
  have F__law_letter := fun_mk (st := s__law_letter) l__law_letter c__law_letter k__law_letter
  have b__law_letter := F__law_letter.binds (ps := ["_law_draws_here"]) fun _ _ _ _ _ _ us hl => match us, hl with | [_], _ => rfl
  have F__law_queue := fun_mk (st := s__law_queue) l__law_queue c__law_queue k__law_queue
  have b__law_queue := F__law_queue.binds (ps := ["_law_draws_here", "_law_most"]) fun _ _ _ _ _ _ us hl => match us, hl with | [_, _], _ => rfl
  have F__law_rows := fun_mk (st := s__law_rows) l__law_rows c__law_rows k__law_rows
  have b__law_rows := F__law_rows.binds (ps := ["_law_draws_here", "_law_capacity"]) fun _ _ _ _ _ _ us hl => match us, hl with | [_, _], _ => rfl
  have F__law_applied := fun_mk (st := s__law_applied) l__law_applied c__law_applied k__law_applied
  have b__law_applied := F__law_applied.binds (ps := ["_law_effect", "_law_queue_here"]) fun _ _ _ _ _ _ us hl => match us, hl with | [_, _], _ => rfl
  have F__law_other := fun_mk (st := s__law_other) l__law_other c__law_other k__law_other
  have b__law_other := F__law_other.binds (ps := ["_law_draws_here", "_law_rows_here", "_law_capacity"]) fun _ _ _ _ _ _ us hl => match us, hl with | [_, _, _], _ => rfl
  have F__law_error := fun_mk (st := s__law_error) l__law_error c__law_error k__law_error
  have b__law_error := F__law_error.binds (ps := ["_law_one", "_law_other_here"]) fun _ _ _ _ _ _ us hl => match us, hl with | [_, _], _ => rfl
  have F_law := fun_mk (st := s_law) l_law c_law k_law
  have b_law := F_law.binds (ps := ["_law_script"]) fun _ _ _ _ _ _ us hl => match us, hl with | [_], _ => rfl
  let T : Top K mg := { a_is_int := f_is_int, d_is_int := _, F_is_int := F_is_int, b_is_int := b_is_int, m_is_int := PySem.W.mg_of X G a_is_int, a_is_int_between := f_is_int_between, d_is_int_between := _, F_is_int_between := F_is_int_between, b_is_int_between := b_is_int_between, m_is_int_between := PySem.W.mg_of X G a_is_int_between, a_is_capacity := f_is_capacity, d_is_capacity := _, F_is_capacity := F_is_capacity, b_is_capacity := b_is_capacity, m_is_capacity := PySem.W.mg_of X G a_is_capacity, a_is_queue := f_is_queue, d_is_queue := _, F_is_queue := F_is_queue, b_is_queue := b_is_queue, e_is_queue := e_is_queue, v_is_queue := v_is_queue, bd_is_queue := bd_is_queue, m_is_queue := PySem.W.mg_of X G a_is_queue, a_has_letters_only := f_has_letters_only, d_has_letters_only := _, F_has_letters_only := F_has_letters_only, b_has_letters_only := b_has_letters_only, m_has_letters_only := PySem.W.mg_of X G a_has_letters_only, a_check_capacity := f_check_capacity, d_check_capacity := _, F_check_capacity := F_check_capacity, b_check_capacity := b_check_capacity, m_check_capacity := PySem.W.mg_of X G a_check_capacity, a_check_queue := f_check_queue, d_check_queue := _, F_check_queue := F_check_queue, b_check_queue := b_check_queue, m_check_queue := PySem.W.mg_of X G a_check_queue, a_check_length := f_check_length, d_check_length := _, F_check_length := F_check_length, b_check_length := b_check_length, m_check_length := PySem.W.mg_of X G a_check_length, a_is_count := f_is_count, d_is_count := _, F_is_count := F_is_count, b_is_count := b_is_count, m_is_count := PySem.W.mg_of X G a_is_count, a_check_count := f_check_count, d_check_count := _, F_check_count := F_check_count, b_check_count := b_check_count, m_check_count := PySem.W.mg_of X G a_check_count, a_ending := f_ending, d_ending := _, F_ending := F_ending, b_ending := b_ending, m_ending := PySem.W.mg_of X G a_ending, a_is_row := f_is_row, d_is_row := _, F_is_row := F_is_row, b_is_row := b_is_row, m_is_row := PySem.W.mg_of X G a_is_row, a_identity_rows := f_identity_rows, d_identity_rows := _, F_identity_rows := F_identity_rows, b_identity_rows := b_identity_rows, m_identity_rows := PySem.W.mg_of X G a_identity_rows, a_product_rows := f_product_rows, d_product_rows := _, F_product_rows := F_product_rows, b_product_rows := b_product_rows, m_product_rows := PySem.W.mg_of X G a_product_rows, a_row_after := f_row_after, d_row_after := _, F_row_after := F_row_after, b_row_after := b_row_after, m_row_after := PySem.W.mg_of X G a_row_after, a_end_of_row := f_end_of_row, d_end_of_row := _, F_end_of_row := F_end_of_row, b_end_of_row := b_end_of_row, m_end_of_row := PySem.W.mg_of X G a_end_of_row, a_result_of_row := f_result_of_row, d_result_of_row := _, F_result_of_row := F_result_of_row, b_result_of_row := b_result_of_row, m_result_of_row := PySem.W.mg_of X G a_result_of_row, a_power_rows := f_power_rows, d_power_rows := _, F_power_rows := F_power_rows, b_power_rows := b_power_rows, m_power_rows := PySem.W.mg_of X G a_power_rows, a_Effect_init := f_Effect_init, d_Effect_init := _, F_Effect_init := F_Effect_init, b_Effect_init := b_Effect_init, a_Effect_capacity := f_Effect_capacity, d_Effect_capacity := _, F_Effect_capacity := F_Effect_capacity, b_Effect_capacity := b_Effect_capacity, a_Effect_rows := f_Effect_rows, d_Effect_rows := _, F_Effect_rows := F_Effect_rows, b_Effect_rows := b_Effect_rows, a_Effect_identity := f_Effect_identity, d_Effect_identity := _, F_Effect_identity := F_Effect_identity, b_Effect_identity := b_Effect_identity, a_Effect_call := f_Effect_call, d_Effect_call := _, F_Effect_call := F_Effect_call, b_Effect_call := b_Effect_call, a_Effect_getitem := f_Effect_getitem, d_Effect_getitem := _, F_Effect_getitem := F_Effect_getitem, b_Effect_getitem := b_Effect_getitem, a_check_rows := f_check_rows, d_check_rows := _, F_check_rows := F_check_rows, b_check_rows := b_check_rows, m_check_rows := PySem.W.mg_of X G a_check_rows, a_check_effect := f_check_effect, d_check_effect := _, F_check_effect := F_check_effect, b_check_effect := b_check_effect, m_check_effect := PySem.W.mg_of X G a_check_effect, a_check_same_capacity := f_check_same_capacity, d_check_same_capacity := _, F_check_same_capacity := F_check_same_capacity, b_check_same_capacity := b_check_same_capacity, m_check_same_capacity := PySem.W.mg_of X G a_check_same_capacity, a_separating_queue := f_separating_queue, d_separating_queue := _, F_separating_queue := F_separating_queue, b_separating_queue := b_separating_queue, m_separating_queue := PySem.W.mg_of X G a_separating_queue, a_queue_between := f_queue_between, d_queue_between := _, F_queue_between := F_queue_between, b_queue_between := b_queue_between, m_queue_between := PySem.W.mg_of X G a_queue_between, a__law_draws := f__law_draws, d__law_draws := _, F__law_draws := F__law_draws, b__law_draws := b__law_draws, m__law_draws := PySem.W.mg_of X G a__law_draws, a__law_draw := f__law_draw, d__law_draw := _, F__law_draw := F__law_draw, b__law_draw := b__law_draw, m__law_draw := PySem.W.mg_of X G a__law_draw, a__law_letter := f__law_letter, d__law_letter := _, F__law_letter := F__law_letter, b__law_letter := b__law_letter, m__law_letter := PySem.W.mg_of X G a__law_letter, a__law_queue := f__law_queue, d__law_queue := _, F__law_queue := F__law_queue, b__law_queue := b__law_queue, m__law_queue := PySem.W.mg_of X G a__law_queue, a__law_rows := f__law_rows, d__law_rows := _, F__law_rows := F__law_rows, b__law_rows := b__law_rows, m__law_rows := PySem.W.mg_of X G a__law_rows, a__law_applied := f__law_applied, d__law_applied := _, F__law_applied := F__law_applied, b__law_applied := b__law_applied, m__law_applied := PySem.W.mg_of X G a__law_applied, a__law_other := f__law_other, d__law_other := _, F__law_other := F__law_other, b__law_other := b__law_other, m__law_other := PySem.W.mg_of X G a__law_other, a__law_error := f__law_error, d__law_error := _, F__law_error := F__law_error, b__law_error := b__law_error, m__law_error := PySem.W.mg_of X G a__law_error, a_law := fa, d_law := _, F_law := F_law, b_law := b_law, m_law := PySem.W.mg_of X G a_law, z_NotImplemented := PySem.W.mg_none_of X G z_NotImplemented, z_TypeError := PySem.W.mg_none_of X G z_TypeError, z_any := PySem.W.mg_none_of X G z_any, z_bool := PySem.W.mg_none_of X G z_bool, z_classmethod := PySem.W.mg_none_of X G z_classmethod, z_enumerate := PySem.W.mg_none_of X G z_enumerate, z_int := PySem.W.mg_none_of X G z_int, z_isinstance := PySem.W.mg_none_of X G z_isinstance, z_len := PySem.W.mg_none_of X G z_len, z_list := PySem.W.mg_none_of X G z_list, z_max := PySem.W.mg_none_of X G z_max, z_min := PySem.W.mg_none_of X G z_min, z_property := PySem.W.mg_none_of X G z_property, z_range := PySem.W.mg_none_of X G z_range, z_str := PySem.W.mg_none_of X G z_str, z_tuple := PySem.W.mg_none_of X G z_tuple, u_LETTERS := u_LETTERS, c_LETTERS := PySem.W.mg_of X G n_LETTERS, u_MOST_CAPACITY := u_MOST_CAPACITY, c_MOST_CAPACITY := PySem.W.mg_of X G n_MOST_CAPACITY, u_MOST_COUNT := u_MOST_COUNT, c_MOST_COUNT := PySem.W.mg_of X G n_MOST_COUNT, x_Effect := x_Effect, g_Effect := PySem.W.mg_of X G gx_Effect, cl_Effect := ⟨pg_Effect, hd_Effect, po_Effect, sa_Effect⟩, mk_Effect := ⟨mk_Effect, in_Effect, if_Effect, kc_Effect⟩, ca_Effect := ca_Effect, cm_Effect := cm_Effect, cg_Effect := cg_Effect, ct_Effect := ct_Effect, cs_Effect := cs_Effect, cy_Effect := cy_Effect, su_Effect_NoneType := su_Effect_NoneType, su_Effect_int := su_Effect_int, rd_Effect := ⟨rd_Effect, rg_Effect⟩, cp_Effect_identity := cp_Effect_identity, cm_Effect_identity := ⟨ctz_Effect_identity, ⟨_, cq_Effect_identity⟩, cf_Effect_identity⟩, n_Effect_capacity := na_Effect_capacity, n_Effect_rows := na_Effect_rows, pp_Effect_capacity := pp_Effect_capacity, pr_Effect_capacity := ⟨pa_Effect_capacity, pg_Effect_capacity, pt_Effect_capacity, ⟨_, pr_Effect_capacity⟩⟩, pp_Effect_rows := pp_Effect_rows, pr_Effect_rows := ⟨pa_Effect_rows, pg_Effect_rows, pt_Effect_rows, ⟨_, pr_Effect_rows⟩⟩, co_Effect := ⟨oa_Effect, of_Effect, oi_Effect⟩, it_Effect := ⟨ga_Effect_, gi_Effect_, gf_Effect_⟩, x_InvalidCapacity := x_InvalidCapacity, g_InvalidCapacity := PySem.W.mg_of X G gx_InvalidCapacity, q_InvalidCapacity := q_InvalidCapacity, k_InvalidCapacity := k_InvalidCapacity, b_InvalidCapacity := b_InvalidCapacity, t_InvalidCapacity := t_InvalidCapacity, e_InvalidCapacity := exm_self b_InvalidCapacity i_InvalidCapacity t_InvalidCapacity s_InvalidCapacity, x_InvalidInteger := x_InvalidInteger, g_InvalidInteger := PySem.W.mg_of X G gx_InvalidInteger, q_InvalidInteger := q_InvalidInteger, k_InvalidInteger := k_InvalidInteger, b_InvalidInteger := b_InvalidInteger, t_InvalidInteger := t_InvalidInteger, e_InvalidInteger := exm_self b_InvalidInteger i_InvalidInteger t_InvalidInteger s_InvalidInteger, x_InvalidQueue := x_InvalidQueue, g_InvalidQueue := PySem.W.mg_of X G gx_InvalidQueue, q_InvalidQueue := q_InvalidQueue, k_InvalidQueue := k_InvalidQueue, b_InvalidQueue := b_InvalidQueue, t_InvalidQueue := t_InvalidQueue, e_InvalidQueue := exm_self b_InvalidQueue i_InvalidQueue t_InvalidQueue s_InvalidQueue, x_InvalidEffect := x_InvalidEffect, y_InvalidEffect := y_InvalidEffect, E_InvalidEffect := { g := PySem.W.mg_of X G gx_InvalidEffect, q := q_InvalidEffect, ov := ov_InvalidEffect, sa := sa_InvalidEffect, ga := ga_InvalidEffect, gg := gg_InvalidEffect, no := no_InvalidEffect, iC := iC_InvalidEffect, tC := tC_InvalidEffect, kC := kC_InvalidEffect, exC := exC_InvalidEffect, suB := suB_InvalidEffect, tyC := tyC_InvalidEffect, hdC := hdC_InvalidEffect, te := exm_self exC_InvalidEffect ic_InvalidEffect tyC_InvalidEffect sC_InvalidEffect, mC := mC_InvalidEffect, su := su_InvalidEffect, zs := zs_InvalidEffect, zt := zt_InvalidEffect, fn := ⟨_, _, _, _, _, _, _, _, _, _, _, _, _, _, _, _, _, _, _, l_InvalidEffect, cI_InvalidEffect, lc_InvalidEffect, la_InvalidEffect, v2_InvalidEffect, fe_InvalidEffect⟩ }, n2_CapacityMismatch := no2_CapacityMismatch, x_CapacityMismatch := x_CapacityMismatch, y_CapacityMismatch := y_CapacityMismatch, E_CapacityMismatch := { g := PySem.W.mg_of X G gx_CapacityMismatch, q := q_CapacityMismatch, ov := ov_CapacityMismatch, sa := sa_CapacityMismatch, ga := ga_CapacityMismatch, gg := gg_CapacityMismatch, no := no_CapacityMismatch, iC := iC_CapacityMismatch, tC := tC_CapacityMismatch, kC := kC_CapacityMismatch, exC := exC_CapacityMismatch, suB := suB_CapacityMismatch, tyC := tyC_CapacityMismatch, hdC := hdC_CapacityMismatch, te := exm_self exC_CapacityMismatch ic_CapacityMismatch tyC_CapacityMismatch sC_CapacityMismatch, mC := mC_CapacityMismatch, su := su_CapacityMismatch, zs := zs_CapacityMismatch, zt := zt_CapacityMismatch, fn := ⟨_, _, _, _, _, _, _, _, _, _, _, _, _, _, _, _, _, _, _, l_CapacityMismatch, cI_CapacityMismatch, lc_CapacityMismatch, la_CapacityMismatch, v2_CapacityMismatch, fe_CapacityMismatch⟩ }, x_EffectFailed := x_EffectFailed, y_EffectFailed := y_EffectFailed, E_EffectFailed := { g := PySem.W.mg_of X G gx_EffectFailed, q := q_EffectFailed, ov := ov_EffectFailed, sa := sa_EffectFailed, ga := ga_EffectFailed, gg := gg_EffectFailed, no := no_EffectFailed, iC := iC_EffectFailed, tC := tC_EffectFailed, kC := kC_EffectFailed, exC := exC_EffectFailed, suB := suB_EffectFailed, tyC := tyC_EffectFailed, hdC := hdC_EffectFailed, te := exm_self exC_EffectFailed ic_EffectFailed tyC_EffectFailed sC_EffectFailed, mC := mC_EffectFailed, su := su_EffectFailed, zs := zs_EffectFailed, zt := zt_EffectFailed, fn := ⟨_, _, _, _, _, _, _, _, _, _, _, _, _, _, _, _, _, _, _, l_EffectFailed, cI_EffectFailed, lc_EffectFailed, la_EffectFailed, v2_EffectFailed, fe_EffectFailed⟩ }, ne_CapacityMismatch_InvalidEffect := exm_of exC_InvalidEffect ic_InvalidEffect tyC_InvalidEffect ne_CapacityMismatch_InvalidEffect }
  exact ⟨T.d_law, fun s v => .of_eq rfl, fun base _ _ => ok_law (w := w) (base := base) T⟩
theorem walk {l : PySem.W.OpenLaw} {q : Program} {loose : List Str} {XP : (Str → Option Value) → Heap → Prop} {YP : World → Heap → Prop} {d : DefRec} {K : Params → PySem.W.Frag} (hn : l.most = some 63) (hdf : d.params.defaults = [])
    (hY : ∀ (w : World) (h : Heap), YP w h → (K w.params).In h)
    (F : ∀ (w : World) (mg : Str → Option Value) (fa : Addr) (h : Heap), (K w.params).In h → h.Ns mainGlobals mg → mg d.name = some (.ref fa) →
      ∃ fd : FuncData, (∀ (s : Shared) (u : Value), BindsTo s fd ⟨[u], []⟩ [("_law_script", u)]) ∧ ∀ base : Heap, (K w.params).In base → base.Ns mainGlobals mg → FnOk l.prog w (K w.params) mg base CX0 8 fa fd ["_law_script"] (spLaw (K w.params))) :
    PySem.W.WalkO q loose XP YP l.row.toRowW d [] (fun f vs => PySem.call f vs) :=
  L2.walk_of (n := 63) (k := 8) (x := "_law_script") (CX := fun _ => CX0) (sp := fun w => spLaw (K w.params)) hn (by decide) hdf ⟨rfl, by decide, by decide⟩ hY F (fun _ _ a ns hl _ hS => ⟨a, ns, rfl, hS, hl, fun _ => rfl⟩) fun _ _ _ _ _ z => z
end My
open PySem PySem.W PyProof.Rows
set_option maxRecDepth 100000 in
set_option maxHeartbeats 0 in
theorem PySem.Challenge.cw_fullqueue_k27_separating_queues_holds : PySem.Challenge.rw_fullqueue_k27_separating_queues.Holds := by
  w_on; o_law; k_head; (case hw => w_witness2)
  k_fill
  refine My.walk (l := PySem.Challenge.rw_fullqueue_k27_separating_queues) rfl rfl (fun w h Y => PySem.W.kIn_of Y) ?F
  case F =>
    intro w mg fa h KX G hmg
    refine' My.all_mk KX G hmg ?gx_Effect ?pg_Effect ?hd_Effect ?po_Effect ?sa_Effect ?kc_Effect ?mk_Effect ?in_Effect ?if_Effect ?ca_Effect ?cm_Effect ?cg_Effect ?ct_Effect ?cs_Effect ?cy_Effect ?su_Effect_NoneType ?su_Effect_int ?rd_Effect ?rg_Effect ?ctz_Effect_identity ?cq_Effect_identity ?cf_Effect_identity ?na_Effect_capacity ?na_Effect_rows ?pa_Effect_capacity ?pg_Effect_capacity ?pt_Effect_capacity ?pr_Effect_capacity ?pa_Effect_rows ?pg_Effect_rows ?pt_Effect_rows ?pr_Effect_rows ?oa_Effect ?of_Effect ?oi_Effect ?ga_Effect_ ?gf_Effect_ ?gi_Effect_ ?a_is_int ?l_is_int ?c_is_int ?k_is_int ?a_is_int_between ?l_is_int_between ?c_is_int_between ?k_is_int_between ?a_is_capacity ?l_is_capacity ?c_is_capacity ?k_is_capacity ?a_is_queue ?l_is_queue ?c_is_queue ?k_is_queue ?lt_is_queue ?a_has_letters_only ?l_has_letters_only ?c_has_letters_only ?k_has_letters_only ?a_check_capacity ?l_check_capacity ?c_check_capacity ?k_check_capacity ?a_check_queue ?l_check_queue ?c_check_queue ?k_check_queue ?a_check_length ?l_check_length ?c_check_length ?k_check_length ?a_is_count ?l_is_count ?c_is_count ?k_is_count ?a_check_count ?l_check_count ?c_check_count ?k_check_count ?a_ending ?l_ending ?c_ending ?k_ending ?a_is_row ?l_is_row ?c_is_row ?k_is_row ?a_identity_rows ?l_identity_rows ?c_identity_rows ?k_identity_rows ?a_product_rows ?l_product_rows ?c_product_rows ?k_product_rows ?a_row_after ?l_row_after ?c_row_after ?k_row_after ?a_end_of_row ?l_end_of_row ?c_end_of_row ?k_end_of_row ?a_result_of_row ?l_result_of_row ?c_result_of_row ?k_result_of_row ?a_power_rows ?l_power_rows ?c_power_rows ?k_power_rows ?l_Effect_init ?c_Effect_init ?k_Effect_init ?l_Effect_capacity ?c_Effect_capacity ?k_Effect_capacity ?l_Effect_rows ?c_Effect_rows ?k_Effect_rows ?l_Effect_identity ?c_Effect_identity ?k_Effect_identity ?l_Effect_call ?c_Effect_call ?k_Effect_call ?l_Effect_getitem ?c_Effect_getitem ?k_Effect_getitem ?a_check_rows ?l_check_rows ?c_check_rows ?k_check_rows ?a_check_effect ?l_check_effect ?c_check_effect ?k_check_effect ?a_check_same_capacity ?l_check_same_capacity ?c_check_same_capacity ?k_check_same_capacity ?a_separating_queue ?l_separating_queue ?c_separating_queue ?k_separating_queue ?a_queue_between ?l_queue_between ?c_queue_between ?k_queue_between ?a__law_draws ?l__law_draws ?c__law_draws ?k__law_draws ?a__law_draw ?l__law_draw ?c__law_draw ?k__law_draw ?a__law_letter ?l__law_letter ?c__law_letter ?k__law_letter ?a__law_queue ?l__law_queue ?c__law_queue ?k__law_queue ?a__law_rows ?l__law_rows ?c__law_rows ?k__law_rows ?a__law_applied ?l__law_applied ?c__law_applied ?k__law_applied ?a__law_other ?l__law_other ?c__law_other ?k__law_other ?a__law_error ?l__law_error ?c__law_error ?k__law_error ?a_law ?l_law ?c_law ?k_law ?z_NotImplemented ?z_TypeError ?z_any ?z_bool ?z_classmethod ?z_enumerate ?z_int ?z_isinstance ?z_len ?z_list ?z_max ?z_min ?z_property ?z_range ?z_str ?z_tuple ?n_LETTERS ?n_MOST_CAPACITY ?n_MOST_COUNT ?gx_InvalidCapacity ?q_InvalidCapacity ?k_InvalidCapacity ?b_InvalidCapacity ?t_InvalidCapacity ?i_InvalidCapacity ?s_InvalidCapacity ?gx_InvalidInteger ?q_InvalidInteger ?k_InvalidInteger ?b_InvalidInteger ?t_InvalidInteger ?i_InvalidInteger ?s_InvalidInteger ?gx_InvalidQueue ?q_InvalidQueue ?k_InvalidQueue ?b_InvalidQueue ?t_InvalidQueue ?i_InvalidQueue ?s_InvalidQueue ?gx_InvalidEffect ?q_InvalidEffect ?ov_InvalidEffect ?sa_InvalidEffect ?ga_InvalidEffect ?gg_InvalidEffect ?no_InvalidEffect ?iC_InvalidEffect ?tC_InvalidEffect ?kC_InvalidEffect ?exC_InvalidEffect ?suB_InvalidEffect ?tyC_InvalidEffect ?hdC_InvalidEffect ?ic_InvalidEffect ?sC_InvalidEffect ?mC_InvalidEffect ?su_InvalidEffect ?zs_InvalidEffect ?zt_InvalidEffect ?l_InvalidEffect ?cI_InvalidEffect ?lc_InvalidEffect ?la_InvalidEffect ?v2_InvalidEffect ?fe_InvalidEffect ?gx_CapacityMismatch ?q_CapacityMismatch ?ov_CapacityMismatch ?sa_CapacityMismatch ?ga_CapacityMismatch ?gg_CapacityMismatch ?no_CapacityMismatch ?iC_CapacityMismatch ?tC_CapacityMismatch ?kC_CapacityMismatch ?exC_CapacityMismatch ?suB_CapacityMismatch ?tyC_CapacityMismatch ?hdC_CapacityMismatch ?ic_CapacityMismatch ?sC_CapacityMismatch ?mC_CapacityMismatch ?su_CapacityMismatch ?zs_CapacityMismatch ?zt_CapacityMismatch ?l_CapacityMismatch ?cI_CapacityMismatch ?lc_CapacityMismatch ?la_CapacityMismatch ?v2_CapacityMismatch ?fe_CapacityMismatch ?no2_CapacityMismatch ?gx_EffectFailed ?q_EffectFailed ?ov_EffectFailed ?sa_EffectFailed ?ga_EffectFailed ?gg_EffectFailed ?no_EffectFailed ?iC_EffectFailed ?tC_EffectFailed ?kC_EffectFailed ?exC_EffectFailed ?suB_EffectFailed ?tyC_EffectFailed ?hdC_EffectFailed ?ic_EffectFailed ?sC_EffectFailed ?mC_EffectFailed ?su_EffectFailed ?zs_EffectFailed ?zt_EffectFailed ?l_EffectFailed ?cI_EffectFailed ?lc_EffectFailed ?la_EffectFailed ?v2_EffectFailed ?fe_EffectFailed ?ne_CapacityMismatch_InvalidEffect
    (case gx_Effect => k_is)
    (case pg_Effect => k_is)
    (case hd_Effect => k_is)
    (case po_Effect => k_is)
    (case sa_Effect => k_is)
    (case kc_Effect => k_is)
    (case mk_Effect => k_is)
    (case in_Effect => k_is)
    (case if_Effect => k_is)
    (case ca_Effect => k_is)
    (case cm_Effect => k_is)
    (case cg_Effect => k_is)
    (case ct_Effect => k_is)
    (case cs_Effect => k_is)
    (case cy_Effect => k_is)
    (case su_Effect_NoneType => k_is)
    (case su_Effect_int => k_is)
    (case rd_Effect => k_is)
    (case rg_Effect => k_is)
    (case ctz_Effect_identity => k_is)
    (case cq_Effect_identity => k_is)
    (case cf_Effect_identity => k_is)
    (case na_Effect_capacity => k_is)
    (case na_Effect_rows => k_is)
    (case pa_Effect_capacity => k_is)
    (case pg_Effect_capacity => k_is)
    (case pt_Effect_capacity => k_is)
    (case pr_Effect_capacity => k_is)
    (case pa_Effect_rows => k_is)
    (case pg_Effect_rows => k_is)
    (case pt_Effect_rows => k_is)
    (case pr_Effect_rows => k_is)
    (case oa_Effect => k_is)
    (case of_Effect => k_is)
    (case oi_Effect => k_is)
    (case ga_Effect_ => k_is)
    (case gf_Effect_ => k_is)
    (case gi_Effect_ => k_is)
    (case a_is_int => k_is)
    (case l_is_int => k_is)
    (case c_is_int => k_is)
    (case k_is_int => k_is)
    (case a_is_int_between => k_is)
    (case l_is_int_between => k_is)
    (case c_is_int_between => k_is)
    (case k_is_int_between => k_is)
    (case a_is_capacity => k_is)
    (case l_is_capacity => k_is)
    (case c_is_capacity => k_is)
    (case k_is_capacity => k_is)
    (case a_is_queue => k_is)
    (case l_is_queue => k_is)
    (case c_is_queue => k_is)
    (case k_is_queue => k_is)
    (case lt_is_queue => k_is)
    (case a_has_letters_only => k_is)
    (case l_has_letters_only => k_is)
    (case c_has_letters_only => k_is)
    (case k_has_letters_only => k_is)
    (case a_check_capacity => k_is)
    (case l_check_capacity => k_is)
    (case c_check_capacity => k_is)
    (case k_check_capacity => k_is)
    (case a_check_queue => k_is)
    (case l_check_queue => k_is)
    (case c_check_queue => k_is)
    (case k_check_queue => k_is)
    (case a_check_length => k_is)
    (case l_check_length => k_is)
    (case c_check_length => k_is)
    (case k_check_length => k_is)
    (case a_is_count => k_is)
    (case l_is_count => k_is)
    (case c_is_count => k_is)
    (case k_is_count => k_is)
    (case a_check_count => k_is)
    (case l_check_count => k_is)
    (case c_check_count => k_is)
    (case k_check_count => k_is)
    (case a_ending => k_is)
    (case l_ending => k_is)
    (case c_ending => k_is)
    (case k_ending => k_is)
    (case a_is_row => k_is)
    (case l_is_row => k_is)
    (case c_is_row => k_is)
    (case k_is_row => k_is)
    (case a_identity_rows => k_is)
    (case l_identity_rows => k_is)
    (case c_identity_rows => k_is)
    (case k_identity_rows => k_is)
    (case a_product_rows => k_is)
    (case l_product_rows => k_is)
    (case c_product_rows => k_is)
    (case k_product_rows => k_is)
    (case a_row_after => k_is)
    (case l_row_after => k_is)
    (case c_row_after => k_is)
    (case k_row_after => k_is)
    (case a_end_of_row => k_is)
    (case l_end_of_row => k_is)
    (case c_end_of_row => k_is)
    (case k_end_of_row => k_is)
    (case a_result_of_row => k_is)
    (case l_result_of_row => k_is)
    (case c_result_of_row => k_is)
    (case k_result_of_row => k_is)
    (case a_power_rows => k_is)
    (case l_power_rows => k_is)
    (case c_power_rows => k_is)
    (case k_power_rows => k_is)
    (case l_Effect_init => k_is)
    (case c_Effect_init => k_is)
    (case k_Effect_init => k_is)
    (case l_Effect_capacity => k_is)
    (case c_Effect_capacity => k_is)
    (case k_Effect_capacity => k_is)
    (case l_Effect_rows => k_is)
    (case c_Effect_rows => k_is)
    (case k_Effect_rows => k_is)
    (case l_Effect_identity => k_is)
    (case c_Effect_identity => k_is)
    (case k_Effect_identity => k_is)
    (case l_Effect_call => k_is)
    (case c_Effect_call => k_is)
    (case k_Effect_call => k_is)
    (case l_Effect_getitem => k_is)
    (case c_Effect_getitem => k_is)
    (case k_Effect_getitem => k_is)
    (case a_check_rows => k_is)
    (case l_check_rows => k_is)
    (case c_check_rows => k_is)
    (case k_check_rows => k_is)
    (case a_check_effect => k_is)
    (case l_check_effect => k_is)
    (case c_check_effect => k_is)
    (case k_check_effect => k_is)
    (case a_check_same_capacity => k_is)
    (case l_check_same_capacity => k_is)
    (case c_check_same_capacity => k_is)
    (case k_check_same_capacity => k_is)
    (case a_separating_queue => k_is)
    (case l_separating_queue => k_is)
    (case c_separating_queue => k_is)
    (case k_separating_queue => k_is)
    (case a_queue_between => k_is)
    (case l_queue_between => k_is)
    (case c_queue_between => k_is)
    (case k_queue_between => k_is)
    (case a__law_draws => k_is)
    (case l__law_draws => k_is)
    (case c__law_draws => k_is)
    (case k__law_draws => k_is)
    (case a__law_draw => k_is)
    (case l__law_draw => k_is)
    (case c__law_draw => k_is)
    (case k__law_draw => k_is)
    (case a__law_letter => k_is)
    (case l__law_letter => k_is)
    (case c__law_letter => k_is)
    (case k__law_letter => k_is)
    (case a__law_queue => k_is)
    (case l__law_queue => k_is)
    (case c__law_queue => k_is)
    (case k__law_queue => k_is)
    (case a__law_rows => k_is)
    (case l__law_rows => k_is)
    (case c__law_rows => k_is)
    (case k__law_rows => k_is)
    (case a__law_applied => k_is)
    (case l__law_applied => k_is)
    (case c__law_applied => k_is)
    (case k__law_applied => k_is)
    (case a__law_other => k_is)
    (case l__law_other => k_is)
    (case c__law_other => k_is)
    (case k__law_other => k_is)
    (case a__law_error => k_is)
    (case l__law_error => k_is)
    (case c__law_error => k_is)
    (case k__law_error => k_is)
    (case a_law => k_is)
    (case l_law => k_is)
    (case c_law => k_is)
    (case k_law => k_is)
    (case z_NotImplemented => k_is)
    (case z_TypeError => k_is)
    (case z_any => k_is)
    (case z_bool => k_is)
    (case z_classmethod => k_is)
    (case z_enumerate => k_is)
    (case z_int => k_is)
    (case z_isinstance => k_is)
    (case z_len => k_is)
    (case z_list => k_is)
    (case z_max => k_is)
    (case z_min => k_is)
    (case z_property => k_is)
    (case z_range => k_is)
    (case z_str => k_is)
    (case z_tuple => k_is)
    (case n_LETTERS => k_is)
    (case n_MOST_CAPACITY => k_is)
    (case n_MOST_COUNT => k_is)
    (case gx_InvalidCapacity => k_is)
    (case q_InvalidCapacity => k_exc)
    (case k_InvalidCapacity => k_is)
    (case b_InvalidCapacity => k_is)
    (case t_InvalidCapacity => k_is)
    (case i_InvalidCapacity => k_is)
    (case s_InvalidCapacity => k_is)
    (case gx_InvalidInteger => k_is)
    (case q_InvalidInteger => k_exc)
    (case k_InvalidInteger => k_is)
    (case b_InvalidInteger => k_is)
    (case t_InvalidInteger => k_is)
    (case i_InvalidInteger => k_is)
    (case s_InvalidInteger => k_is)
    (case gx_InvalidQueue => k_is)
    (case q_InvalidQueue => k_exc)
    (case k_InvalidQueue => k_is)
    (case b_InvalidQueue => k_is)
    (case t_InvalidQueue => k_is)
    (case i_InvalidQueue => k_is)
    (case s_InvalidQueue => k_is)
    (case gx_InvalidEffect => k_is)
    (case q_InvalidEffect => kx_is)
    (case ov_InvalidEffect => kx_is)
    (case sa_InvalidEffect => k_is)
    (case ga_InvalidEffect => k_is)
    (case gg_InvalidEffect => k_is)
    (case no_InvalidEffect => k_is)
    (case iC_InvalidEffect => k_is)
    (case tC_InvalidEffect => k_is)
    (case kC_InvalidEffect => k_is)
    (case exC_InvalidEffect => k_is)
    (case suB_InvalidEffect => k_is)
    (case tyC_InvalidEffect => k_is)
    (case hdC_InvalidEffect => k_is)
    (case ic_InvalidEffect => k_is)
    (case sC_InvalidEffect => k_is)
    (case mC_InvalidEffect => k_is)
    (case su_InvalidEffect => ks_is)
    (case zs_InvalidEffect => k_is)
    (case zt_InvalidEffect => k_is)
    (case l_InvalidEffect => k_is)
    (case cI_InvalidEffect => k_is)
    (case lc_InvalidEffect => k_is)
    (case la_InvalidEffect => k_is)
    (case v2_InvalidEffect => rfl)
    (case fe_InvalidEffect => (first | rfl | decide +kernel))
    (case gx_CapacityMismatch => k_is)
    (case q_CapacityMismatch => kx_is)
    (case ov_CapacityMismatch => kx_is)
    (case sa_CapacityMismatch => k_is)
    (case ga_CapacityMismatch => k_is)
    (case gg_CapacityMismatch => k_is)
    (case no_CapacityMismatch => k_is)
    (case iC_CapacityMismatch => k_is)
    (case tC_CapacityMismatch => k_is)
    (case kC_CapacityMismatch => k_is)
    (case exC_CapacityMismatch => k_is)
    (case suB_CapacityMismatch => k_is)
    (case tyC_CapacityMismatch => k_is)
    (case hdC_CapacityMismatch => k_is)
    (case ic_CapacityMismatch => k_is)
    (case sC_CapacityMismatch => k_is)
    (case mC_CapacityMismatch => k_is)
    (case su_CapacityMismatch => ks_is)
    (case zs_CapacityMismatch => k_is)
    (case zt_CapacityMismatch => k_is)
    (case l_CapacityMismatch => k_is)
    (case cI_CapacityMismatch => k_is)
    (case lc_CapacityMismatch => k_is)
    (case la_CapacityMismatch => k_is)
    (case v2_CapacityMismatch => rfl)
    (case fe_CapacityMismatch => (first | rfl | decide +kernel))
    (case no2_CapacityMismatch => k_is)
    (case gx_EffectFailed => k_is)
    (case q_EffectFailed => kx_is)
    (case ov_EffectFailed => kx_is)
    (case sa_EffectFailed => k_is)
    (case ga_EffectFailed => k_is)
    (case gg_EffectFailed => k_is)
    (case no_EffectFailed => k_is)
    (case iC_EffectFailed => k_is)
    (case tC_EffectFailed => k_is)
    (case kC_EffectFailed => k_is)
    (case exC_EffectFailed => k_is)
    (case suB_EffectFailed => k_is)
    (case tyC_EffectFailed => k_is)
    (case hdC_EffectFailed => k_is)
    (case ic_EffectFailed => k_is)
    (case sC_EffectFailed => k_is)
    (case mC_EffectFailed => k_is)
    (case su_EffectFailed => ks_is)
    (case zs_EffectFailed => k_is)
    (case zt_EffectFailed => k_is)
    (case l_EffectFailed => k_is)
    (case cI_EffectFailed => k_is)
    (case lc_EffectFailed => k_is)
    (case la_EffectFailed => k_is)
    (case v2_EffectFailed => rfl)
    (case fe_EffectFailed => (first | rfl | decide +kernel))
    (case ne_CapacityMismatch_InvalidEffect => k_is)


