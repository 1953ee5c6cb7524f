import PyProof.Rows.All
import Wide.All
import OpenK.AllK
import Wide.FinOn
import KE.KExcLine
import KE.KExcSuper
import KE.KIntText
import HandS.ForMost
import HandS.ForExc
import HandS.ExcInit
import HandS.IsInst
import HandS.StrMore
import HandS.Defaults
import HandS.Wide
import HandS.WordsExc
import HandS.FStr
import HandS.Flow
import HandS.Style
import HandS.Replace
import HandS.ReplaceLit
import HandS.ReplaceDef
import HandS.Ends
import HandS.ReplaceList
import HandS.Conv
import PySem.Challenge.RW_fullqueue_k05_last_letters_put
set_option Elab.async false
set_option linter.all false
set_option maxRecDepth 100000
set_option maxHeartbeats 4000000
section
open PySem PySem.W PyProof.Rows
def My.row : OpenRow := { prog := PySem.Challenge.rw_fullqueue_k05_last_letters_put.prog, name := "is_int", records := [], args := [WShape.int], returns := WShape.bool, pre := WTm.lit (WData.bool true), post := WTm.lit (WData.bool true), raises := [], mutates := [], within := [], unshared := true, same := none, under := { arg := true, old := true, new := true }, after := { arg := true, old := true, new := true }, apart := false, loose := [], pinned := true, writes := false, keeps := [] }
set_option maxHeartbeats 0 in
theorem My.aux : My.row.Holds := by
  w_on
  k_head
  case hw => w_witness2
  case hc => w_strict o_enter
noncomputable def My.K (P : Params) : PySem.W.Frag := [(2, PySem.W.boot_o_2 P), (3, My.aux.o_163 P), (15, My.aux.o_13 P), (22, My.aux.o_20 P), (23, My.aux.o_21 P), (24, My.aux.o_43 P), (25, My.aux.o_23 P), (28, My.aux.o_29 P), (35, My.aux.o_36 P), (36, My.aux.o_37 P), (37, My.aux.o_38 P), (40, My.aux.o_44 P), (47, My.aux.o_51 P), (48, My.aux.o_52 P), (49, My.aux.o_53 P), (52, My.aux.o_56 P), (54, My.aux.o_58 P), (55, My.aux.o_59 P), (57, My.aux.o_61 P), (58, My.aux.o_62 P), (59, My.aux.o_63 P), (61, My.aux.o_65 P), (62, My.aux.o_66 P), (64, My.aux.o_68 P), (65, My.aux.o_69 P), (66, My.aux.o_70 P), (68, My.aux.o_72 P), (69, My.aux.o_73 P), (71, My.aux.o_75 P), (72, My.aux.o_76 P), (73, My.aux.o_79 P), (75, My.aux.o_81 P), (76, My.aux.o_82 P), (78, My.aux.o_84 P), (79, My.aux.o_85 P), (80, My.aux.o_86 P), (82, My.aux.o_88 P), (83, My.aux.o_89 P), (85, My.aux.o_91 P), (86, My.aux.o_92 P), (87, My.aux.o_93 P), (89, My.aux.o_95 P), (90, My.aux.o_96 P), (92, My.aux.o_98 P), (93, My.aux.o_99 P), (94, My.aux.o_100 P), (96, My.aux.o_102 P), (97, My.aux.o_103 P), (99, My.aux.o_105 P), (100, My.aux.o_106 P), (101, My.aux.o_107 P), (103, My.aux.o_109 P), (104, My.aux.o_110 P), (106, My.aux.o_112 P), (107, My.aux.o_113 P), (108, My.aux.o_114 P), (110, My.aux.o_116 P), (111, My.aux.o_117 P), (113, My.aux.o_119 P), (114, My.aux.o_120 P), (115, My.aux.o_121 P), (117, My.aux.o_123 P), (118, My.aux.o_124 P), (120, My.aux.o_126 P), (121, My.aux.o_127 P), (122, My.aux.o_128 P), (124, My.aux.o_130 P), (125, My.aux.o_131 P), (127, My.aux.o_133 P), (128, My.aux.o_134 P), (129, My.aux.o_135 P), (131, My.aux.o_137 P), (132, My.aux.o_138 P), (134, My.aux.o_140 P), (135, My.aux.o_141 P), (136, My.aux.o_142 P), (138, My.aux.o_144 P), (139, My.aux.o_145 P), (141, My.aux.o_147 P), (142, My.aux.o_148 P), (143, My.aux.o_149 P), (145, My.aux.o_151 P), (146, My.aux.o_152 P), (148, My.aux.o_154 P), (149, My.aux.o_155 P), (150, My.aux.o_156 P), (152, My.aux.o_158 P), (153, My.aux.o_159 P), (155, My.aux.o_161 P), (156, My.aux.o_162 P), (157, My.aux.o_165 P), (159, My.aux.o_167 P), (160, My.aux.o_168 P), (162, My.aux.o_170 P), (163, My.aux.o_171 P), (164, My.aux.o_172 P), (166, My.aux.o_174 P), (167, My.aux.o_175 P), (169, My.aux.o_177 P), (170, My.aux.o_178 P), (171, My.aux.o_179 P), (173, My.aux.o_181 P), (174, My.aux.o_182 P), (176, My.aux.o_184 P), (177, My.aux.o_185 P), (178, My.aux.o_186 P), (181, My.aux.o_189 P), (182, My.aux.o_190 P)]
noncomputable abbrev My.hook : Hook := kHook My.K [2, 3, 15, 22, 23, 24, 25, 28, 35, 36, 37, 40, 47, 48, 49, 52, 54, 55, 57, 58, 59, 61, 62, 64, 65, 66, 68, 69, 71, 72, 73, 75, 76, 78, 79, 80, 82, 83, 85, 86, 87, 89, 90, 92, 93, 94, 96, 97, 99, 100, 101, 103, 104, 106, 107, 108, 110, 111, 113, 114, 115, 117, 118, 120, 121, 122, 124, 125, 127, 128, 129, 131, 132, 134, 135, 136, 138, 139, 141, 142, 143, 145, 146, 148, 149, 150, 152, 153, 155, 156, 157, 159, 160, 162, 163, 164, 166, 167, 169, 170, 171, 173, 174, 176, 177, 178, 181, 182] (fun _ => rfl)
theorem My.left : LeftO PySem.Challenge.rw_fullqueue_k05_last_letters_put.row.prog My.aux.view_1 [Str.ofString "MOST_COUNT"] (fun s => xlAt My.aux.view_1 [(Str.ofString "MOST_COUNT", WData.int 1000000000000000000000000000000)] s && recOk PySem.Challenge.rw_fullqueue_k05_last_letters_put.row.records s) (fun s => (My.hook.obs s, Nat.ble 273 s.toks)) (fun w => (My.hook.val w, true)) 100000 :=
  LeftO.of_pieces (boot_open My.aux._proof_4 (of_decide_eq_true rfl) My.aux._proof_5) My.aux._proof_196 My.aux._proof_194 (of_decide_eq_true rfl) fun w => funext fun os => by
    have e := My.aux._proof_228 w os
    have e1 := congrArg Prod.fst e
    have e2 := congrArg (fun x => x.2.1) e
    exact Prod.ext e1 (Prod.ext e2 (Prod.ext rfl rfl))
end

namespace My
open PySem
/-! ### strip of all letters leaves nothing exactly where all signs are letters -/
theorem takeWhile_all {α : Type} {p : α → Bool} : ∀ {l : List α}, l.all p = true → l.takeWhile p = l
  | [], _ => rfl
  | a :: l, h => by
    rw [List.all_cons, Bool.and_eq_true] at h
    rw [List.takeWhile_cons, h.1]
    exact congrArg (a :: ·) (takeWhile_all h.2)
theorem takeWhile_len {α : Type} {p : α → Bool} {l : List α} (h : l.length ≤ (l.takeWhile p).length) : l.all p = true := by
  have e := List.takeWhile_append_dropWhile (p := p) (l := l)
  have hd : (l.dropWhile p).length = 0 := by
    have := congrArg List.length e
    rw [List.length_append] at this
    omega
  have hd' := List.eq_nil_of_length_eq_zero hd
  rw [List.all_eq_true]
  intro x hx
  rw [← e, hd', List.append_nil] at hx
  exact List.all_eq_true.mp List.all_takeWhile x hx
theorem str_ext {x y : Str} (h : x.cps.toList = y.cps.toList) : x = y := by
  obtain ⟨⟨a⟩⟩ := x
  obtain ⟨⟨b⟩⟩ := y
  cases (show a = b from h)
  rfl
theorem strip_none {x : Str} {g : Nat → Bool} (h : x.cps.toList.all g = true) : (Txt.stripBy g true true x).cps.toList = [] := by
  have e := takeWhile_all h
  have lo : stripLo g true x = x.length := by
    show (x.cps.toList.takeWhile g).length = x.cps.size
    rw [e]; simp
  have hi : stripHi g true x x.length = x.length := by
    show x.length - ((x.cps.toList.drop x.cps.size).reverse.takeWhile g).length = x.length
    have : x.cps.toList.drop x.cps.size = [] := by
      rw [List.drop_eq_nil_iff]; simp
    rw [this]; simp
  unfold Txt.stripBy
  split
  · rename_i hs
    unfold stripSame at hs
    rw [lo] at hs
    simp only [Bool.and_eq_true, beq_iff_eq] at hs
    have h0 : x.cps.size = 0 := hs.1
    have : x.cps.toList.length = 0 := by simpa using h0
    exact List.eq_nil_of_length_eq_zero this
  · unfold stripped
    rw [lo, hi]
    show (x.cps.extract x.cps.size x.cps.size).toList = []
    simp
theorem strip_some {x : Str} {g : Nat → Bool} (h : (Txt.stripBy g true true x).cps.toList = []) : x.cps.toList.all g = true := by
  unfold Txt.stripBy at h
  split at h
  · rw [h]; rfl
  · unfold stripped at h
    have h1 : (x.cps.extract (stripLo g true x) (stripHi g true x (stripLo g true x))).toList = [] := h
    have hle : stripHi g true x (stripLo g true x) ≤ stripLo g true x := by
      have h2 : (x.cps.extract (stripLo g true x) (stripHi g true x (stripLo g true x))).size = 0 := by
        rw [← Array.length_toList, h1]; rfl
      rw [Array.size_extract] at h2
      have h3 : stripHi g true x (stripLo g true x) ≤ x.cps.size := Nat.sub_le _ _
      omega
    -- what is left at the end is no more than what stands behind lo
    have hlo : stripLo g true x = (x.cps.toList.takeWhile g).length := rfl
    have hhi : stripHi g true x (stripLo g true x) = x.cps.size - ((x.cps.toList.drop (stripLo g true x)).reverse.takeWhile g).length := rfl
    have hsz : x.cps.toList.length = x.cps.size := Array.length_toList
    have hdl : (x.cps.toList.drop (stripLo g true x)).length = x.cps.size - stripLo g true x := by rw [List.length_drop, hsz]
    have hlo2 : stripLo g true x ≤ x.cps.size := by
      rw [hlo, ← hsz]
      exact (List.takeWhile_sublist _).length_le
    have hle2 : (x.cps.toList.drop (stripLo g true x)).reverse.length ≤ ((x.cps.toList.drop (stripLo g true x)).reverse.takeWhile g).length := by
      rw [List.length_reverse, hdl]
      omega
    have h4 := takeWhile_len hle2
    rw [List.all_reverse] at h4
    -- the rest behind the first stretch holds g everywhere, so the stretch is the whole
    have e := List.takeWhile_append_dropWhile (p := g) (l := x.cps.toList)
    have h5 : x.cps.toList.drop (stripLo g true x) = x.cps.toList.dropWhile g := by
      have : x.cps.toList.drop (x.cps.toList.takeWhile g).length = x.cps.toList.dropWhile g := by
        conv => lhs; rw [← e]
        rw [e]
        have := List.drop_left (l₁ := x.cps.toList.takeWhile g) (l₂ := x.cps.toList.dropWhile g)
        rw [e] at this
        exact this
      exact this
    rw [h5] at h4
    rw [← e, List.all_append, h4]
    have : (x.cps.toList.takeWhile g).all g = true := List.all_takeWhile
    rw [this]; rfl
def letters : Str := "abcdefghijklmnopqrstuvwxyz"
def isLet (c : Nat) : Bool := decide (97 ≤ c) && decide (c ≤ 122)
def lettersOnly (s : Str) : Bool := s.cps.toList.all isLet
theorem letters_has (c : Nat) : letters.cps.contains c = isLet c := by
  have e : letters.cps = #[97,98,99,100,101,102,103,104,105,106,107,108,109,110,111,112,113,114,115,116,117,118,119,120,121,122] := by decide +kernel
  rw [e, Bool.eq_iff_iff, Array.contains_iff_mem]
  unfold isLet
  simp only [List.mem_toArray, List.mem_cons, List.not_mem_nil, or_false, Bool.and_eq_true, decide_eq_true_eq]
  omega
theorem goes_is : letters.cps.contains = isLet := funext letters_has
theorem strip_is (s : Str) : decide (Txt.stripChars s letters = ("" : Str)) = lettersOnly s := by
  unfold Txt.stripChars lettersOnly
  rw [goes_is]
  by_cases h : s.cps.toList.all isLet = true
  · rw [h, decide_eq_true_eq]
    exact str_ext (by rw [strip_none h]; decide +kernel)
  · have h' : s.cps.toList.all isLet = false := by simpa using h
    rw [h', decide_eq_false_iff_not]
    intro e
    apply h
    apply strip_some
    rw [e]
    decide +kernel
end My

/-! ### programs: trees, what they stand for, how their texts are read -/
namespace My
open PySem PySem.NumText
def isStep (c : Nat) : Bool := isLet c || decide (c = 45)
def isDig (c : Nat) : Bool := decide (48 ≤ c) && decide (c ≤ 57)
def digs (n : Nat) : List Nat := (Nat.toDigits 10 n).map Char.toNat
def rcount (ds : List Nat) : Option Nat :=
  if ds.length = 0 ∨ 31 < ds.length then none else if digitsVal ds ≤ 10 ^ 30 ∧ digs (digitsVal ds) = ds then some (digitsVal ds) else none
inductive Parts where
  | nil
  | seq (s : List Nat) (r : Parts)
  | rep (b : Parts) (n : Nat) (r : Parts)
namespace Parts
def den : Parts → List Nat
  | nil => []
  | seq s r => s ++ den r
  | rep b n r => (List.replicate n (den b)).flatten ++ den r
def dep : Parts → Nat
  | nil => 0
  | seq _ r => dep r
  | rep b _ r => max (dep b + 1) (dep r)
def app : Parts → Parts → Parts
  | nil, q => q
  | seq s r, q => seq s (app r q)
  | rep b n r, q => rep b n (app r q)
/-- every sequence holds at least one step, steps alone; every count is at most 10 ** 30 -/
def ok : Parts → Prop
  | nil => True
  | seq s r => s ≠ [] ∧ s.all isStep = true ∧ ok r
  | rep b n r => ok b ∧ n ≤ 10 ^ 30 ∧ ok r
/-- the signs of all sequences together -/
def vol : Parts → Nat
  | nil => 0
  | seq s r => s.length + vol r
  | rep b _ r => vol b + vol r
theorem den_app : ∀ p q : Parts, (app p q).den = p.den ++ q.den
  | nil, q => rfl
  | seq s r, q => by rw [app, den, den, den_app r q, List.append_assoc]
  | rep b n r, q => by rw [app, den, den, den_app r q, List.append_assoc]
theorem dep_app : ∀ p q : Parts, (app p q).dep = max p.dep q.dep
  | nil, q => by rw [app, dep]; omega
  | seq s r, q => by rw [app, dep, dep, dep_app r q]
  | rep b n r, q => by rw [app, dep, dep, dep_app r q]; omega
theorem ok_app : ∀ {p q : Parts}, p.ok → q.ok → (app p q).ok
  | nil, _, _, h => h
  | seq _ _, _, ⟨h1, h2, h3⟩, h => ⟨h1, h2, ok_app h3 h⟩
  | rep _ _ _, _, ⟨h1, h2, h3⟩, h => ⟨h1, h2, ok_app h3 h⟩
theorem vol_app : ∀ p q : Parts, (app p q).vol = p.vol + q.vol
  | nil, q => by rw [app, vol]; omega
  | seq s r, q => by rw [app, vol, vol, vol_app r q]; omega
  | rep b n r, q => by rw [app, vol, vol, vol_app r q]; omega
theorem app_nil : ∀ p : Parts, app p nil = p
  | nil => rfl
  | seq s r => by rw [app, app_nil r]
  | rep b n r => by rw [app, app_nil r]
end Parts
open Parts
theorem len_frep (l : List Nat) (k : Nat) : (List.replicate k l).flatten.length = k * l.length := by
  induction k with
  | zero => simp
  | succ k ih => rw [List.replicate_succ, List.flatten_cons, List.length_append, ih, Nat.succ_mul]; omega
theorem den_le : ∀ {p : Parts}, p.ok → p.den.length ≤ p.vol * 2 ^ (100 * p.dep)
  | .nil, _ => Nat.zero_le _
  | .seq s r, h => by
    have h1 := den_le h.2.2
    rw [den, List.length_append, vol, dep, Nat.add_mul]
    have h2 : s.length * 1 ≤ s.length * 2 ^ (100 * r.dep) := Nat.mul_le_mul_left _ (Nat.one_le_two_pow)
    omega
  | .rep b n r, h => by
    have h1 := den_le h.1
    have h2 := den_le h.2.2
    rw [den, List.length_append, vol, dep, Nat.add_mul, len_frep]
    have e : n ≤ 2 ^ 100 := Nat.le_trans h.2.1 (by decide)
    have g1 : n * b.den.length ≤ b.vol * 2 ^ (100 * max (b.dep + 1) r.dep) := by
      calc n * b.den.length ≤ 2 ^ 100 * (b.vol * 2 ^ (100 * b.dep)) := Nat.mul_le_mul e h1
        _ = b.vol * 2 ^ (100 * (b.dep + 1)) := by rw [Nat.mul_left_comm, ← Nat.pow_add, Nat.mul_add, Nat.mul_one, Nat.add_comm 100]
        _ ≤ _ := Nat.mul_le_mul_left _ (Nat.pow_le_pow_right (by decide) (by omega))
    have g2 : r.vol * 2 ^ (100 * r.dep) ≤ r.vol * 2 ^ (100 * max (b.dep + 1) r.dep) := Nat.mul_le_mul_left _ (Nat.pow_le_pow_right (by decide) (by omega))
    omega
theorem den_lt {p : Parts} (h : p.ok) (hv : p.vol ≤ 100000) {d : Nat} (hd : p.dep ≤ d) : p.den.length < 2 ^ (17 + 100 * d) := by
  refine Nat.lt_of_le_of_lt (den_le h) ?_
  rw [Nat.pow_add]
  exact Nat.mul_lt_mul_of_lt_of_le (Nat.lt_of_le_of_lt hv (by decide)) (Nat.pow_le_pow_right (by decide) (by omega)) (Nat.two_pow_pos _)
/-- one turn of the reader: the open lists (the innermost first), the list at hand, what is left -/
def stp (os : List Parts) (ps : Parts) (c : Nat) (r : List Nat) : Option (List Parts × Parts × List Nat) :=
  if c = 40 then (if os.length + 1 ≤ 20 then some (ps :: os, nil, r) else none)
  else if c = 41 then
    match rcount (r.takeWhile isDig), os with
    | some n, o :: os' => if os'.length ≤ 20 then some (os', app o (rep ps n nil), r.dropWhile isDig) else none
    | _, _ => none
  else if isStep c then (if os.length ≤ 20 then some (os, app ps (seq ((c :: r).takeWhile isStep) nil), (c :: r).dropWhile isStep) else none) else none
def rpF : Nat → List Parts → Parts → List Nat → Option Parts
  | 0, _, _, _ => none
  | _ + 1, os, ps, [] => if os.length = 0 then some ps else none
  | k + 1, os, ps, c :: r => match stp os ps c r with
    | none => none
    | some (os', ps', r') => rpF k os' ps' r'
def rpt (t : List Nat) : Option Parts := rpF (t.length + 1) [] nil t
theorem len_dropWhile (p : Nat → Bool) : ∀ l : List Nat, (l.dropWhile p).length ≤ l.length
  | [] => Nat.le_refl _
  | a :: l => by
    rw [List.dropWhile_cons]
    have := len_dropWhile p l
    split
    · rw [List.length_cons]; omega
    · exact Nat.le_refl _
theorem stp_less {os ps c r os' ps' r'} (h : stp os ps c r = some (os', ps', r')) : r'.length ≤ r.length := by
  unfold stp at h
  have d1 := len_dropWhile isDig r
  have d2 := len_dropWhile isStep r
  split at h
  · split at h
    · simp only [Option.some.injEq, Prod.mk.injEq] at h; rw [← h.2.2]; exact Nat.le_refl _
    · cases h
  · split at h
    · split at h
      · split at h
        · simp only [Option.some.injEq, Prod.mk.injEq] at h; rw [← h.2.2]; exact d1
        · cases h
      · cases h
    · split at h
      · rename_i hc
        split at h
        · simp only [Option.some.injEq, Prod.mk.injEq] at h; rw [← h.2.2, List.dropWhile_cons, if_pos hc]; exact d2
        · cases h
      · cases h
/-- how deep what is read may be -/
def deeps : List Parts → Prop
  | [] => True
  | o :: os => o.dep + os.length ≤ 20 ∧ o.ok ∧ deeps os
theorem all_takeWhile' (p : Nat → Bool) (l : List Nat) : (l.takeWhile p).all p = true := List.all_takeWhile
theorem rcount_le {ds : List Nat} {n : Nat} (h : rcount ds = some n) : n ≤ 10 ^ 30 := by
  unfold rcount at h
  split at h
  · cases h
  · split at h
    · rename_i h2
      simp only [Option.some.injEq] at h
      omega
    · cases h
theorem stp_deep {os ps c r os' ps' r'} (h : stp os ps c r = some (os', ps', r')) (h1 : deeps os) (h2 : ps.dep + os.length ≤ 20) (h3 : ps.ok) : deeps os' ∧ ps'.dep + os'.length ≤ 20 ∧ ps'.ok := by
  unfold stp at h
  split at h
  · split at h
    · rename_i h20
      simp only [Option.some.injEq, Prod.mk.injEq] at h
      obtain ⟨rfl, rfl, _⟩ := h
      refine ⟨⟨h2, h3, h1⟩, ?_, trivial⟩
      rw [dep, List.length_cons]; omega
    · cases h
  · split at h
    · split at h
      · rename_i n o os2 hn
        split at h
        · simp only [Option.some.injEq, Prod.mk.injEq] at h
          obtain ⟨rfl, rfl, _⟩ := h
          obtain ⟨g1, g2, g3⟩ := h1
          rw [List.length_cons] at h2
          refine ⟨g3, ?_, ok_app g2 ⟨h3, rcount_le hn, trivial⟩⟩
          rw [dep_app, dep, dep]; omega
        · cases h
      · cases h
    · split at h
      · rename_i hc
        split at h
        · simp only [Option.some.injEq, Prod.mk.injEq] at h
          obtain ⟨rfl, rfl, _⟩ := h
          refine ⟨h1, ?_, ok_app h3 ⟨?_, all_takeWhile' _ _, trivial⟩⟩
          · rw [dep_app, dep, dep]; omega
          · rw [List.takeWhile_cons, if_pos hc]; simp
        · cases h
      · cases h
theorem rpF_deep : ∀ {k os ps r q}, rpF k os ps r = some q → deeps os → ps.dep + os.length ≤ 20 → ps.ok → q.dep ≤ 20 ∧ q.ok
  | 0, _, _, _, _, h, _, _, _ => by cases h
  | _ + 1, os, ps, [], q, h, _, h2, h3 => by
    rw [rpF] at h
    split at h
    · cases h; exact ⟨by omega, h3⟩
    · cases h
  | k + 1, os, ps, c :: r, q, h, h1, h2, h3 => by
    rw [rpF] at h
    split at h
    · cases h
    · rename_i os' ps' r' e
      obtain ⟨g1, g2, g3⟩ := stp_deep e h1 h2 h3
      exact rpF_deep h g1 g2 g3
theorem rpt_deep {t : List Nat} {q : Parts} (h : rpt t = some q) : q.dep ≤ 20 ∧ q.ok := rpF_deep h trivial (by simp [dep]) trivial
/-! ### numbers in digits -/
theorem digs_dig (n : Nat) : (digs n).all isDig = true := by
  rw [List.all_eq_true]
  intro c hc
  obtain ⟨ch, hch, e⟩ := List.mem_map.mp hc
  have r := PyProof.Rows.digit_range (Nat.isDigit_of_mem_toDigits (by decide) (by decide) hch)
  rw [← e]
  simp only [isDig, Bool.and_eq_true, decide_eq_true_eq]
  exact r
theorem digs_ne (n : Nat) : digs n ≠ [] := by
  intro e
  have h := toDigits_len_ge 10 n
  rw [List.map_eq_nil_iff.mp e] at h
  exact absurd h (by decide)
theorem digs_val (n : Nat) : digitsVal (digs n) = n := PySem.W.KIN.val_back n
theorem digs_lt {n k : Nat} (hk : 0 < k) (h : n < 10 ^ k) : (digs n).length ≤ k := by
  unfold digs
  rw [List.length_map]
  exact (Nat.length_toDigits_le_iff (by decide) hk).mpr h
theorem rcount_digs {n : Nat} (h : n ≤ 10 ^ 30) : rcount (digs n) = some n := by
  unfold rcount
  have h1 : (digs n).length ≤ 31 := digs_lt (by decide) (Nat.lt_of_le_of_lt h (by decide))
  have h0 : (digs n).length ≠ 0 := fun e => digs_ne n (List.eq_nil_of_length_eq_zero e)
  rw [if_neg (by omega), digs_val, if_pos ⟨h, rfl⟩]
/-! ### texts by their grammar -/
inductive Pr : Nat → List Nat → List Nat → Prop where
  | nil (d : Nat) : Pr d [] []
  | step {d c t f} : isStep c = true → Pr d t f → Pr d (c :: t) (c :: f)
  | rep {d n ti fi t f} : Pr d ti fi → n ≤ 10 ^ 30 → Pr (d + 1) t f → Pr (d + 1) (40 :: (ti ++ 41 :: (digs n ++ t))) ((List.replicate n fi).flatten ++ f)
theorem Pr.mono {d t f} (h : Pr d t f) : ∀ {e}, d ≤ e → Pr e t f := by
  induction h with
  | nil d => exact fun _ => .nil _
  | step hc _ ih => exact fun he => .step hc (ih he)
  | rep h1 hn h2 ih1 ih2 =>
    intro e he
    cases e with
    | zero => omega
    | succ e => exact .rep (ih1 (by omega)) hn (ih2 (by omega))
theorem Pr.app {d t f} (h : Pr d t f) {t' f'} (h' : Pr d t' f') : Pr d (t ++ t') (f ++ f') := by
  induction h with
  | nil d => exact h'
  | step hc _ ih => exact .step hc (ih h')
  | rep h1 hn h2 ih1 ih2 =>
    have := Pr.rep h1 hn (ih2 h')
    rw [← List.append_assoc] at this
    simpa [List.append_assoc] using this
theorem Pr.one {d n ti fi} (h : Pr d ti fi) (hn : n ≤ 10 ^ 30) : Pr (d + 1) (40 :: (ti ++ 41 :: digs n)) (List.replicate n fi).flatten := by
  have := Pr.rep h hn (.nil (d + 1))
  simpa using this
theorem Pr.steps {d : Nat} : ∀ {s : List Nat}, s.all isStep = true → Pr d s s
  | [], _ => .nil d
  | c :: s, h => by
    rw [List.all_cons, Bool.and_eq_true] at h
    exact .step h.1 (Pr.steps h.2)
theorem Pr.fsteps {d t f} (h : Pr d t f) : f.all isStep = true := by
  induction h with
  | nil d => rfl
  | step hc _ ih => rw [List.all_cons, hc, ih]; rfl
  | rep h1 hn h2 ih1 ih2 =>
    rw [List.all_append, ih2, Bool.and_true, List.all_eq_true]
    intro c hc
    obtain ⟨l, hl, hcl⟩ := List.mem_flatten.mp hc
    rw [(List.mem_replicate.mp hl).2] at hcl
    exact List.all_eq_true.mp ih1 c hcl
theorem Pr.run {d t f} (h : Pr d t f) : ∃ g, f = t.takeWhile isStep ++ g ∧ Pr d (t.dropWhile isStep) g := by
  induction h with
  | nil d => exact ⟨[], rfl, .nil d⟩
  | step hc _ ih =>
    obtain ⟨g, e, h⟩ := ih
    rw [List.takeWhile_cons, if_pos hc, List.dropWhile_cons, if_pos hc]
    exact ⟨g, by rw [List.cons_append, ← e], h⟩
  | @rep d n ti fi t f h1 hn h2 ih1 ih2 =>
    have e : isStep 40 = false := by decide
    rw [List.takeWhile_cons, if_neg (by rw [e]; decide), List.dropWhile_cons, if_neg (by rw [e]; decide)]
    exact ⟨_, rfl, .rep h1 hn h2⟩
theorem Pr.head {d t f} (h : Pr d t f) : t = [] ∨ (∃ c r, t = c :: r ∧ isStep c = true) ∨ ∃ r, t = 40 :: r := by
  cases h with
  | nil d => exact .inl rfl
  | step hc _ => exact .inr (.inl ⟨_, _, rfl, hc⟩)
  | rep _ _ _ => exact .inr (.inr ⟨_, rfl⟩)
theorem takeWhile_stop {p : Nat → Bool} {l r : List Nat} (hl : l.all p = true) (hr : r = [] ∨ ∃ c r', r = c :: r' ∧ p c = false) : (l ++ r).takeWhile p = l ∧ (l ++ r).dropWhile p = r := by
  induction l with
  | nil =>
    rcases hr with rfl | ⟨c, r', rfl, hc⟩
    · exact ⟨rfl, rfl⟩
    · rw [List.nil_append, List.takeWhile_cons, if_neg (by rw [hc]; decide), List.dropWhile_cons, if_neg (by rw [hc]; decide)]
      exact ⟨rfl, rfl⟩
  | cons a l ih =>
    rw [List.all_cons, Bool.and_eq_true] at hl
    obtain ⟨h1, h2⟩ := ih hl.2
    rw [List.cons_append, List.takeWhile_cons, if_pos hl.1, List.dropWhile_cons, if_pos hl.1, h1, h2]
    exact ⟨rfl, rfl⟩
theorem takeWhile_app {p : Nat → Bool} {r : List Nat} (hr : r = [] ∨ ∃ c r', r = c :: r' ∧ p c = false) : ∀ l : List Nat, (l ++ r).takeWhile p = l.takeWhile p ∧ (l ++ r).dropWhile p = l.dropWhile p ++ r
  | [] => by
    rcases hr with rfl | ⟨c, r', rfl, hc⟩
    · exact ⟨rfl, rfl⟩
    · rw [List.nil_append, List.takeWhile_cons, if_neg (by rw [hc]; decide), List.dropWhile_cons, if_neg (by rw [hc]; decide)]
      exact ⟨rfl, rfl⟩
  | a :: l => by
    obtain ⟨h1, h2⟩ := takeWhile_app hr l
    rw [List.cons_append, List.takeWhile_cons, List.dropWhile_cons, List.takeWhile_cons, List.dropWhile_cons]
    split
    · rw [h1, h2]; exact ⟨rfl, rfl⟩
    · exact ⟨rfl, rfl⟩
theorem dropWhile_len {p : Nat → Bool} {c : Nat} {l : List Nat} (h : p c = true) : ((c :: l).dropWhile p).length < (c :: l).length := by
  rw [List.dropWhile_cons, if_pos h, List.length_cons]
  have := len_dropWhile p l
  omega
theorem rp_of : ∀ (m : Nat) {d t f}, t.length ≤ m → Pr d t f → ∀ (os : List Parts) (ps : Parts) (rest : List Nat) (k : Nat), os.length + d ≤ 20 → (rest = [] ∨ ∃ r, rest = 41 :: r) → (t ++ rest).length < k →
    ∃ ps' k', rest.length < k' ∧ rpF k os ps (t ++ rest) = rpF k' os ps' rest ∧ ps'.den = ps.den ++ f ∧ ps'.dep ≤ max ps.dep d ∧ ps'.vol ≤ ps.vol + t.length
  | m, d, t, f, hm, h, os, ps, rest, k, hd, hr, hk => by
    rcases h.head with e | ⟨c, r, e, hc⟩ | ⟨r, e⟩
    · subst e
      cases h
      exact ⟨ps, k, hk, rfl, by rw [List.append_nil], by omega, by omega⟩
    · cases m with
      | zero => rw [e, List.length_cons] at hm; omega
      | succ m =>
        obtain ⟨g, ef, h'⟩ := h.run
        have hrs : rest = [] ∨ ∃ c r', rest = c :: r' ∧ isStep c = false := by
          rcases hr with hr | ⟨r', hr⟩
          · exact .inl hr
          · exact .inr ⟨41, r', hr, by decide⟩
        obtain ⟨e1, e2⟩ := takeWhile_app hrs t
        have hlt := dropWhile_len (p := isStep) (c := c) (l := r) hc
        rw [← e] at hlt
        have hsum : (t.takeWhile isStep).length + (t.dropWhile isStep).length = t.length := by
          rw [← List.length_append, List.takeWhile_append_dropWhile]
        cases k with
        | zero => omega
        | succ k =>
          have e40 : c ≠ 40 := fun z => by rw [z] at hc; revert hc; decide
          have e41 : c ≠ 41 := fun z => by rw [z] at hc; revert hc; decide
          have es : rpF (k + 1) os ps (t ++ rest) = rpF k os (app ps (seq (t.takeWhile isStep) nil)) (t.dropWhile isStep ++ rest) := by
            rw [← e1, ← e2]
            conv => lhs; rw [e, List.cons_append, rpF]
            unfold stp
            rw [if_neg e40, if_neg e41, if_pos hc, if_pos (by omega)]
            rw [e, List.cons_append]
          rw [List.length_append] at hk
          obtain ⟨ps', k', g1, g2, g3, g4, g5⟩ := rp_of m (by omega) h' os (app ps (seq (t.takeWhile isStep) nil)) rest k hd hr (by rw [List.length_append]; omega)
          refine ⟨ps', k', g1, es.trans g2, ?_, ?_, ?_⟩
          · rw [g3, den_app, den, den, ef, List.append_nil, List.append_assoc]
          · rw [dep_app, dep, dep] at g4; omega
          · rw [vol_app, vol, vol] at g5; omega
    · cases m with
      | zero => rw [e, List.length_cons] at hm; omega
      | succ m =>
        generalize ht : t = t0 at h
        cases h with
        | nil => subst ht; cases e
        | @step d c t1 f1 hc h1 =>
          rw [ht] at e
          injection e with e1 e2
          rw [e1] at hc
          exact absurd hc (by decide)
        | @rep d n ti fi t2 f2 h1 hn h2 =>
          subst ht
          clear e r
          rw [List.length_cons, List.length_append, List.length_cons, List.length_append] at hm
          have hk2 : (40 :: (ti ++ 41 :: (digs n ++ (t2 ++ rest)))).length < k := by
            have : 40 :: (ti ++ 41 :: (digs n ++ t2)) ++ rest = 40 :: (ti ++ 41 :: (digs n ++ (t2 ++ rest))) := by simp [List.append_assoc]
            rw [← this]; exact hk
          have eq0 : 40 :: (ti ++ 41 :: (digs n ++ t2)) ++ rest = 40 :: (ti ++ 41 :: (digs n ++ (t2 ++ rest))) := by simp [List.append_assoc]
          rw [eq0]
          cases k with
          | zero => omega
          | succ k =>
            rw [List.length_cons] at hk2
            have es1 : rpF (k + 1) os ps (40 :: (ti ++ 41 :: (digs n ++ (t2 ++ rest)))) = rpF k (ps :: os) nil (ti ++ 41 :: (digs n ++ (t2 ++ rest))) := by
              rw [rpF]
              unfold stp
              rw [if_pos rfl, if_pos (by omega)]
            obtain ⟨pi, k1, g1, g2, g3, g4, g5⟩ := rp_of m (by omega) h1 (ps :: os) nil (41 :: (digs n ++ (t2 ++ rest))) k (by rw [List.length_cons]; omega) (.inr ⟨_, rfl⟩) (by omega)
            cases k1 with
            | zero => omega
            | succ k1 =>
              have hnd : t2 ++ rest = [] ∨ ∃ c r', t2 ++ rest = c :: r' ∧ isDig c = false := by
                rcases h2.head with e | ⟨c, r, e, hc⟩ | ⟨r, e⟩
                · subst e
                  rcases hr with hr | ⟨r', hr⟩
                  · exact .inl (by rw [hr]; rfl)
                  · exact .inr ⟨41, r', by rw [hr]; rfl, by decide⟩
                · refine .inr ⟨c, r ++ rest, by rw [e]; rfl, ?_⟩
                  simp only [isStep, isLet, Bool.or_eq_true, Bool.and_eq_true, decide_eq_true_eq] at hc
                  simp only [isDig, Bool.and_eq_false_iff, decide_eq_false_iff_not]
                  omega
                · exact .inr ⟨40, r ++ rest, by rw [e]; rfl, by decide⟩
              obtain ⟨e1, e2⟩ := takeWhile_stop (digs_dig n) hnd
              have es2 : rpF (k1 + 1) (ps :: os) pi (41 :: (digs n ++ (t2 ++ rest))) = rpF k1 os (app ps (Parts.rep pi n nil)) (t2 ++ rest) := by
                rw [rpF]
                unfold stp
                rw [if_neg (by decide), if_pos rfl, e1, e2, rcount_digs hn]
                simp only
                rw [if_pos (by omega)]
              rw [List.length_cons, List.length_append] at g1
              obtain ⟨ps', k', f1, f2, f3, f4, f5⟩ := rp_of m (by omega) h2 os (app ps (Parts.rep pi n nil)) rest k1 hd hr (by omega)
              refine ⟨ps', k', f1, es1.trans (g2.trans (es2.trans f2)), ?_, ?_, ?_⟩
              · rw [f3, den_app, den, den, g3, den, List.nil_append, List.append_nil, List.append_assoc]
              · rw [dep_app, dep, dep] at f4; rw [dep] at g4; omega
              · rw [vol_app, vol, vol] at f5; rw [vol] at g5
                rw [List.length_cons, List.length_append, List.length_cons, List.length_append]
                omega
theorem rpt_of {d t f} (h : Pr d t f) (hd : d ≤ 20) : ∃ ps, rpt t = some ps ∧ ps.den = f ∧ ps.dep ≤ d ∧ ps.vol ≤ t.length ∧ ps.ok := by
  obtain ⟨ps, k, h1, h2, h3, h4, h5⟩ := rp_of t.length (Nat.le_refl _) h [] nil [] (t.length + 1) (by simpa using hd) (.inl rfl) (by simp)
  rw [List.append_nil] at h2
  cases k with
  | zero => cases h1
  | succ k =>
    have e : rpt t = some ps := by
      unfold rpt
      rw [h2, rpF]
      rfl
    refine ⟨ps, e, h3, by rw [dep] at h4; omega, by rw [vol] at h5; omega, (rpt_deep e).2⟩
end My

namespace My
open PySem L2 TL
/-! ### words -/
theorem exm_self {K : PySem.W.Frag} {S : Addr} (h1 : PySem.W.subIn K (.ref S) (.type "BaseException") = some true) (h2 : PySem.W.isClsIn K S = true) (h3 : PySem.W.typeIn K (.ref S) = some (.type "type")) (h4 : PySem.W.subIn K (.ref S) (.ref S) = some true) :
    PySem.W.exmOne K (.ref S) (.ref S) = some true := by
  have e1 : (PySem.W.subIn K (.ref S) (.type "BaseException") == some true) = true := by rw [h1] <;> rfl
  have e2 : ((PySem.W.clsIn K S).isSome && PySem.W.typeIn K (.ref S) == some (.type "type")) = true := by
    have h2' : (PySem.W.clsIn K S).isSome = true := h2
    rw [h2', h3] <;> rfl
  show (if (PySem.W.subIn K (.ref S) (.type "BaseException") == some true) = true then (if ((PySem.W.clsIn K S).isSome && PySem.W.typeIn K (.ref S) == some (.type "type")) = true then PySem.W.subIn K (.ref S) (.ref S) else none) else none) = some true
  rw [if_pos e1, if_pos e2]
  exact h4
/-- no exception is wished: none comes -/
theorem passN {X : Cx} : Passes (L2.CX X.prog X.w) X E0 := fun _ _ _ _ _ _ _ h => by
  obtain ⟨_, _, _, _, _, _, _, _, _, _, _, _, _, z⟩ := h
theorem cx_K {CX : CXT} {P : Program} {w : World} {K : PySem.W.Frag} {mg : Str → Option Value} {base : Heap} {N : List Str} {qual : Str} {scope : Scope} {f : Addr} {cd : Value} {A : Around} {outer : List Env} {s : Shared} {H : Hp} {E : XK} : (cxOf CX P w K mg base N qual scope f cd A outer s H E).K = K := rfl
theorem nox_K {X : Cx} : X.nox.K = X.K := rfl
theorem ite_t {α : Sort _} {a b : α} : (if true = true then a else b) = a := if_pos rfl
theorem ite_f {α : Sort _} {a b : α} : (if false = true then a else b) = b := if_neg Bool.false_ne_true
/-- a value of a known kind -/
inductive Kd (K : PySem.W.Frag) (H : Hp) : V → Prop where
  | non : Kd K H .non
  | bl (b : Bool) : Kd K H (.bl b)
  | int (i : Int) : Kd K H (.int i)
  | str (s : Str) (h : s.length ≤ 100000) : Kd K H (.str s)
  | ref {a : Addr} {n : String} (h : TyX K H (.ref a) (.type n)) (hn : n = "list" ∨ n = "tuple" ∨ n = "dict") : Kd K H (.ref a)
def tInt : V → Bool | .int _ => true | .bl _ => true | _ => false
def tBool : V → Bool | .bl _ => true | _ => false
def tStr : V → Bool | .str _ => true | _ => false
theorem isi_of {K : PySem.W.Frag} {H : Hp} {x : V} {T : String} {b : Bool} {Q : VK} (z : ∃ t, TyX K H x t ∧ PySem.W.kitOne K t (.type T) = some b) (q : Q (.bl b) H) : rIsi K [x, .ty T] H Q := by
  obtain ⟨t, h1, h2⟩ := z
  exact ⟨x, .ty T, t, _, _, rfl, .ty T, h1, h2, q⟩
theorem isi_int {K : PySem.W.Frag} {H : Hp} {x : V} {Q : VK} (k : Kd K H x) (q : Q (.bl (tInt x)) H) : rIsi K [x, .ty "int"] H Q := by
  refine isi_of ?_ q
  cases k with
  | non => exact ⟨_, .base .non, show _ = some false from kit_ty (by decide +kernel)⟩
  | bl b => exact ⟨_, .base (.bl b), show _ = some true from kit_ty (by decide +kernel)⟩
  | int b => exact ⟨_, .base (.int b), show _ = some true from kit_ty (by decide +kernel)⟩
  | str b => exact ⟨_, .base (.str b), show _ = some false from kit_ty (by decide +kernel)⟩
  | ref h hn => rcases hn with rfl | rfl | rfl <;> exact ⟨_, h, show _ = some false from kit_ty (by decide +kernel)⟩
theorem isi_bool {K : PySem.W.Frag} {H : Hp} {x : V} {Q : VK} (k : Kd K H x) (q : Q (.bl (tBool x)) H) : rIsi K [x, .ty "bool"] H Q := by
  refine isi_of ?_ q
  cases k with
  | non => exact ⟨_, .base .non, show _ = some false from kit_ty (by decide +kernel)⟩
  | bl b => exact ⟨_, .base (.bl b), show _ = some true from kit_ty (by decide +kernel)⟩
  | int b => exact ⟨_, .base (.int b), show _ = some false from kit_ty (by decide +kernel)⟩
  | str b => exact ⟨_, .base (.str b), show _ = some false from kit_ty (by decide +kernel)⟩
  | ref h hn => rcases hn with rfl | rfl | rfl <;> exact ⟨_, h, show _ = some false from kit_ty (by decide +kernel)⟩
theorem isi_str {K : PySem.W.Frag} {H : Hp} {x : V} {Q : VK} (k : Kd K H x) (q : Q (.bl (tStr x)) H) : rIsi K [x, .ty "str"] H Q := by
  refine isi_of ?_ q
  cases k with
  | non => exact ⟨_, .base .non, show _ = some false from kit_ty (by decide +kernel)⟩
  | bl b => exact ⟨_, .base (.bl b), show _ = some false from kit_ty (by decide +kernel)⟩
  | int b => exact ⟨_, .base (.int b), show _ = some false from kit_ty (by decide +kernel)⟩
  | str b => exact ⟨_, .base (.str b), show _ = some true from kit_ty (by decide +kernel)⟩
  | ref h hn => rcases hn with rfl | rfl | rfl <;> exact ⟨_, h, show _ = some false from kit_ty (by decide +kernel)⟩

/-! ### flat lists compared -/
def flatD : V → PyData
  | .bl b => .bool b
  | .int i => .int i
  | .str s => .str s
  | _ => .none
def okF : V → Bool
  | .str s => PyData.strOk s
  | .non => true
  | .bl _ => true
  | .int _ => true
  | _ => false
theorem dp_flat {K : PySem.W.Frag} {H : Hp} {v : V} (h : okF v = true) : Dp K H v (flatD v) := by
  cases v with
  | non => exact .non
  | bl b => exact .bl b
  | int i => exact .int i
  | str s => exact .str s
  | _ => cases h
theorem dp_all {K : PySem.W.Frag} {H : Hp} : ∀ {xs : List V}, xs.all okF = true → DpAll K H xs (xs.map flatD)
  | [], _ => .nil
  | x :: xs, h => by
    rw [List.all_cons, Bool.and_eq_true] at h
    exact .cons (dp_flat h.1) (dp_all h.2)
theorem dp_list {K : PySem.W.Frag} {H : Hp} {a : Addr} {xs : List V} (h : SqL K H a xs) (hx : xs.all okF = true) : Dp K H (.ref a) (.list (xs.map flatD)) := .lst h (dp_all hx)
theorem lay_flat : ∀ {xs : List V}, xs.all okF = true → PyData.canLayAll0 (xs.map flatD) = true ∧ PyData.depthAll (xs.map flatD) = 0
  | [], _ => ⟨by simp [PyData.canLayAll0], by simp [PyData.depthAll]⟩
  | x :: xs, h => by
    rw [List.all_cons, Bool.and_eq_true] at h
    obtain ⟨h1, h2⟩ := lay_flat h.2
    rw [List.map_cons]
    have e1 : PyData.canLay0 (flatD x) = true ∧ PyData.depth (flatD x) = 0 := by
      cases x with
      | str s => exact ⟨by rw [flatD, PyData.canLay0]; exact h.1, by simp [flatD, PyData.depth]⟩
      | _ => first | exact ⟨by simp [flatD, PyData.canLay0], by simp [flatD, PyData.depth]⟩ | cases h.1
    exact ⟨by rw [PyData.canLayAll0, e1.1, h1]; rfl, by rw [PyData.depthAll, e1.2, h2]; rfl⟩
theorem shaped_flat {xs : List V} (h : xs.all okF = true) : SeqAt.shaped (.list (xs.map flatD)) = true := by
  obtain ⟨h1, h2⟩ := lay_flat h
  unfold SeqAt.shaped
  rw [PyData.canLay0, h1, PyData.depth, h2]
  rfl
def eqL (xs ys : List V) : Bool := PyData.eqvAll (xs.map flatD) (ys.map flatD)
theorem ne_lists {K : PySem.W.Frag} {H : Hp} {a b : Addr} {xs ys : List V} {Q : VK} (ha : SqL K H a xs) (hb : SqL K H b ys) (hx : xs.all okF = true) (hy : ys.all okF = true) (q : Q (.bl (!eqL xs ys)) H) : rNeD K (.ref a) (.ref b) H Q :=
  ⟨_, _, dp_list ha hx, dp_list hb hy, shaped_flat hx, shaped_flat hy, by
    show Q (.bl (!PyData.eqv (.list (xs.map flatD)) (.list (ys.map flatD)))) H
    rw [PyData.eqv]
    exact q⟩
theorem eq_lists {K : PySem.W.Frag} {H : Hp} {a b : Addr} {xs ys : List V} {Q : VK} (ha : SqL K H a xs) (hb : SqL K H b ys) (hx : xs.all okF = true) (hy : ys.all okF = true) (q : Q (.bl (eqL xs ys)) H) : rEqD K (.ref a) (.ref b) H Q :=
  ⟨_, _, dp_list ha hx, dp_list hb hy, shaped_flat hx, shaped_flat hy, by
    show Q (.bl (PyData.eqv (.list (xs.map flatD)) (.list (ys.map flatD)))) H
    rw [PyData.eqv]
    exact q⟩
theorem eqL_bools : ∀ (bs cs : List Bool), eqL (bs.map V.bl) (cs.map V.bl) = decide (bs = cs)
  | [], [] => by simp [eqL, PyData.eqvAll]
  | [], c :: cs => by simp [eqL, PyData.eqvAll]
  | b :: bs, [] => by simp [eqL, PyData.eqvAll]
  | b :: bs, c :: cs => by
    have ih := eqL_bools bs cs
    unfold eqL at ih ⊢
    rw [List.map_cons, List.map_cons, List.map_cons, List.map_cons, PyData.eqvAll, ih]
    show ((PyData.eqv (.bool b) (.bool c)) && _) = _
    rw [PyData.eqv]
    by_cases h : b = c
    · subst h; simp
    · simp [h]
theorem ok_bools (bs : List Bool) : (bs.map V.bl).all okF = true := by
  rw [List.all_map, List.all_eq_true]
  intro x _
  rfl
theorem ok_ints (bs : List Int) : (bs.map V.int).all okF = true := by
  rw [List.all_map, List.all_eq_true]
  intro x _
  rfl
theorem eqL_nil (xs : List V) : eqL xs [] = xs.isEmpty := by
  cases xs with
  | nil => simp [eqL, PyData.eqvAll]
  | cons x xs => simp [eqL, PyData.eqvAll]
/-! ### the law's draws: two ints in a list -/
def okD (s : Int × Int) : Prop := 0 ≤ s.1 ∧ 0 ≤ s.2 ∧ s.2 < 2147483647
def dw (s : Int × Int) : HO := .lst [.int s.1, .int s.2]
def sp_draws (K : PySem.W.Frag) : Sp := fun vs H Q _ => ∃ (a : Addr) (ns : List Int) (k : Int), vs = [.ref a, .int k] ∧ SqL K H a (ns.map V.int) ∧ ns.length ≤ 63 ∧ 0 ≤ k ∧ k ≤ 1000000 ∧
  ∀ (p : Addr) (d : Int × Int) (H' : Hp), Same H H' → H p = none → okD d → H' p = some (dw d) → Q (.ref p) H'
def sp_draw : Sp := fun vs H Q _ => ∃ (p : Addr) (d : Int × Int) (u : Int), vs = [.ref p, .int u] ∧ H p = some (dw d) ∧ okD d ∧ 0 < u ∧ u ≤ 1000000000 ∧
  ∀ (v : Int) (d' : Int × Int) (H' : Hp), 0 ≤ v → v < u → okD d' → H' p = some (dw d') → (∀ q o, q ≠ p → H q = some o → H' q = some o) → Q (.int v) H'
theorem ix_at {K : PySem.W.Frag} {H : Hp} {p : Addr} {xs : List V} {i : Int} {v : V} {Q : VK} (h : SqL K H p xs) (h0 : 0 ≤ i) (hv : xs[i.toNat]? = some v) (q : Q v H) : rIxL K (.ref p) (.int i) H Q := by
  refine ⟨p, xs, i, v, rfl, rfl, h, ?_, q⟩
  have e : i = ((i.toNat : Nat) : Int) := by omega
  rw [e]
  exact atI_nat hv
theorem ix_str_at {z : Str} {i : Int} {c : Nat} {H : Hp} {Q : VK} (hz : z.length ≤ 100000) (h0 : 0 ≤ i) (hc : z.cps.toList[i.toNat]? = some c) (q : Q (.str ⟨#[c]⟩) H) : rIxS (.str z) (.int i) H Q := by
  refine ⟨z, i, c, rfl, rfl, Nat.le_trans hz (by decide), ?_, q⟩
  have e : i = ((i.toNat : Nat) : Int) := by omega
  rw [e]
  exact atI_nat hc
theorem set_at {H : Hp} {p : Addr} {xs : List V} {i : Int} {v : V} {Q : Hp → Prop} (h : H p = some (.lst xs)) (h0 : 0 ≤ i) (hi : i < xs.length) (q : Q (upd H p (.lst (xs.set i.toNat v)))) : rSetL (.ref p) (.int i) v H Q := by
  refine ⟨p, xs, i, i.toNat, rfl, rfl, h, ?_, q⟩
  unfold ixN
  rw [if_pos h0, if_pos hi]
theorem same_new {H : Hp} {p : Addr} (h : H p = none) (o : HO) : Same H (upd H p o) := fun b u q => by rw [upd_ne (ne_of_none q h)]; exact q

theorem ne_bools {K : PySem.W.Frag} {H : Hp} {a b : Addr} {bs cs : List Bool} {Q : VK} (ha : SqL K H a (bs.map V.bl)) (hb : SqL K H b (cs.map V.bl)) (q : Q (.bl (!decide (bs = cs))) H) : rNeD K (.ref a) (.ref b) H Q :=
  ne_lists ha hb (ok_bools bs) (ok_bools cs) (by rw [eqL_bools]; exact q)
theorem tyx_mono {K : PySem.W.Frag} {H H' : Hp} {x : V} {t : Value} (s : Same H H') (h : TyX K H x t) : TyX K H' x t := by
  cases h with
  | base b =>
    cases b with
    | non => exact .base .non
    | bl y => exact .base (.bl y)
    | int y => exact .base (.int y)
    | str y => exact .base (.str y)
    | flt y => exact .base (.flt y)
    | lst e => exact .base (.lst (s _ _ e))
    | frz e => exact .base (.frz (s _ _ e))
    | tup e => exact .base (.tup (s _ _ e))
    | dK e => exact .base (.dK (s _ _ e))
    | dT e => exact .base (.dT (s _ _ e))
    | ins e cl ha hn htk hm => exact .base (.ins (s _ _ e) cl ha hn htk hm)
  | byt b => exact .byt b
  | set e => exact .set (s _ _ e)
  | kList e c => exact .kList e c
  | kTuple e c => exact .kTuple e c
  | kDict e c => exact .kDict e c
  | fTuple e => exact .fTuple (s _ _ e)
  | fDict e => exact .fDict (s _ _ e)
theorem kd_mono {K : PySem.W.Frag} {H H' : Hp} {x : V} (s : Same H H') (h : Kd K H x) : Kd K H' x := by
  cases h with
  | non => exact .non
  | bl b => exact .bl b
  | int i => exact .int i
  | str z hz => exact .str z hz
  | ref h hn => exact .ref (tyx_mono s h) hn
theorem kd_lst {K : PySem.W.Frag} {H : Hp} {p : Addr} {xs : List V} (h : H p = some (.lst xs)) : Kd K H (.ref p) := .ref (.base (.lst h)) (.inl rfl)
theorem kd_tup {K : PySem.W.Frag} {H : Hp} {p : Addr} {xs : List V} (h : H p = some (.tup xs)) : Kd K H (.ref p) := .ref (.base (.tup h)) (.inr (.inl rfl))
theorem kd_dct {K : PySem.W.Frag} {H : Hp} {p : Addr} {xs : List (Key × V)} (h : H p = some (.dK xs)) : Kd K H (.ref p) := .ref (.base (.dK h)) (.inr (.inr rfl))
/-- for x in a list; what is walked is read first, the loop's rest stands behind R -/
theorem forL {K : PySem.W.Frag} {tl : TE} {g : TG} {tb : TS} {D : Ends} {σ : L2.St} {H : Hp}
    (h : ∀ R : VK, (∀ (a : Addr) (xs : List V) (Pv : Nat → L2.St → Hp → Prop) (H1 : Hp), SqL K H1 a xs → Pv 0 σ H1 → (∀ i σ H, i ≤ xs.length → Pv i σ H → SqL K H a xs) →
      (∀ i x σ H, xs[i]? = some x → Pv i σ H → g x σ H fun σ2 H2 => tb { D with nx := Pv (i + 1), ct := Pv (i + 1), bk := D.nx } σ2 H2) → (∀ σ H, Pv xs.length σ H → D.nx σ H) → R (.ref a) H1) → tl σ H R) : tFor (iList K tl) g tb D σ H :=
  h _ fun a xs Pv H1 hs h0 hl hst hd => ⟨a, rfl, ⟨xs, hs⟩, for_list (K := K) (a := a) (xs := xs) Pv h0 hl hst hd⟩
/-- for i in range(n) -/
theorem forR {ta : TA} {g : TG} {tb : TS} {D : Ends} {σ : L2.St} {H : Hp}
    (h : ∀ R : List V → Hp → Prop, (∀ (j : Int) (Pv : Nat → L2.St → Hp → Prop) (H1 : Hp), -(2 ^ 62) ≤ j → j < 2 ^ 62 → Pv 0 σ H1 →
      (∀ i σ H, i < j.toNat → Pv i σ H → g (.int (0 + (i : Int))) σ H fun σ2 H2 => tb { D with nx := Pv (i + 1), ct := Pv (i + 1), bk := D.nx } σ2 H2) → (∀ σ H, Pv j.toNat σ H → D.nx σ H) → R [.int j] H1) → ta σ H R) : tFor (iRng1 ta) g tb D σ H :=
  h _ fun j Pv H1 h1 h2 h0 hst hd => ⟨j, rfl, h1, h2, for_range (lo := 0) (n := j.toNat) Pv h0 hst hd⟩
/-- [e for i in range(n)] -/
theorem lcR {ta : TA} {g : TG} {tt : TT} {te : TE} {vs : List Nat} {σ : L2.St} {H : Hp} {Q : VK}
    (h : ∀ R : List V → Hp → Prop, (∀ (j : Int) (H1 : Hp), -(2 ^ 62) ≤ j → j < 2 ^ 62 → (∀ D, H1 D = none → ∃ Pv : Nat → Hp → Prop, Pv 0 (upd H1 D (.lst [])) ∧
      (∀ i H, i < j.toNat → Pv i H → g (.int (0 + (i : Int))) (wipe σ vs) H fun σ2 H2 => wipe σ2 vs = wipe σ vs ∧ tt σ2 H2 fun b H3 =>
        if b = true then te σ2 H3 fun y H4 => ∃ acc, H4 D = some (.lst acc) ∧ acc.length < sizeLine ∧ Pv (i + 1) (upd H4 D (.lst (acc ++ [y]))) else Pv (i + 1) H3) ∧ ∀ H, Pv j.toNat H → Q (.ref D) H) → R [.int j] H1) → ta σ H R) : tLc (iRng1 ta) g tt te vs σ H Q :=
  h _ fun j H1 h1 h2 hk => ⟨j, rfl, h1, h2, fun D hD => by
    obtain ⟨Pv, h0, hs, hd⟩ := hk D hD
    exact lc_range (lo := 0) (n := j.toNat) Pv h0 hs hd⟩
/-- [e for x in a list] -/
theorem lcL {K : PySem.W.Frag} {tl : TE} {g : TG} {tt : TT} {te : TE} {vs : List Nat} {σ : L2.St} {H : Hp} {Q : VK}
    (h : ∀ R : VK, (∀ (a : Addr) (xs : List V) (H1 : Hp), SqL K H1 a xs → (∀ D, H1 D = none → ∃ Pv : Nat → Hp → Prop, Pv 0 (upd H1 D (.lst [])) ∧ (∀ i H, i ≤ xs.length → Pv i H → SqL K H a xs) ∧
      (∀ i x H, xs[i]? = some x → Pv i H → g x (wipe σ vs) H fun σ2 H2 => wipe σ2 vs = wipe σ vs ∧ tt σ2 H2 fun b H3 =>
        if b = true then te σ2 H3 fun y H4 => ∃ acc, H4 D = some (.lst acc) ∧ acc.length < sizeLine ∧ Pv (i + 1) (upd H4 D (.lst (acc ++ [y]))) else Pv (i + 1) H3) ∧ ∀ H, Pv xs.length H → Q (.ref D) H) → R (.ref a) H1) → tl σ H R) : tLc (iList K tl) g tt te vs σ H Q :=
  h _ fun a xs H1 hs hk => ⟨a, rfl, ⟨xs, hs⟩, fun D hD => by
    obtain ⟨Pv, h0, hl, hst, hd⟩ := hk D hD
    exact lc_list (K := K) (a := a) (xs := xs) Pv h0 hl hst hd⟩
theorem sz_of {n : Nat} (h : n ≤ 100000) : n ≤ sizeLine := Nat.le_trans h (by decide)
theorem same_mut {H H' : Hp} {p : Addr} {o : HO} (s : Same H H') (h : H p = none) : Same H (upd H' p o) := fun b u q => by rw [upd_ne (ne_of_none q h)]; exact s b u q

theorem same_but {H H0 H1 : Hp} {p : Addr} (s : Same H H0) (hp : H p = none) (k : ∀ q o, q ≠ p → H0 q = some o → H1 q = some o) : Same H H1 := fun b o e => k b o (ne_of_none e hp) (s b o e)
theorem free_but {H0 H1 : Hp} {p q : Addr} {o : HO} (k : ∀ q o, q ≠ p → H0 q = some o → H1 q = some o) (ep : H1 p = some o) (h : H1 q = none) : H0 q = none := by
  cases e : H0 q with
  | none => rfl
  | some u =>
    have hq : q ≠ p := fun z => by rw [z, ep] at h; cases h
    rw [k q u hq e] at h
    cases h
/-! ### texts as lists of signs -/
theorem tl_inj {x y : Str} (h : tl x = tl y) : x = y := str_ext h
theorem tl_len (x : Str) : (tl x).length = x.length := Array.length_toList
theorem tl_app (x y : Str) : tl (x ++ y) = tl x ++ tl y := tl_append x y
theorem joinL_nil : ∀ l : List (List Nat), joinL [] l = l.flatten
  | [] => rfl
  | [p] => by simp [joinL]
  | p :: q :: r => by
    rw [joinL, joinL_nil (q :: r)]
    simp
theorem tl_join0 (ys : List Str) : tl (Txt.join ("" : Str) ys) = (ys.map tl).flatten := by
  rw [join_eq, tl_join, show tl ("" : Str) = [] from by decide +kernel, joinL_nil]
def sg (c : Nat) : Str := ⟨#[c]⟩
theorem tl_sg (c : Nat) : tl (sg c) = [c] := rfl
theorem flat_sg : ∀ cs : List Nat, ((cs.map sg).map tl).flatten = cs
  | [] => rfl
  | c :: cs => by
    rw [List.map_cons, List.map_cons, List.flatten_cons, flat_sg cs]
    rfl
theorem len_sg (cs : List Nat) : ((cs.map sg).map (·.length)).sum = cs.length := by
  induction cs with
  | nil => rfl
  | cons c cs ih =>
    rw [List.map_cons, List.map_cons, List.sum_cons, ih]
    show 1 + _ = _
    rw [List.length_cons]; omega

/-! ### texts repeated -/
def srep (z : Str) (k : Nat) : Str := ⟨(List.replicate k (tl z)).flatten.toArray⟩
theorem tl_srep (z : Str) (k : Nat) : tl (srep z k) = (List.replicate k (tl z)).flatten := rfl
theorem len_flat_rep (l : List Nat) (k : Nat) : (List.replicate k l).flatten.length = k * l.length := by
  induction k with
  | zero => simp
  | succ k ih => rw [List.replicate_succ, List.flatten_cons, List.length_append, ih, Nat.succ_mul]; omega
theorem foldl_arr (a : Array Nat) : ∀ (k : Nat) (b : Array Nat), ((List.replicate k a).foldl (· ++ ·) b).toList = b.toList ++ (List.replicate k a.toList).flatten
  | 0, b => by simp
  | k + 1, b => by rw [List.replicate_succ, List.foldl_cons, foldl_arr a k]; simp [List.replicate_succ]
def rRepS : R2 := fun x y H Q => ∃ z n, x = .str z ∧ y = .int n ∧ 0 ≤ n ∧ n < 2 ^ 62 ∧ z.length * n.toNat ≤ 1000000 ∧ Q (.str (srep z n.toNat)) H
theorem op_rep_str {X : Cx} : OpR X (binaryOp .Mult) rRepS := by
  intro pins s σ H x y v u Q I rx ry h
  obtain ⟨z, n, rfl, rfl, h1, h2, hz, q⟩ := h
  obtain ⟨t, rfl⟩ := rx
  obtain ⟨t', rfl⟩ := ry
  have e24 : (2 : Nat) ^ 24 = 16777216 := by decide
  have hl : (z.length : Int) * n ≤ 1000000 := by
    have : ((z.length * n.toNat : Nat) : Int) ≤ 1000000 := by omega
    rw [Int.natCast_mul, Int.toNat_of_nonneg h1] at this
    exact this
  refine PySem.P.mul_str ?_ ?_ ?_ ?_
  · rw [decide_eq_false (by omega), decide_eq_false (by omega)]; rfl
  · intro hn _ hgt
    have hd : (2 ^ 63 - 1) / n ≥ z.length := by
      refine (Int.le_ediv_iff_mul_le (by omega)).mpr ?_
      omega
    omega
  · intro _ _
    show decide (_ > sizeLine) = false
    refine decide_eq_false ?_
    rw [sizeLine_eq]
    omega
  · have fin : ∀ w : Str, tl w = (List.replicate n.toNat (tl z)).flatten → w = srep z n.toNat := fun w hw => ext_tl hw
    have small : ∀ w : Str, tl w = (List.replicate n.toNat (tl z)).flatten → w.length ≤ sizeLine := fun w hw => by
      rw [len_tl, hw, len_flat_rep, sizeLine_eq, ← len_tl, Nat.mul_comm]
      omega
    by_cases hn : n < 1
    · rw [if_pos hn]
      have e : Str.empty = srep z n.toNat := fin _ (by rw [show n.toNat = 0 by omega]; rfl)
      exact ⟨by decide, by rw [e]; exact ⟨.str _, H, I.tok _, ⟨_, rfl⟩, q⟩⟩
    · rw [if_neg hn]
      by_cases hc : (n == 1 || z.length == 0) = true
      · rw [if_pos hc]
        have e : z = srep z n.toNat := fin _ (by
          rw [Bool.or_eq_true, beq_iff_eq, beq_iff_eq] at hc
          rcases hc with hc | hc
          · rw [hc]; simp
          · have h0 : tl z = [] := List.eq_nil_of_length_eq_zero (by rw [← len_tl]; exact hc)
            rw [h0]; simp)
        show EP X pins σ Q (.str z t) s
        exact ⟨.str (srep z n.toNat), H, I, by rw [← e]; exact ⟨_, rfl⟩, q⟩
      · rw [if_neg hc]
        have e : tl (⟨(List.replicate n.toNat z.cps).foldl (· ++ ·) #[]⟩ : Str) = (List.replicate n.toNat (tl z)).flatten := by
          show ((List.replicate n.toNat z.cps).foldl (· ++ ·) #[]).toList = _
          rw [foldl_arr]; rfl
        have e2 := fin _ e
        exact ⟨small _ e, by rw [e2]; exact ⟨.str _, H, I.tok _, ⟨_, rfl⟩, q⟩⟩
/-! ### trees in the heap -/
inductive PVs (H : Hp) : List V → Parts → Prop where
  | nil : PVs H [] .nil
  | seq {s : Str} {vs r} : PVs H vs r → PVs H (.str s :: vs) (.seq (tl s) r)
  | rep {q p : Addr} {n : Nat} {vb vs b r} : H q = some (.tup [.ref p, .int (n : Int)]) → H p = some (.lst vb) → vb.length ≤ 100000 → PVs H vb b → PVs H vs r → PVs H (.ref q :: vs) (.rep b n r)
theorem PVs.mono {H H' : Hp} (s : Same H H') {vs ps} (h : PVs H vs ps) : PVs H' vs ps := by
  induction h with
  | nil => exact .nil
  | seq _ ih => exact .seq ih
  | rep h1 h2 h3 _ _ ih1 ih2 => exact .rep (s _ _ h1) (s _ _ h2) h3 ih1 ih2
theorem PVs.app {H : Hp} {vs ps} (h : PVs H vs ps) {vs' ps'} (h' : PVs H vs' ps') : PVs H (vs ++ vs') (ps.app ps') := by
  induction h with
  | nil => exact h'
  | seq _ ih => exact .seq ih
  | rep h1 h2 h3 h4 _ _ ih2 => exact .rep h1 h2 h3 h4 ih2
def PartsAt (H : Hp) (p : Addr) (ps : Parts) : Prop := ∃ vs, H p = some (.lst vs) ∧ vs.length ≤ 100000 ∧ PVs H vs ps
theorem PartsAt.mono {H H' : Hp} (s : Same H H') {p ps} (h : PartsAt H p ps) : PartsAt H' p ps := by
  obtain ⟨vs, h1, h2, h3⟩ := h
  exact ⟨vs, s _ _ h1, h2, h3.mono s⟩
def Opn (F H' : Hp) (m : Nat) : List Addr → List Parts → Prop
  | [], [] => True
  | a :: as, o :: os => (∃ va, H' a = some (.lst va) ∧ PVs F va o ∧ va.length ≤ m) ∧ Opn F H' m as os
  | _, _ => False
theorem Opn.len {F H' : Hp} {m : Nat} : ∀ {as os}, Opn F H' m as os → as.length = os.length
  | [], [], _ => rfl
  | a :: as, o :: os, h => by rw [List.length_cons, List.length_cons, Opn.len h.2]
theorem Opn.mono {F F' H' H'' : Hp} {m m' : Nat} (s : Same F F') (hm : m ≤ m') : ∀ {as os}, (∀ a ∈ as, H'' a = H' a) → Opn F H' m as os → Opn F' H'' m' as os
  | [], [], _, _ => trivial
  | a :: as, o :: os, k, ⟨⟨va, h1, h2, h3⟩, h⟩ => ⟨⟨va, by rw [k a List.mem_cons_self]; exact h1, h2.mono s, by omega⟩, Opn.mono s hm (fun b hb => k b (List.mem_cons_of_mem _ hb)) h⟩
theorem Opn.some {F H' : Hp} {m : Nat} : ∀ {as os}, Opn F H' m as os → ∀ a ∈ as, ∃ o, H' a = some o
  | a :: as, o :: os, ⟨⟨va, h1, _⟩, h⟩, b, hb => by
    rcases List.mem_cons.mp hb with rfl | hb
    · exact ⟨_, h1⟩
    · exact Opn.some h b hb
/-! ### the reader's lists in the heap -/
structure Lay (H0 F H' : Hp) (p q : Addr) (as : List Addr) (os : List Parts) (ps : Parts) (n : Nat) : Prop where
  s0 : Same H0 F
  s1 : Same F H'
  nd : (p :: q :: as).Nodup
  fr : ∀ a ∈ p :: q :: as, F a = none
  hp : H' p = some (.lst (as.reverse.map V.ref))
  hq : ∃ vq, H' q = some (.lst vq) ∧ PVs F vq ps ∧ vq.length ≤ n
  op : Opn F H' n as os
theorem Lay.init {H : Hp} {p q : Addr} (h1 : H p = none) (h2 : upd H p (.lst []) q = none) : Lay H H (upd (upd H p (.lst [])) q (.lst [])) p q [] [] .nil 0 := by
  have hpq : p ≠ q := fun e => by rw [← e, upd_same] at h2; cases h2
  have hq : H q = none := by rw [← h2, upd_ne (Ne.symm hpq)]
  refine ⟨fun _ _ h => h, (same_new h1 _).trans (same_new h2 _), ?_, ?_, ?_, ⟨[], upd_same, .nil, Nat.le_refl _⟩, trivial⟩
  · simp [hpq]
  · intro a ha
    simp only [List.mem_cons, List.not_mem_nil, or_false] at ha
    rcases ha with rfl | rfl
    · exact h1
    · exact hq
  · rw [upd_ne hpq, upd_same]; rfl
theorem Lay.opn {H0 F H' : Hp} {p q r : Addr} {as os ps n} (h : Lay H0 F H' p q as os ps n) (hr : upd H' p (.lst (as.reverse.map V.ref ++ [.ref q])) r = none) :
    Lay H0 F (upd (upd H' p (.lst (as.reverse.map V.ref ++ [.ref q]))) r (.lst [])) p r (q :: as) (ps :: os) .nil (n + 1) := by
  obtain ⟨vq, hq, pq, lq⟩ := h.hq
  have nd := h.nd
  simp only [List.nodup_cons, List.mem_cons, not_or] at nd
  have rp : r ≠ p := fun e => by rw [e, upd_same] at hr; cases hr
  have hr' : H' r = none := by rw [← hr, upd_ne rp]
  have rq : r ≠ q := fun e => by rw [e, hq] at hr'; cases hr'
  have ra : r ∉ as := fun e => by obtain ⟨o, ho⟩ := h.op.some r e; rw [ho] at hr'; cases hr'
  have fr : F r = none := by
    cases e : F r with
    | none => rfl
    | some u => rw [h.s1 _ _ e] at hr'; cases hr'
  have fp := h.fr p List.mem_cons_self
  refine ⟨h.s0, (same_mut h.s1 fp).trans (same_new hr _), ?_, ?_, ?_, ⟨[], upd_same, .nil, Nat.zero_le _⟩, ?_⟩
  · simp only [List.nodup_cons, List.mem_cons, not_or]
    exact ⟨⟨Ne.symm rp, nd.1.1, nd.1.2⟩, ⟨rq, ra⟩, nd.2⟩
  · intro a ha
    simp only [List.mem_cons] at ha
    rcases ha with rfl | rfl | rfl | ha
    · exact fp
    · exact fr
    · exact h.fr _ (by simp)
    · exact h.fr _ (by simp [ha])
  · rw [upd_ne (Ne.symm rp), upd_same, List.reverse_cons, List.map_append]; rfl
  · refine ⟨⟨vq, ?_, pq, by omega⟩, h.op.mono (fun _ _ e => e) (by omega) fun a ha => ?_⟩
    · rw [upd_ne (Ne.symm rq), upd_ne (Ne.symm nd.1.1), hq]
    · rw [upd_ne (fun e => ra (by rw [← e]; exact ha)), upd_ne (fun e => nd.1.2 (by rw [← e]; exact ha))]
theorem Lay.add {H0 F H' : Hp} {p q : Addr} {as os ps n vq} {s : Str} (h : Lay H0 F H' p q as os ps n) (hq : H' q = some (.lst vq)) {m : Nat} (hm : n + 1 ≤ m) :
    Lay H0 F (upd H' q (.lst (vq ++ [.str s]))) p q as os (ps.app (.seq (tl s) .nil)) m := by
  obtain ⟨vq', hq', pq, lq⟩ := h.hq
  rw [hq] at hq'
  injection hq' with e
  injection e with e
  subst e
  have nd := h.nd
  simp only [List.nodup_cons, List.mem_cons, not_or] at nd
  refine ⟨h.s0, same_mut h.s1 (h.fr q (by simp)), h.nd, h.fr, ?_, ⟨_, upd_same, pq.app (.seq .nil), ?_⟩, h.op.mono (fun _ _ e => e) (by omega) fun a ha => ?_⟩
  · rw [upd_ne nd.1.1]; exact h.hp
  · rw [List.length_append, List.length_singleton]; omega
  · rw [upd_ne (fun e => nd.2.1 (by rw [← e]; exact ha))]
theorem Lay.cls {H0 F H' : Hp} {p q r a : Addr} {as os ps o n va} {c : Nat} (h : Lay H0 F H' p q (a :: as) (o :: os) ps n) (hr : H' r = none) (ha : H' a = some (.lst va)) (hn : n ≤ 100000) {m : Nat} (hm : n + 1 ≤ m) :
    ∃ F', Lay H0 F' (upd (upd (upd H' r (.tup [.ref q, .int (c : Int)])) p (.lst ((a :: as).reverse.map V.ref).dropLast)) a (.lst (va ++ [.ref r]))) p a as os (o.app (.rep ps c .nil)) m := by
  obtain ⟨vq, hq, pq, lq⟩ := h.hq
  have op := h.op
  obtain ⟨⟨va', ha', pa, la⟩, op⟩ := op
  rw [ha] at ha'
  injection ha' with e
  injection e with e
  subst e
  have nd := h.nd
  simp only [List.nodup_cons, List.mem_cons, not_or] at nd
  obtain ⟨⟨pq', pa', pas⟩, ⟨qa, qas⟩, aas, ndas⟩ := nd
  have nr : ∀ b, (∃ o, H' b = some o) → b ≠ r := fun b ⟨o, ho⟩ e => by rw [e, hr] at ho; cases ho
  have rp := nr p ⟨_, h.hp⟩
  have rq := nr q ⟨_, hq⟩
  have ra := nr a ⟨_, ha⟩
  have fr : F r = none := by
    cases e : F r with
    | none => rfl
    | some u => rw [h.s1 _ _ e] at hr; cases hr
  have fq : F q = none := h.fr q (by simp)
  have sF : Same F (upd (upd F q (.lst vq)) r (.tup [.ref q, .int (c : Int)])) := (same_new fq _).trans (same_new (by rw [upd_ne (Ne.symm rq)]; exact fr) _)
  have hq3 : upd (upd F q (.lst vq)) r (.tup [.ref q, .int (c : Int)]) q = some (.lst vq) := by rw [upd_ne rq, upd_same]
  refine ⟨upd (upd F q (.lst vq)) r (.tup [.ref q, .int (c : Int)]), fun b u e => sF b u (h.s0 b u e), ?_, ?_, ?_, ?_, ⟨_, upd_same, ?_, ?_⟩, ?_⟩
  · intro b u e
    by_cases eb : b = r
    · subst eb
      rw [upd_same] at e
      rw [upd_ne (Ne.symm ra), upd_ne (Ne.symm rp), upd_same]; exact e
    · rw [upd_ne eb] at e
      by_cases eq : b = q
      · subst eq
        rw [upd_same] at e
        rw [upd_ne qa, upd_ne (Ne.symm pq'), upd_ne rq, hq]; exact e
      · rw [upd_ne eq] at e
        have np : b ≠ p := fun z => by rw [z, h.fr p (by simp)] at e; cases e
        have na : b ≠ a := fun z => by rw [z, h.fr a (by simp)] at e; cases e
        rw [upd_ne na, upd_ne np, upd_ne eb]
        exact h.s1 _ _ e
  · simp only [List.nodup_cons, List.mem_cons, not_or]
    exact ⟨⟨pa', pas⟩, aas, ndas⟩
  · intro b hb
    have hb2 : b ≠ r ∧ b ≠ q ∧ F b = none := by
      simp only [List.mem_cons] at hb
      rcases hb with rfl | rfl | hb
      · exact ⟨rp, pq', h.fr _ (by simp)⟩
      · exact ⟨ra, Ne.symm qa, h.fr _ (by simp)⟩
      · exact ⟨nr b (op.some b hb), fun e => qas (by rw [← e]; exact hb), h.fr _ (by simp [hb])⟩
    rw [upd_ne hb2.1, upd_ne hb2.2.1]; exact hb2.2.2
  · rw [upd_ne pa', upd_same, List.reverse_cons, List.map_append, List.map_singleton, List.dropLast_concat]
  · exact (pa.mono sF).app (.rep upd_same hq3 (by omega) (pq.mono sF) .nil)
  · rw [List.length_append, List.length_singleton]; omega
  · refine op.mono sF (by omega) fun b hb => ?_
    rw [upd_ne (fun e => aas (by rw [← e]; exact hb)), upd_ne (fun e => pas (by rw [← e]; exact hb)), upd_ne (nr b (op.some b hb))]
theorem Lay.free {H0 F H' : Hp} {p q : Addr} {as os ps n} (h : Lay H0 F H' p q as os ps n) {b : Addr} (hb : b ∈ p :: q :: as) : H0 b = none := by
  cases e : H0 b with
  | none => rfl
  | some u =>
    have := h.s0 b u e
    rw [h.fr b hb] at this; cases this
theorem PVs.uncons {H : Hp} {x : V} {r : List V} {ps : Parts} (h : PVs H (x :: r) ps) : ∃ a b, PVs H [x] a ∧ PVs H r b ∧ ps.den = a.den ++ b.den ∧ a.dep ≤ ps.dep ∧ b.dep ≤ ps.dep ∧ (ps.ok → a.ok ∧ b.ok) := by
  cases h with
  | @seq s _ r0 pr =>
    exact ⟨.seq (tl s) .nil, r0, .seq .nil, pr, by simp [Parts.den], Nat.zero_le _, Nat.le_refl _, fun h => ⟨⟨h.1, h.2.1, trivial⟩, h.2.2⟩⟩
  | @rep q p n vb vs b r0 h1 h2 h3 hb pr =>
    exact ⟨.rep b n .nil, r0, .rep h1 h2 h3 hb .nil, pr, by simp [Parts.den], by simp only [Parts.dep]; omega, by simp only [Parts.dep]; omega, fun h => ⟨⟨h.1, h.2.1, trivial⟩, h.2.2⟩⟩
theorem exm_of {K : PySem.W.Frag} {S C : Addr} {b : Bool} (h1 : PySem.W.subIn K (.ref C) (.type "BaseException") = some true) (h2 : PySem.W.isClsIn K C = true) (h3 : PySem.W.typeIn K (.ref C) = some (.type "type")) (h4 : PySem.W.subIn K (.ref S) (.ref C) = some b) :
    PySem.W.exmOne K (.ref S) (.ref C) = some b := by
  have e1 : (PySem.W.subIn K (.ref C) (.type "BaseException") == some true) = true := by rw [h1] <;> rfl
  have e2 : ((PySem.W.clsIn K C).isSome && PySem.W.typeIn K (.ref C) == some (.type "type")) = true := by
    rw [show (PySem.W.clsIn K C).isSome = true from h2, h3] <;> rfl
  unfold PySem.W.exmOne
  rw [if_pos e1]
  show (if ((PySem.W.clsIn K C).isSome && PySem.W.typeIn K (.ref C) == some (.type "type")) = true then PySem.W.subIn K (.ref S) (.ref C) else none) = some b
  rw [if_pos e2]
  exact h4

end My
/-! ### own exceptions whose __init__ says super().__init__('..') and stores one argument in a field -/
namespace PySem
namespace SupX
open PySem.W PySem.Calls PyProof.Rows PySem.HandSPX Builtin Builtin.ObjectAttr
section
variable {prog : Program} {w : World} {A : Around} {E : Value → Shared → Prop} {R : Result → Shared → Prop} {hp : Heap} {g : Array GenState} {d : Drawn} {t : Nat} {os : OsState}
/-- the wrapper called: the args are laid anew -/
theorem call_mw {B i newId : String} {bmB : List Value} {nm q : Str} {C N u e t0 : Addr} {bs bm : List Value} {hdct : Bool} {sn : List Str} {sub : List Value} {ab : Bool} {col : Option Bool} {dd : Option Addr} {k0 k1 k2 k3 k5 : Option Value} {rest : List Value} {Q : Value → Shared → Prop}
    (FB : ExcBaseFacts B newId i bmB) (hC : hp.get? C = some (excClassObj nm q C N bs bm hdct sn sub ab col dd k0 k1 k2 k3 k5 newId)) (he : hp.get? e = some (excO C t0)) (hu : hp.get? u = some (kxs_mw i e)) (hz : rest.length ≤ sizeLine)
    (hq : ∀ h' t1, (∀ b o, b ≠ e → hp.get? b = some o → h'.get? b = some o) → h'.get? e = some (excO C t1) → Q .none ⟨h', g, d, t, os⟩) :
    wpAny (model prog w) A (call (.ref u) rest) Q E ⟨hp, g, d, t, os⟩ := by
  refine wpAny_call (codeAny_of_tree ?_)
  show wpAny _ A.in1 (callAny (.ref u) ⟨rest, []⟩) _ _ _
  simp only [callAny]
  refine wpAny_bind (wpAny_load hu ?_)
  simp only [kxs_mw, show (Value.type "method-wrapper" == Value.type "method" || Value.type "method-wrapper" == Value.type "builtin_function_or_method" || Value.type "method-wrapper" == Value.type "method-wrapper") = true by decide, if_true]
  refine KFB.if_so (by decide) ?_
  refine wpAny_bind (check_bound_init FB.toExcCallFacts hC he rfl ?_)
  refine wpAny_bind (wpAny_pure (wpAny_pure ?_))
  refine ⟨plainId_quiet FB.init.plain _, codeAny_builtin FB.initEntry ?_⟩
  exact exc_init_tree (cls := .ref C) (t0 := t0) (dv := none) (c2 := .none) (c3 := .none) (b4 := .bool false) he hz fun h' k e' _ => hq h' _ k e'
/-- self.name = v on an exception that has no dict yet, any built-in base -/
theorem osa_new {B : String} {bmB : List Value} {K : W.Frag} {name : Str} {tk : Tok} {v : Value} {x C : Addr} {fv : Array Value} {cd : ClassData} {l : List Value} (SF : StoreFacts B bmB "object.__setattr__" "object")
    (X : K.In hp) (hx : hp.get? x = some { cls := .ref C, data := .fields fv }) (hcd : W.clsIn K C = some cd) (hm : cd.mro = .ref C :: l) (ht : excTail bmB l = true) (hh : cd.hasDict = true) (ha : W.findIn K (.ref C) name = some none)
    (hq : ∀ h' tk' dx, (∀ b o, b ≠ x → hp.get? b = some o → h'.get? b = some o) → hp.objs.size ≤ dx → dx ≠ x → h'.get? x = some { cls := .ref C, dict := some dx, data := .fields fv } →
      h'.Ns1 dx (fun y => if y = name then some v else none) → R (.ok (.ret .none)) ⟨h', g, d, tk', os⟩) :
    codeAny (model prog w) A (.call (.builtin "object.__setattr__") ⟨[.ref x, .str name tk, v], []⟩) R ⟨hp, g, d, t, os⟩ := by
  have I : W.InstAt hp x { cls := .ref C, data := .fields fv } C none := ⟨hx, rfl, rfl, trivial⟩
  have SO := F.store_object
  have hob : cd.mro.contains (.type "object") = true := by
    rw [hm, List.contains_cons, excTail_contains "object" l ht, SF.hasOwner, Bool.or_true]
  have hxs : x ≠ hp.objs.size := Nat.ne_of_lt (Heap.lt_size hx)
  have sub : W.Looks (model prog w) hp (isInstance (.ref x) (.type "object")) true := I.type.andThen (W.looks_mroIn X (by unfold W.mroIn; rw [hcd, Option.bind_some, if_neg (by rw [hm]; exact Bool.false_ne_true), hob]))
  refine codeAny_call_builtin SO.slot.plain SO.entry (@W.check_slot (model prog w) _ _ ⟨hp, g, d, t, os⟩ "object.__setattr__" "object" "__setattr__" (.ref x) [.str name tk, v] [] _ SO.kind SO.split sub (SO.args (.ref x) (.str name tk) v) ?_)
  have hmr : W.Looks (model prog w) hp (mroOf (.ref C)) cd.mro := (W.looks_clsIn X hcd).andThen .now
  have L3 : W.Looks (model prog w) hp (storeTaker? none) none := .now
  have hcls : W.Looks (model prog w) hp (classData C) cd := W.looks_clsIn X hcd
  have hpass : refuseLoop (.ref x) "__setattr__" cd.mro = pure () := by
    rw [hm, refuseLoop_ref]
    exact excTail_pass _ (SF.passes _) l ht
  rw [W.osa_eq, refuse_eq]
  refine wpAny_bind (wpAny_bind (I.type.at (wpAny_bind (hmr.at ?_))))
  rw [hpass]
  refine wpAny_pure (wpAny_bind (I.type.at (wpAny_bind ((W.looks_findIn X ha).at (wpAny_bind (L3.at ?_))))))
  show wpAny _ _ (storeInOwnDict (.ref x) (.ref C) (.str name tk) name v false) _ _ _
  obtain ⟨nm, bs, mro, ns, qn, hd, sn, sb, ab, col, del⟩ := cd
  dsimp only at hh
  subst hh
  unfold storeInOwnDict ownDictForStores
  repeat (first | with_reducible refine store_in_new ?_ ?_ | with_reducible refine wpAny_loadPart_at hx ?_ | with_reducible refine hcls.at ?_ | wp_step)
  · exact ⟨_, #[], _, (Heap.get?_update_ne _ _ _ _ hxs.symm).trans (Heap.get?_push_at rfl rfl), rfl, fun e he => absurd he (by simp), fun _ => rfl⟩
  · intro h' tk' hn' hs
    have hx₁ : (hp.push { cls := .type "dict", data := .dict #[] }).get? x = some { cls := .ref C, data := .fields fv } := Heap.get?_push_of_some _ hx
    refine hq h' tk' hp.objs.size (fun b o hb ho => ?_) (Nat.le_refl _) hxs.symm ?_ hn'
    · exact (hs.2 b (Nat.ne_of_lt (Heap.lt_size ho))).trans ((Heap.get?_update_ne _ _ _ _ hb).trans (Heap.get?_push_of_some _ ho))
    · exact (hs.2 x hxs).trans (Heap.get?_update_self _ hx₁ rfl)
end
/-- the body's shape: super().__init__(msg); self.f = p -/
def initBody (msg f p : Str) (c : Nat) (p0 p1 p2 p3 p4 p5 q1 q2 q3 q4 : Pos) : List Stmt :=
  [.Expr (.Call (.Attribute (.Call (.Name "super" p0) [] [] p1) "__init__" p2) [.Constant (.str msg) c p3] [] p4) p5, .Assign [.Attribute (.Name "self" q1) f q2] (.Name p q3) q4]
/-- what the written part says of the class at C and of its __init__ at fI -/
structure ExF (prog : Program) (K : Frag) (mg : Str → Option Value) (x f p qual : Str) (st : Stmt) (B newId i : String) (bmB : List Value) (C fI : Addr) : Prop where
  g : mg x = some (.ref C)
  q : excInitIn K C bmB newId = true
  ov : excOver K C bmB = true
  sa : findIn K (.ref C) "__setattr__" = some (some (.builtin "object.__setattr__"))
  ga : findIn K (.ref C) "__getattribute__" = some (some (.builtin "BaseException.__getattribute__"))
  gg : findIn K (.ref C) "__getattr__" = some none
  no : findIn K (.ref C) f = some none
  iC : findIn K (.ref C) "__init__" = some (some (.ref fI))
  tC : typeIn K (.ref fI) = some (.type "function")
  kC : keepIn K (.ref C) = true
  exC : subIn K (.ref C) (.type "BaseException") = some true
  suB : subIn K (.ref C) (.type B) = some true
  tyC : typeIn K (.ref C) = some (.type "type")
  hdC : hasDictIn K C = true
  te : exmOne K (.ref C) (.ref C) = some true
  mC : mroIn K C (.ref C) = some true
  su : ks_superIn K C C "__init__" = some (some (.builtin i))
  zs : nsIn K mainGlobals "super" = some none
  zt : nsIn K cStatics "thirdparty.any" = some none
  fn : ∃ (oc : Value) (od : Option Addr) (kV doc pm : Value) (an : Option Addr) (cda : Addr) (ct : Value) (osl : Array (Option Value)) (cc : Addr) (cl : Value) (cld : Option Addr) (csl : Array (Option Value)) (ccl : Value) (cdd : Option Addr) (vs : Array Value) (ccs : Array (Option Value)) (file : Str) (tf : Tok),
    K.lookup fI = some ⟨oc, od, .func (ksFn "__init__" qual (L2.defArgs st) (L2.defBody st) (L2.defScope st) .none kV doc pm an (.ref cda) ct cc), osl⟩ ∧ codeIn K (.ref cda) qual = true ∧ K.lookup cc = some ⟨cl, cld, .cell (some (.ref C)), csl⟩ ∧
    K.lookup cda = some ⟨ccl, cdd, .fields vs, ccs⟩ ∧ vs[2]? = some (.str file tf) ∧ ((prog.main.file : Str) == file) = true
/-- what __init__ leaves of a fresh exception at x -/
structure InitEnd (f : Str) (h h' : Heap) (x C dx t1 : Addr) (v : Value) : Prop where
  keep : ∀ b o, b ≠ x → h.get? b = some o → h'.get? b = some o
  obj : h'.get? x = some { cls := .ref C, dict := some dx, data := .fields #[.ref t1, .none, .none, .none, .bool false, .none] }
  dbig : h.objs.size ≤ dx
  dne : dx ≠ x
  ns : h'.Ns1 dx (fun y => if y = f then some v else none)
section
variable {prog : Program} {w : World} {A : Around} {E : Value → Shared → Prop} {R : Result → Shared → Prop} {s : Shared} {K : Frag} {mg : Str → Option Value} {x f p qual : Str} {st : Stmt} {B newId i : String} {bmB : List Value} {C fI : Addr}
theorem super_node {body : List Stmt} {q : Str} {scope : Scope} {p0 p1 : Pos} {attr : Str} {whole : Sem Value} {fd : FuncData} {ar : Arg} {vs : Array Value} {file : Str} {tf : Tok} {oc ccl cl : Value} {od cdd cld : Option Addr} {osl ccs csl : Array (Option Value)} {cdD : ClassData} {Q : Value → Shared → Prop}
    {h₀ : Heap} {L fI cda cc D xa : Addr} {m mb : Str → Option Value} {ox : Obj} {odx : Option Obj}
    (F : Fr h₀ L s.heap m) (X₀ : K.In h₀) (hg : h₀.Ns mainGlobals mg) (hb : h₀.Ns builtinsNs mb) (hbs : mb "super" = bootBuiltins "super")
    (hf : K.lookup fI = some ⟨oc, od, .func fd, osl⟩) (hp : (fd.params.posonlyargs ++ fd.params.args).head? = some ar) (hv : m ar.arg = some (.ref xa)) (I : InstAt s.heap xa ox C odx)
    (hcode : K.lookup cda = some ⟨ccl, cdd, .fields vs, ccs⟩) (hvs : vs[2]? = some (.str file tf)) (hfile : ((prog.main.file : Str) == file) = true)
    (hcell : K.lookup cc = some ⟨cl, cld, .cell (some (.ref D)), csl⟩) (hD : clsIn K D = some cdD) (hsub : mroIn K C (.ref D) = some true) (hsuper : nsIn K mainGlobals "super" = some none)
    (hat : (attr == ("__class__" : Str)) = false) (hks : scope.names.lookup ("super" : Str) = some .globalImplicit) (hkc : scope.names.lookup ("__class__" : Str) = some .free) (hka : scope.names.lookup ar.arg = some .local) (hk : scope.kind = .function)
    (htop : (prog.main.scope.names.lookup ("super" : Str)).isSome = false)
    (h : ∀ so h', Fr h₀ L h' m → News h₀ L h' [(so, ks_superObj D xa C)] → (∀ b o, s.heap.get? b = some o → h'.get? b = some o) → Q (.ref so) { s with heap := h' }) :
    _root_.PySem.wpAt (model prog w) A (.func body (ksEnv q scope L fI (.ref cda) cc)) (attributeBase (.Call (.Name "super" p0) [] [] p1) attr (ksEnv q scope L fI (.ref cda) cc) whole) Q E s := by
  have X : K.In s.heap := X₀.keeps F.keep
  obtain ⟨hh, g, d, t, os⟩ := s
  obtain ⟨oD, hD1, hD2⟩ : ∃ oD, hh.get? D = some oD ∧ oD.data = .cls cdD := by
    unfold clsIn at hD
    split at hD
    · rename_i c d cd' sl ho
      cases hD
      exact ⟨_, X _ _ ho, rfl⟩
    · cases hD
  refine ks_wpAt_super_base (env := ksEnv q scope L fI (.ref cda) cc) hks hkc hat rfl (X _ _ hf) rfl hp rfl (X _ _ hcode) rfl hvs hfile htop ?_
  refine ks_loadName_global hk hks (loadGlobal_builtin (env := ksEnv q scope L fI (.ref cda) cc) (hg.keeps F.keep) (mg_none_of X₀ hg hsuper) (hb.keeps F.keep) (hbs.trans (by first | boot_by_name | rfl | kernel_rfl)) ⟨rfl, ?_⟩)
  refine wpAny_loadName_free hk hkc rfl ⟨_, X _ _ hcell, rfl⟩ ?_
  refine wpAny_loadName_local hk hka F.ns hv ?_
  refine ks_wpAny_isType_cls hD1 hD2 ⟨rfl, ?_⟩
  refine ks_wpAny_call_super hD1 hD2 I.at_ I.cls (fun c e => ?_) (looks_mroIn X hsub) (fun h' e k => ?_)
  · have := I.no
    unfold notCls at this
    rw [e] at this
    exact Bool.noConfusion this
  · obtain ⟨F', N', l'⟩ := ks_newsPush (s := ⟨hh, g, d, t, os⟩) (news := []) F News.nil rfl e k
    exact h _ _ F' N' k
end
/-- a made one -/
structure OwnMade (f : Str) (h h' : Heap) (e C d : Addr) (v : Value) : Prop where
  keep : ∀ b o, h.get? b = some o → h'.get? b = some o
  new : h.objs.size ≤ e
  obj : ∃ oe vs, h'.get? e = some oe ∧ oe.cls = .ref C ∧ oe.dict = some d ∧ oe.data = .fields vs ∧ vs[1]? = some .none
  dbig : h.objs.size ≤ d
  dne : d ≠ e
  ns : h'.Ns1 d (fun y => if y = f then some v else none)
open L2 in
theorem relO_one {f0 : Str} {v : V} {v' : Value} (r : RelV v v') (f : Str) : RelO (List.lookup f [(f0, v)]) (if f = f0 then some v' else none) := by
  by_cases hw : f = f0
  · subst hw
    rw [if_pos rfl]
    have q : List.lookup f [(f, v)] = some v := by simp [List.lookup]
    rw [q]
    exact r
  · rw [if_neg hw]
    have qw : (f == f0) = false := by simpa using hw
    have q2 : List.lookup f [(f0, v)] = none := by simp [List.lookup, qw]
    rw [q2]
    trivial
open L2 in
/-- X(e): the error's own dict, new, holds the field -/
def tMk1 (f : Str) (C : Addr) (ta : TA) : L2.St → Hp → XK → Prop := fun σ H Q => ta σ H fun vs H1 => ∃ v, vs = [v] ∧ ∀ d, H1 d = none → Q (.ref C) (some d) (upd H1 d (.xd [(f, v)]))
/-- self.name = v on an exception that has its dict, any built-in base -/
theorem osa_more {B : String} {bmB : List Value} {prog : Program} {w : World} {A : Around} {R : Result → Shared → Prop} {hp : Heap} {g : Array GenState} {d : Drawn} {t : Nat} {os : OsState} {K : W.Frag} {name : Str} {tk : Tok} {v : Value} {x C dx : Addr} {fv : Array Value} {cd : ClassData} {l : List Value} {m0 : Str → Option Value} {nl : List Str} (SF : StoreFacts B bmB "object.__setattr__" "object")
    (X : K.In hp) (hx : hp.get? x = some { cls := .ref C, dict := some dx, data := .fields fv }) (hns : hp.Ns1 dx m0) (hw : Within m0 nl) (hz : nl.length ≤ 1000) (hcd : W.clsIn K C = some cd) (hm : cd.mro = .ref C :: l) (ht : excTail bmB l = true) (hh : cd.hasDict = true) (ha : W.findIn K (.ref C) name = some none)
    (hq : ∀ h' tk', (∀ b o, b ≠ dx → hp.get? b = some o → h'.get? b = some o) → h'.Ns1 dx (fun y => if y = name then some v else m0 y) → R (.ok (.ret .none)) ⟨h', g, d, tk', os⟩) :
    codeAny (model prog w) A (.call (.builtin "object.__setattr__") ⟨[.ref x, .str name tk, v], []⟩) R ⟨hp, g, d, t, os⟩ := by
  obtain ⟨oD, esD, epD, hoD, hdD, _⟩ := hns.count hw
  have I : W.InstAt hp x { cls := .ref C, dict := some dx, data := .fields fv } C (some oD) := ⟨hx, rfl, rfl, hoD⟩
  have SO := F.store_object
  have hob : cd.mro.contains (.type "object") = true := by
    rw [hm, List.contains_cons, excTail_contains "object" l ht, SF.hasOwner, Bool.or_true]
  have sub : W.Looks (model prog w) hp (isInstance (.ref x) (.type "object")) true := I.type.andThen (W.looks_mroIn X (by unfold W.mroIn; rw [hcd, Option.bind_some, if_neg (by rw [hm]; exact Bool.false_ne_true), hob]))
  refine codeAny_call_builtin SO.slot.plain SO.entry (@W.check_slot (model prog w) _ _ ⟨hp, g, d, t, os⟩ "object.__setattr__" "object" "__setattr__" (.ref x) [.str name tk, v] [] _ SO.kind SO.split sub (SO.args (.ref x) (.str name tk) v) ?_)
  have hmr : W.Looks (model prog w) hp (mroOf (.ref C)) cd.mro := (W.looks_clsIn X hcd).andThen .now
  have L3 : W.Looks (model prog w) hp (storeTaker? none) none := .now
  have hcls : W.Looks (model prog w) hp (classData C) cd := W.looks_clsIn X hcd
  have hpass : refuseLoop (.ref x) "__setattr__" cd.mro = pure () := by
    rw [hm, refuseLoop_ref]
    exact excTail_pass _ (SF.passes _) l ht
  rw [W.osa_eq, refuse_eq]
  refine wpAny_bind (wpAny_bind (I.type.at (wpAny_bind (hmr.at ?_))))
  rw [hpass]
  refine wpAny_pure (wpAny_bind (I.type.at (wpAny_bind ((W.looks_findIn X ha).at (wpAny_bind (L3.at ?_))))))
  show wpAny _ _ (storeInOwnDict (.ref x) (.ref C) (.str name tk) name v false) _ _ _
  obtain ⟨nm, bs, mro, ns, qn, hd, sn, sb, ab, col, del⟩ := cd
  dsimp only at hh
  subst hh
  unfold storeInOwnDict ownDictForStores
  repeat (first | with_reducible refine OEX.store_in_old hns hw hz ?_ | with_reducible refine wpAny_loadPart_at hx ?_ | with_reducible refine hcls.at ?_ | wp_step)
  intro h' tk' hn' hs
  exact hq h' tk' (fun b o hb ho => (hs.2 b hb).trans ho) hn'
structure InitEndT (f f2 : Str) (h h' : Heap) (x C dx t1 : Addr) (v v2 : Value) : Prop where
  keep : ∀ b o, b ≠ x → h.get? b = some o → h'.get? b = some o
  obj : h'.get? x = some { cls := .ref C, dict := some dx, data := .fields #[.ref t1, .none, .none, .none, .bool false, .none] }
  dbig : h.objs.size ≤ dx
  dne : dx ≠ x
  ns : h'.Ns1 dx (fun y => if y = f2 then some v2 else if y = f then some v else none)
structure OwnMadeT (f f2 : Str) (h h' : Heap) (e C d : Addr) (v v2 : Value) : Prop where
  keep : ∀ b o, h.get? b = some o → h'.get? b = some o
  new : h.objs.size ≤ e
  obj : ∃ oe vs, h'.get? e = some oe ∧ oe.cls = .ref C ∧ oe.dict = some d ∧ oe.data = .fields vs ∧ vs[1]? = some .none
  dbig : h.objs.size ≤ d
  dne : d ≠ e
  ns : h'.Ns1 d (fun y => if y = f2 then some v2 else if y = f then some v else none)
open L2 in
theorem relO_two {f0 f1 : Str} {v v2 : V} {v' v2' : Value} (hf : f0 ≠ f1) (r : RelV v v') (r2 : RelV v2 v2') (f : Str) : RelO (List.lookup f [(f0, v), (f1, v2)]) (if f = f1 then some v2' else if f = f0 then some v' else none) := by
  by_cases hw : f = f0
  · subst hw
    rw [if_neg hf, if_pos rfl]
    have q : List.lookup f [(f, v), (f1, v2)] = some v := by simp [List.lookup]
    rw [q]
    exact r
  · have qw : (f == f0) = false := by simpa using hw
    have q : List.lookup f [(f0, v), (f1, v2)] = List.lookup f [(f1, v2)] := by simp [List.lookup, qw]
    rw [q, if_neg hw]
    exact relO_one r2 f
open L2 in
theorem vals_two {v v2 : V} {us : List Value} (r : Vals [v, v2] us) : ∃ u u2, us = [u, u2] ∧ RelV v u ∧ RelV v2 u2 := by
  cases r with
  | cons r1 rn =>
    cases rn with
    | cons r2 rn =>
      cases rn
      exact ⟨_, _, rfl, r1, r2⟩
open L2 in
/-- X(e, f): the error's own dict, new, holds both -/
def tMk2 (f f2 : Str) (C : Addr) (ta : TA) : L2.St → Hp → XK → Prop := fun σ H Q => ta σ H fun vs H1 => ∃ v v2, vs = [v, v2] ∧ ∀ d, H1 d = none → Q (.ref C) (some d) (upd H1 d (.xd [(f, v), (f2, v2)]))
theorem ExF.second {prog : Program} {K : Frag} {mg : Str → Option Value} {x f p f2 p2 qual : Str} {st : Stmt} {B newId i : String} {bmB : List Value} {C fI : Addr} (T : ExF prog K mg x f p qual st B newId i bmB C fI) (h : findIn K (.ref C) f2 = some none) : ExF prog K mg x f2 p2 qual st B newId i bmB C fI := { T with no := h }
end SupX
end PySem
namespace L2
open PySem PySem.Spec PyProof.Rows
section
variable {X : Cx} {C fI : Addr} {x f p qual : Str} {st : Stmt} {B newId i : String} {bmB : List Value}
/-- e.f, e the exception that the suite holds (at a; its class cls, its dict d) -/
def tBy1 (f : Str) (C : Addr) (a : Addr) (cls : Value) (d : Option Addr) (te : TE) : TE := fun σ H Q => te σ H fun x H1 => x = .ref a ∧ cls = .ref C ∧ ∃ (dd : Addr) (fs : List (Str × V)) (v : V), d = some dd ∧ H1 dd = some (.xd fs) ∧ fs.lookup f = some v ∧ Q v H1
theorem pe_by1 {a : Addr} {oe : Obj} {cls : Value} {d : Option Addr} {pn : List (Addr × Obj)} {e : Expr} {te : TE} {pos : Pos} (T : PySem.SupX.ExF X.prog X.K X.mg x f p qual st B newId i bmB C fI) (hz : Zc cls d oe) (hf : ∃ vs, oe.data = .fields vs) (he : PE (X.suite a ((a, oe) :: pn)) e te)
    (hb : attributeBase e f X.env (eval e X.env) = eval e X.env := by rfl) :
    PE (X.suite a ((a, oe) :: pn)) (.Attribute e f pos) (tBy1 f C a cls d te) := by
  refine ⟨fun pins s σ H Q I h => ?_⟩
  refine attr_of hb (thn (he.run pins s σ H _ I h) fun u s1 hh => ?_)
  obtain ⟨x, H1, I1, rx, ex, ec, dd, fs, v, ed, ea, l, q⟩ := hh
  subst ex
  obtain rfl : u = Value.ref a := rx
  subst ec
  subst ed
  obtain ⟨ha, _⟩ := I1.pin (a, oe) (List.mem_append_left _ List.mem_cons_self)
  obtain ⟨vs, hd⟩ := hf
  have hx : ObjOk X.prog X.w H1 s1.heap dd (.xd fs) := I1.hok dd _ ea
  obtain ⟨mA, hns, hr⟩ := hx
  obtain ⟨od, ho, hl⟩ := lookIn_ns hns
  obtain ⟨u, hu, ru⟩ := RelO.some_of (v := v) (o := mA f) (by rw [← l]; exact hr f)
  have J : PySem.W.InstAt s1.heap a oe C (some od) := ⟨ha, hz.1, by unfold PySem.W.notCls; rw [hd] <;> rfl, by rw [hz.2]; exact ho⟩
  exact HandSPX.exc_get I1.kIn J T.ga T.gg T.exC (PySem.W.findObj_own T.hdC T.no rfl (by rw [hl, hu])) (handed_of ru) ⟨v, H1, I1.tok _, ru, q⟩
end
end L2

/-! ### except clauses in a row, some with a name, all that is wished for being caught -/
namespace L2
open PySem PySem.Spec PyProof.Rows
structure Cls1 where
  c : Value
  i : Option Nat
  ts : Addr → Value → Option Addr → TS
def Cls1.ends (q : Cls1) (D : Ends) : Ends := match q.i with
  | none => D
  | some i => { nx := fun σ H => D.nx (σ.set i none) H, rt := D.rt, bk := fun σ H => D.bk (σ.set i none) H, ct := fun σ H => D.ct (σ.set i none) H }
def Cls1.at (q : Cls1) (a : Addr) (σ : St) : St := match q.i with
  | none => σ
  | some i => σ.set i (some (.ref a))
def wMix (K : PySem.W.Frag) (D : Ends) : List Cls1 → WX
  | [] => fun _ _ _ _ => False
  | q :: r => fun cls d σ H => ∃ b, PySem.W.exmOne K cls q.c = some b ∧ (b = true → ∀ a, H a = none → q.ts a cls d (q.ends D) (q.at a σ) H) ∧ (b = false → wMix K D r cls d σ H)
def SuiteOk (X : Cx) (b : List Stmt) (ts : Addr → Value → Option Addr → TS) : Prop :=
  ∀ (a : Addr) (oe : Obj) (cls : Value) (d : Option Addr) (pn : List (Addr × Obj)), Zc cls d oe → (∃ vs, oe.data = .fields vs) → PSs (X.suite a ((a, oe) :: pn)) b (ts a cls d)
inductive ClsOk (X : Cx) : List ExceptHandler → List Cls1 → Prop
  | nil : ClsOk X [] []
  | plain {x : Str} {c : Value} {ts} {b₀ : Stmt} {b : List Stmt} {np p : Pos} {hs l} (hc : Names X x c) (ok : SuiteOk X (b₀ :: b) ts) (r : ClsOk X hs l) : ClsOk X (.ExceptHandler (some (.Name x np)) none (b₀ :: b) p :: hs) (⟨c, none, ts⟩ :: l)
  | named {x n : Str} {c : Value} {i : Nat} {ts} {b₀ : Stmt} {b : List Stmt} {np p : Pos} {hs l} (hi : X.N[i]? = some n) (hln : X.env.kindOf n = some .local) (hc : Names X x c) (ok : SuiteOk X (b₀ :: b) ts) (r : ClsOk X hs l) :
      ClsOk X (.ExceptHandler (some (.Name x np)) (some n) (b₀ :: b) p :: hs) (⟨c, some i, ts⟩ :: l)
theorem ps_try_mix {X : Cx} {body : List Stmt} {hds : List ExceptHandler} {l : List Cls1} {pos : Pos} {tb : WX → TS} (hs : X.stack = X.env :: X.outer) (hf : X.env.frame = some X.env.locals) (hN : X.N.Nodup) (hne : hds ≠ [])
    (hb : ∀ (W : WX) (pn : List (Addr × Obj)) (xe : Value → Shared → Prop), Takes (X.tr pn xe) W → PassesOwn (model X.prog X.w) X.A X.env xe → PSs (X.tr pn xe) body (tb W))
    (hh : ClsOk X hds l) : PS X (.Try body hds [] [] pos) (fun D σ H => tb (wMix X.K D l) D σ H) := by
  obtain ⟨h₀, hd', rfl⟩ : ∃ h t, hds = h :: t := by
    cases hds with
    | nil => exact absurd rfl hne
    | cons h t => exact ⟨h, t, rfl⟩
  refine ⟨fun pins s σ H D I h => wpAny_Try_except ?_⟩
  have ok := I.ok
  refine wpAny_mono ((hb (wMix X.K D l) (X.pn ++ pins) (fun e s₁ => wpAny (model X.prog X.w) X.A (noteFrame e X.env) (fun _ s₂ => wpAny (model X.prog X.w) X.A (setFlight e none) (fun _ s₃ =>
    wpAny (model X.prog X.w) X.A (handleBy e X.env (h₀ :: hd')) (SP X pins D) X.xe s₃) X.xe s₂) X.xe s₁) (fun u s' xx => ?_) PassesOwn.looking).run [] s σ H D (I.toTry _) h) (fun f s1 g => ?_) (fun _ _ he => he)
  case refine_2 =>
    cases f with
    | next => exact let ⟨σ', H', J, q⟩ := g; wpAny_execs_nil ⟨σ', H', J.ofTry ok, q⟩
    | brk => exact let ⟨σ', H', J, q⟩ := g; ⟨σ', H', J.ofTry ok, q⟩
    | cont => exact let ⟨σ', H', J, q⟩ := g; ⟨σ', H', J.ofTry ok, q⟩
    | ret u => exact let ⟨v, σ', H', J, r, q⟩ := g; ⟨v, σ', H', J.ofTry ok, r, q⟩
  obtain ⟨a, B, sI, pins', σ', H', cls, d, rfl, J', nb, up, sky, na, os, ag, w⟩ := xx
  have J : Inv X pins σ' H' sI := J'.ofTry ok
  refine Sky.land Zc.steady (by rw [ok.frames, hs]) hf (show Sky B (X.env :: X.outer) a (Zc cls d) X.env.locals s'.heap by rw [← hs]; exact sky) fun h3 fl up3 => ?_
  have J3 : Inv X pins σ' H' { s' with heap := h3 } := J.landed nb fl.1 (up.trans up3) os ag
  obtain ⟨oe, vs, he, hz, hd⟩ := fl.there
  have away : a ∉ frs (X.env :: X.outer) := fun hm => by
    obtain ⟨_, o', e', nf⟩ := fl.2.2.1.mem hm
    rw [he] at e'; cases e'
    exact nf _ hd
  have nL : a ≠ X.env.locals := fun z => away (List.mem_filterMap.mpr ⟨X.env, List.mem_cons_self, by rw [hf, z]⟩)
  have nF : a ∉ X.fs := fun hm => by
    obtain ⟨e, h1, q⟩ := List.mem_filterMap.mp hm
    exact away (List.mem_filterMap.mpr ⟨e, List.mem_cons_of_mem _ h1, q⟩)
  have S3 := J3.suite he hd na nL nF
  have LT : PySem.W.Looks (model X.prog X.w) h3 (typeOf (.ref a)) cls := fun A Q E s k q => wpAny_typeOf_ref (k _ _ he) (by rw [hz.1]; exact q)
  have look : ∀ {x : Str} {np : Pos} {c : Value}, Names X x c → ∀ {Q : Value → Shared → Prop} {E : Value → Shared → Prop}, Q c { s' with heap := h3 } → wpAny (model X.prog X.w) (X.A.mark (some (.ref a))) (eval (.Name x np) X.env) Q E { s' with heap := h3 } := by
    rintro x np c ⟨hg, hdb, hm | ⟨hm, hv, hnn⟩⟩ Q E q
    · exact ld_glob (X := X.suite a ((a, oe) :: (X.pn ++ pins))) S3 hg hm q hdb
    · exact ld_blt (X := X.suite a ((a, oe) :: (X.pn ++ pins))) S3 hg hm hv q hnn hdb
  have go : ∀ {hs l}, ClsOk X hs l → wMix X.K D l cls d σ' H' → wpAny (model X.prog X.w) X.A (handleBy (.ref a) X.env hs) (SP X pins D) X.xe { s' with heap := h3 } := by
    intro hs l hk
    induction hk with
    | nil => exact fun w => w.elim
    | plain hc su r ih =>
      rintro ⟨b, hb1, yes, no⟩
      refine wpAny_handleBy_cons (codeAny_handlers_test ?_) (by intro q; cases q)
      refine look hc ((PySem.W.exm_one (M := model X.prog X.w) J3.kIn LT hb1).here ?_)
      cases b with
      | false => exact ih (no rfl)
      | true =>
        refine codeAny_handlers_suite (HandSPX.lands_againZ fl fun h4 fl4 up4 => ?_)
        have J4 : Inv X pins σ' H' { s' with heap := h4 } := J.landed nb fl4.1 ((up.trans up3).trans up4) os ag
        obtain ⟨oe4, vs4, he4, hz4, hd4⟩ := fl4.there
        refine wpAny_mono ((su a oe4 cls d (X.pn ++ pins) hz4 ⟨_, hd4⟩).run [] _ _ H' _ (J4.suite he4 hd4 na nL nF) (yes rfl a na)) (fun f s6 g => ?_) (fun _ _ z => z.elim)
        cases f with
        | next => exact let ⟨σ6, H6, S6, q6⟩ := g; ⟨_, _, S6.unsuite ok, q6⟩
        | brk => exact let ⟨σ6, H6, S6, q6⟩ := g; ⟨_, _, S6.unsuite ok, q6⟩
        | cont => exact let ⟨σ6, H6, S6, q6⟩ := g; ⟨_, _, S6.unsuite ok, q6⟩
        | ret u => exact let ⟨v6, σ6, H6, S6, r6, q6⟩ := g; ⟨_, _, _, S6.unsuite ok, r6, q6⟩
    | named hi hln hc su r ih =>
      rintro ⟨b, hb1, yes, no⟩
      refine wpAny_handleBy_cons (codeAny_handlers_test ?_) (by intro q; cases q)
      refine look hc ((PySem.W.exm_one (M := model X.prog X.w) J3.kIn LT hb1).here ?_)
      cases b with
      | false => exact ih (no rfl)
      | true =>
        refine codeAny_handlers_suite_as (HandSPX.lands_againZ fl fun h4 fl4 up4 => ?_)
        have J4 : Inv X pins σ' H' { s' with heap := h4 } := J.landed nb fl4.1 ((up.trans up3).trans up4) os ag
        obtain ⟨oe4, vs4, he4, hz4, hd4⟩ := fl4.there
        refine store_ok (X := X.suite a ((a, oe4) :: (X.pn ++ pins))) (v := .ref a) (J4.suite he4 hd4 na nL nF) hN hi (.inl hln) rfl (fun s5 S5 => ?_) (.inr hln)
        refine wpAny_mono ((su a oe4 cls d (X.pn ++ pins) hz4 ⟨_, hd4⟩).run [] s5 _ H' _ S5 (yes rfl a na)) (fun f s6 g => ?_) (fun _ _ z => z.elim)
        cases f with
        | next => exact let ⟨σ6, H6, S6, q6⟩ := g; gone_ok (S6.unsuite ok) hN hi hln fun s7 J7 => ⟨_, _, J7, q6⟩
        | brk => exact let ⟨σ6, H6, S6, q6⟩ := g; gone_ok (S6.unsuite ok) hN hi hln fun s7 J7 => ⟨_, _, J7, q6⟩
        | cont => exact let ⟨σ6, H6, S6, q6⟩ := g; gone_ok (S6.unsuite ok) hN hi hln fun s7 J7 => ⟨_, _, J7, q6⟩
        | ret u => exact let ⟨v6, σ6, H6, S6, r6, q6⟩ := g; gone_ok (S6.unsuite ok) hN hi hln fun s7 J7 => ⟨_, _, _, J7, r6, q6⟩
  exact go hh w
end L2

namespace My
/-! ### the last m of a list: of two lists, of a list repeated -/
def lastN {α : Type} (m : Nat) (xs : List α) : List α := xs.drop (xs.length - m)
theorem lastN_len {α : Type} (m : Nat) (xs : List α) : (lastN m xs).length = min m xs.length := by
  rw [lastN, List.length_drop]
  omega
theorem lastN_zero {α : Type} (xs : List α) : lastN 0 xs = [] := by
  rw [lastN, Nat.sub_zero, List.drop_length]
theorem lastN_all {α : Type} {m : Nat} {xs : List α} (h : xs.length ≤ m) : lastN m xs = xs := by
  rw [lastN, Nat.sub_eq_zero_of_le h, List.drop_zero]
theorem lastN_app {α : Type} (m : Nat) (a b : List α) : lastN m (a ++ b) = lastN (m - b.length) a ++ lastN m b := by
  rw [lastN, lastN, lastN, List.drop_append, List.length_append]
  by_cases h : m ≤ b.length
  · rw [List.drop_eq_nil_of_le (by omega : a.length ≤ a.length + b.length - m), List.drop_eq_nil_of_le (by omega : a.length ≤ a.length - (m - b.length)), show a.length + b.length - m - a.length = b.length - m from by omega]
  · rw [show a.length + b.length - m = a.length - (m - b.length) from by omega, show a.length - (m - b.length) - a.length = b.length - m from by omega]
/-- one part more ahead of what was found -/
theorem lastN_step {α : Type} (m : Nat) (a b : List α) : lastN (m - (lastN m b).length) a ++ lastN m b = lastN m (a ++ b) := by
  rw [lastN_app, lastN_len]
  rw [show m - min m b.length = m - b.length from by omega]
theorem lastN_pre {α : Type} {m : Nat} {a b : List α} (h : m ≤ b.length) : lastN m (a ++ b) = lastN m b := by
  rw [lastN_app, show m - b.length = 0 from by omega, lastN_zero, List.nil_append]
theorem lastN_twice {α : Type} (m : Nat) (xs : List α) : lastN m (lastN m xs) = lastN m xs := lastN_all (by rw [lastN_len]; omega)
theorem flat_rep_len {α : Type} (n : Nat) (xs : List α) : (List.replicate n xs).flatten.length = n * xs.length := by
  induction n with
  | zero => simp
  | succ n ih => rw [List.replicate_succ, List.flatten_cons, List.length_append, ih, Nat.succ_mul, Nat.add_comm]
theorem flat_rep_add {α : Type} (a b : Nat) (xs : List α) : (List.replicate (a + b) xs).flatten = (List.replicate a xs).flatten ++ (List.replicate b xs).flatten := by
  rw [← List.flatten_append, List.replicate_append_replicate]
/-- a list repeated often enough -/
theorem lastN_rep {α : Type} {m r n : Nat} {xs : List α} (h : r ≤ n) (hr : r = n ∨ m ≤ r * xs.length) : lastN m (List.replicate r xs).flatten = lastN m (List.replicate n xs).flatten := by
  rcases hr with rfl | hr
  · rfl
  · rw [show n = (n - r) + r from by omega, flat_rep_add, lastN_pre (by rw [flat_rep_len]; exact hr)]
/-- what the last m of a part tell of its repetition -/
theorem lastN_part {α : Type} {m n r : Nat} {xs : List α} (hm : 0 < (lastN m xs).length) (hr : r = min n ((m + ((lastN m xs).length - 1)) / (lastN m xs).length)) :
    lastN m (List.replicate r (lastN m xs)).flatten = lastN m (List.replicate n xs).flatten := by
  have hl := lastN_len m xs
  by_cases h : xs.length ≤ m
  · rw [lastN_all h] at hm hr ⊢
    refine lastN_rep (by omega) ?_
    by_cases c : n ≤ (m + (xs.length - 1)) / xs.length
    · exact Or.inl (by omega)
    · right
      rw [hr, Nat.min_eq_right (by omega)]
      have d := Nat.div_add_mod (m + (xs.length - 1)) xs.length
      have e := Nat.mod_lt (m + (xs.length - 1)) hm
      rw [Nat.mul_comm] at d
      omega
  · have lm : (lastN m xs).length = m := by omega
    have q : (m + ((lastN m xs).length - 1)) / (lastN m xs).length = 1 := by
      rw [lm]
      rw [lm] at hm
      refine Nat.div_eq_of_lt_le (by omega) (by omega)
    rw [q] at hr
    rcases Nat.eq_zero_or_pos n with z | z
    · subst z
      have : r = 0 := by omega
      subst this
      rfl
    · have : r = 1 := by omega
      subst this
      rw [List.replicate_one, List.flatten_cons, List.flatten_nil, List.append_nil, lastN_twice, show n = (n - 1) + 1 from by omega, flat_rep_add, List.replicate_one, List.flatten_cons, List.flatten_nil, List.append_nil, lastN_pre (by omega)]

end My
namespace My
open PySem L2 TL
/-! ### the end of a text, a text without its takes -/
def endS (x : Str) (n : Int) : Str := cutS x (some (max 0 ((x.length : Int) - n))) none
theorem tl_end (x : Str) (n : Nat) : tl (endS x n) = (tl x).drop ((tl x).length - n) := by
  have hl : (tl x).length = x.length := tl_len x
  show ((x.cps.toList.drop (HT.sIx x.length 0 (some (max 0 ((x.length : Int) - n))))).take (HT.sIx x.length x.length none - HT.sIx x.length 0 (some (max 0 ((x.length : Int) - n))))).toArray.toList = _
  have e1 : HT.sIx x.length 0 (some (max 0 ((x.length : Int) - n))) = x.length - n := by
    simp only [HT.sIx]
    rw [if_neg (by omega)]; omega
  have e2 : HT.sIx x.length x.length none = x.length := rfl
  rw [e1, e2, hl]
  show (((tl x).drop (x.length - n)).take (x.length - (x.length - n))) = _
  exact List.take_of_length_le (by rw [List.length_drop]; omega)
theorem replL_one (c : Nat) : ∀ l : List Nat, PySem.StrLaws.replL [c] [] l = l.filter (fun x => decide (x ≠ c))
  | [] => PySem.StrLaws.replL_nil
  | x :: l => by
    by_cases h : x = c
    · subst h
      rw [PySem.StrLaws.replL_hit (by simp) (by simp), List.filter_cons, if_neg (by simp)]
      simpa using replL_one x l
    · rw [PySem.StrLaws.replL_miss (by simpa using h), List.filter_cons, if_pos (by simpa using h), replL_one c l]
theorem replace_one (x : Str) : tl (Txt.replace x ("-" : Str) ("" : Str)) = (tl x).filter (fun c => decide (c ≠ 45)) := by
  have h := PySem.StrLaws.replace_list (x := x) (y := ("-" : Str)) (z := ("" : Str)) (by decide +kernel)
  show (Txt.replace x ("-" : Str) ("" : Str)).cps.toList = _
  rw [h, show ("-" : Str).cps.toList = [45] from by decide +kernel, show ("" : Str).cps.toList = [] from by decide +kernel, replL_one]
end My

namespace My
open PySem PySem.Spec PyProof.Rows L2
/-! ### a lower bound of the tokens carried along: the words of the layer with n ≤ toks -/
section Tok
variable {X : Cx} {n : Nat}
def PEn (n : Nat) (X : Cx) (e : Expr) (t : TE) : Prop := ∀ (pins : List (Addr × Obj)) (s : Shared) (σ : L2.St) (H : Hp) (Q : VK), n ≤ s.toks → L2.Inv X pins σ H s → t σ H Q → wpAny (model X.prog X.w) X.A (eval e X.env) (EP X pins σ Q) X.xe s
def PTn (n : Nat) (X : Cx) (e : Expr) (t : TT) : Prop := ∀ (pins : List (Addr × Obj)) (s : Shared) (σ : L2.St) (H : Hp) (Q : Bool → Hp → Prop), n ≤ s.toks → L2.Inv X pins σ H s → t σ H Q → wpAny (model X.prog X.w) X.A (isTrue e X.env (eval e X.env)) (TP X pins σ Q) X.xe s
def PAn (n : Nat) (X : Cx) (es : List Expr) (t : TA) : Prop := ∀ (pos : Pos) (pins : List (Addr × Obj)) (s : Shared) (σ : L2.St) (H : Hp) (Q : List V → Hp → Prop), n ≤ s.toks → L2.Inv X pins σ H s → t σ H Q → wpAny (model X.prog X.w) X.A (spliced (backTo pos (starEach es X.env))) (AP X pins σ Q) X.xe s
def PSn (n : Nat) (X : Cx) (st : Stmt) (t : TS) : Prop := ∀ (pins : List (Addr × Obj)) (s : Shared) (σ : L2.St) (H : Hp) (D : Ends), n ≤ s.toks → L2.Inv X pins σ H s → t D σ H → wpAny (model X.prog X.w) X.A (exec st X.env) (SP X pins D) X.xe s
def PSsn (n : Nat) (X : Cx) (st : List Stmt) (t : TS) : Prop := ∀ (pins : List (Addr × Obj)) (s : Shared) (σ : L2.St) (H : Hp) (D : Ends), n ≤ s.toks → L2.Inv X pins σ H s → t D σ H → wpAny (model X.prog X.w) X.A (execs st X.env) (SP X pins D) X.xe s
theorem pen_of {e : Expr} {t : TE} (h : PE X e t) : PEn n X e t := fun pins s σ H Q _ I q => h.run pins s σ H Q I q
theorem ptn_of {e : Expr} {t : TT} (h : PT X e t) : PTn n X e t := fun pins s σ H Q _ I q => h.run pins s σ H Q I q
theorem pan_of {es : List Expr} {t : TA} (h : PA X es t) : PAn n X es t := fun pos pins s σ H Q _ I q => h.run pos pins s σ H Q I q
theorem psn_of {st : Stmt} {t : TS} (h : PS X st t) : PSn n X st t := fun pins s σ H D _ I q => h.run pins s σ H D I q
theorem pssn_of {st : List Stmt} {t : TS} (h : PSs X st t) : PSsn n X st t := fun pins s σ H D _ I q => h.run pins s σ H D I q
theorem pssn_cons {st : Stmt} {rest : List Stmt} {t u : TS} (h1 : PSn n X st t) (h2 : PSsn n X rest u) : PSsn n X (st :: rest) (tSeq t u) := by
  intro pins s σ H D h0 I h
  refine wpAny_execs_cons (wpAny_mono (wpAny_toks (h1 pins s σ H { nx := u D, rt := D.rt, bk := D.bk, ct := D.ct } h0 I h)) ?_ (fun _ _ z => z.2))
  rintro f s1 ⟨hk, q⟩
  cases f with
  | next =>
    obtain ⟨σ', H', I', q⟩ := q
    exact h2 pins s1 σ' H' D (Nat.le_trans h0 hk) I' q
  | brk => exact q
  | cont => exact q
  | ret v => exact q
theorem pssn_nil : PSsn n X [] tNext := pssn_of pss_nil
theorem psn_ret {e : Expr} {te : TE} {pos : Pos} (he : PEn n X e te) : PSn n X (.Return (some e) pos) (tRet te) := by
  intro pins s σ H D h0 I h
  refine wpAny_Return_some (thn (he pins s σ H D.rt h0 I h) ?_)
  rintro v s1 ⟨x, H1, I1, r1, q1⟩
  exact ⟨x, σ, H1, I1, r1, q1⟩
theorem psn_asg {pos : Pos} {tg e : Expr} {te : TE} {g : TG} (he : PEn n X e te) (hg : PG X tg g) (hs : swapsWithSole [tg] e pos.line X.env = pure false := by rfl) (hw : swappedStores [tg] e X.env = pure none := by rfl) (h1 : (assignEach [tg] X.env).map (fun x => x.snd) = [assign tg X.env] := by rfl) : PSn n X (.Assign [tg] e pos) (tAsg te g) := by
  intro pins s σ H D h0 I h
  refine wpAny_Assign_stores (thn (he pins s σ H (fun x H1 => g x σ H1 D.nx) h0 I h) ?_) hs hw
  rintro v s1 ⟨x, H1, I1, r1, q1⟩
  rw [h1]
  exact thn (hg.run pins s1 σ H1 x v D.nx I1 r1 q1) fun _ _ q => q
theorem psn_if {pos : Pos} {c : Expr} {a b : List Stmt} {tc : TT} {t u : TS} (hc : PTn n X c tc) (ha : PSsn n X a t) (hb : PSsn n X b u) : PSn n X (.If c a b pos) (tIfS tc t u) := by
  intro pins s σ H D h0 I h
  refine wpAny_If (wpAny_mono (wpAny_toks (hc pins s σ H (fun b H1 => if b = true then t D σ H1 else u D σ H1) h0 I h)) ?_ (fun _ _ z => z.2))
  rintro d s1 ⟨hk, H1, I1, q1⟩
  cases d with
  | true => exact ha pins s1 σ H1 D (Nat.le_trans h0 hk) I1 q1
  | false => exact hb pins s1 σ H1 D (Nat.le_trans h0 hk) I1 q1
theorem pen_op {e f : Expr} {te tf : TE} {pos : Pos} {op : Operator} {r : R2} (ho : OpR X (binaryOp op) r) (ha : PEn n X e te) (hb : PEn n X f tf) : PEn n X (.BinOp e op f pos) (tOp r te tf) := by
  intro pins s σ H Q h0 I h
  refine wpAny_BinOp (wpAny_mono (wpAny_toks (ha pins s σ H (fun x H1 => tf σ H1 fun y H2 => r x y H2 Q) h0 I h)) ?_ (fun _ _ z => z.2))
  rintro v s1 ⟨hk, x, H1, I1, r1, q1⟩
  refine thn (hb pins s1 σ H1 (fun y H2 => r x y H2 Q) (Nat.le_trans h0 hk) I1 q1) ?_
  rintro u s2 ⟨y, H2, I2, r2, q2⟩
  exact ho pins s2 σ H2 x y v u Q I2 r1 r2 q2
theorem pan_cons {e : Expr} {es : List Expr} {te : TE} {ta : TA} (ha : PEn n X e te) (hr : PAn n X es ta) (hs : starEach (e :: es) X.env = (false, eval e X.env) :: starEach es X.env := by rfl) : PAn n X (e :: es) (tCons te ta) := by
  intro pos pins s σ H Q h0 I h
  rw [hs]
  refine Calls.spliced_cons (wpAny_mono (wpAny_toks (ha pins s σ H (fun x H1 => ta σ H1 fun xs H2 => Q (x :: xs) H2) h0 I h)) ?_ (fun _ _ z => z.2))
  rintro v s1 ⟨hk, x, H1, I1, r1, q1⟩
  refine thn (hr pos pins s1 σ H1 (fun xs H2 => Q (x :: xs) H2) (Nat.le_trans h0 hk) I1 q1) ?_
  rintro us s2 ⟨xs, H2, I2, r2, q2⟩
  exact ⟨x :: xs, H2, I2, Paired.cons r1 r2, q2⟩
/-- a def that keeps its promise when at least n tokens have been given out -/
structure FnOkN (n : Nat) (P : Program) (w : World) (K : PySem.W.Frag) (mg : Str → Option Value) (base : Heap) (CX : CXT) (k : Nat) (f : Addr) (fd : FuncData) (ps : List Str) (sp : Sp) : Prop where
  len : ∀ (vs : List V) (H : Hp) (Q : VK) (E : XK), sp vs H Q E → vs.length = ps.length
  run : ∀ (A : Around) (outer : List Env) (s : Shared) (H : Hp) (args : Args) (us : List Value) (vs : List V) (Q : VK) (E : XK), n ≤ s.toks → Room k A → Env0 P w K mg base A outer s H → BindsTo s fd args (ps.zip us) → Vals vs us → sp vs H Q E → codeAny (model P w) A (.call (.ref f) args) (CR CX outer P w H s Q E) s
theorem run_fnN {CX : CXT} {k : Nat} {f : Addr} {fd : FuncData} {ps : List Str} {sp : Sp} {E : L2.St → XK} {pins : List (Addr × Obj)} {σ : L2.St} {H : Hp} {s : Shared} {Q : VK} {us : List Value} {vs : List V} (F : FnOkN n X.prog X.w X.K X.mg X.base CX k f fd ps sp) (hr : Room k X.A) (hb : Binds X.K fd ps []) (hx : PassesAt CX X σ (E σ)) (h0 : n ≤ s.toks) (I : L2.Inv X pins σ H s) (r : Vals vs us) (h : sp vs H Q (E σ)) : wpAny (model X.prog X.w) X.A (call (.ref f) us) (EP X pins σ Q) X.xe s := by
  have hl : us.length = ps.length := (Vals.length r).symm ▸ F.len vs H Q (E σ) h
  have b := hb s us (L2.Inv.kIn I) (by rw [List.append_nil]; exact hl)
  rw [List.append_nil] at b
  refine wpAny_call (codeAny_mono (F.run X.A X.stack s H ⟨us, []⟩ us vs Q (E σ) h0 hr (L2.Inv.env0 I) b r h) ?_)
  intro r s' hq
  cases r with
  | error e => exact hx pins H s e s' I hq
  | ok fl =>
    cases fl with
    | next => exact hq
    | brk => exact hq
    | cont => exact hq
    | ret u => exact L2.Inv.after I hq
theorem pen_callS {CX : CXT} {k : Nat} {f : Addr} {fd : FuncData} {ps : List Str} {sp : Sp} {E : L2.St → XK} {x : Str} {p pos : Pos} {e : Expr} {es : List Expr} {t : TA} (F : FnOkN n X.prog X.w X.K X.mg X.base CX k f fd ps sp) (hr : Room k X.A) (hg : Gl X x) (hm : X.mg x = some (.ref f)) (hk : PySem.W.keepIn X.K (.ref f) = true) (hb : Binds X.K fd ps []) (hx : ∀ σ : L2.St, PassesAt CX X σ (E σ)) (ha : PAn n X (e :: es) t) (hdb : (x == "__debug__") = false := by rfl) (he : starEach (e :: es) X.env = (false, eval e X.env) :: starEach es X.env := by rfl) (hpl : ((backTo pos (starEach es X.env)).any fun x => x.fst) = false := by rfl) : PEn n X (.Call (.Name x p) (e :: es) [] pos) (tCallS sp E t) := by
  intro pins s σ H Q h0 I h
  refine wpAny_Call_Name_kw (ld_glob I hg hm (PySem.W.callWith_K I.ok.mod.kin hk (wpAny_mono (wpAny_toks (ha pos pins s σ H (fun vs H1 => sp vs H1 Q (E σ)) h0 I h)) ?_ (fun _ _ z => z.2)) he hpl) hdb)
  rintro us s1 ⟨hk1, vs, H1, I1, r, q⟩
  exact ⟨L2.Inv.kIn I1, run_fnN F hr hb (hx σ) (Nat.le_trans h0 hk1) I1 r q⟩
theorem fn_ofN {CX : CXT} {P : Program} {w : World} {K : PySem.W.Frag} {mg : Str → Option Value} {base : Heap} {k : Nat} {f : Addr} {name qual : Str} {params : Arguments} {body : List Stmt} {scope : Scope} {dV kV doc pm cdv ct oc : Value} {an od : Option Addr} {osl : Array (Option Value)} {N ps : List Str} {sp : Sp}
    (lk : List.lookup f K = some { cls := oc, dict := od, data := .func (PySem.W.fnOf name qual params body scope dV kV doc pm an cdv ct), slots := osl }) (hcd : PySem.W.codeIn K cdv qual = true) (S : FnScope N ps scope)
    (len : ∀ (vs : List V) (H : Hp) (Q : VK) (E : XK), sp vs H Q E → vs.length = ps.length)
    (hbody : ∀ (A : Around) (outer : List Env) (s : Shared) (H : Hp) (vs : List V) (Q : VK) (E : XK), Room k (A.deeper (PyProof.Rows.envOfC qual scope s.heap.objs.size f cdv)) → sp vs H Q E →
      ∃ t, PSsn n (cxOf CX P w K mg base N qual scope f cdv A outer s H E) body t ∧ t { nx := fun _ H' => Q V.non H', rt := Q } (L2.start N vs) H) :
    FnOkN n P w K mg base CX (k + 1) f (PySem.W.fnOf name qual params body scope dV kV doc pm an cdv ct) ps sp := by
  refine ⟨len, fun A outer s H args us vs Q E h0 hr e0 hb r hsp => ?_⟩
  have hl := len vs H Q E hsp
  have KX := PySem.W.Frag.In.keeps e0.mod.kin fun b o e => (e0.bs b o e).1
  have lim := Heap.NoLimit.keeps e0.mod.nolimit fun b o e => (e0.bs b o e).1
  have hkind : ∀ x : Str × Value, x ∈ ps.zip us → List.lookup x.fst scope.names = some NameKind.local ∨ List.lookup x.fst scope.names = some NameKind.cell ∧ (List.lookup x.fst (cellsFrom (s.heap.objs.size + 1) scope.names [])).isSome = true := by
    rintro ⟨y, v⟩ hy
    rcases S.par y (List.of_mem_zip hy).1 with q | q
    · exact Or.inl q
    · exact Or.inr ⟨q, PySem.W.cellsFrom_some scope.names (s.heap.objs.size + 1) [] (Or.inl q)⟩
  refine codeAny_call_function (L2.Room.depth hr) (KX f _ lk) rfl S.co S.gen rfl (PySem.W.codeRec_of KX hcd) (hb (model P w) A.in1 _ _ ?_)
  have start := wpAny_toks (wpAny_newFunctionEnv_cells (M := model P w) (A := A.in1) (E := fun e s' => CR CX outer P w H s Q E (Except.error e) s') (globals := mainGlobals) (qual := qual ++ ".<locals>.") (func := some f) (code := cdv) (builtins := builtinsNs) (Q := fun env s1 => env = newEnv scope s.heap.objs.size mainGlobals (cellsFrom (s.heap.objs.size + 1) scope.names []) (qual ++ ".<locals>.") (some f) cdv none builtinsNs ∧ InCallC s env.locals (bindL env.kindOf (ps.zip us) fun _ => none) env.cells (bindC env.kindOf (ps.zip us) fun _ => none) s1) S.kind hkind (fun env he s1 x => ⟨he, x⟩))
  refine wpAny_mono start ?_ (fun _ _ z => z.2)
  rintro env s1 ⟨htk, he, x⟩
  subst he
  refine ⟨Heap.NoLimit.keeps lim x.toInCall.keep, codeAny_func ?_⟩
  obtain ⟨t, ht, hq⟩ := hbody A outer s H vs Q E (L2.Room.deeper hr (PyProof.Rows.envOfC qual scope s.heap.objs.size f cdv)) hsp
  have I := inv_start (E := E) (CX := CX) S hr.hd e0 hl r x
  refine wpAny_mono (ht [] s1 (L2.start N vs) H { nx := fun _ H' => Q V.non H', rt := Q } (Nat.le_trans h0 htk) I hq) ?_ (fun _ _ hs => hs)
  intro fl s' hs
  cases fl with
  | next =>
    obtain ⟨σ', H', J, q⟩ := hs
    exact ⟨V.non, H', J.os, J.bare, J.base, J.hok, rfl, q⟩
  | brk =>
    obtain ⟨_, _, _, q⟩ := hs
    exact q.elim
  | cont =>
    obtain ⟨_, _, _, q⟩ := hs
    exact q.elim
  | ret u =>
    obtain ⟨v, σ', H', J, rv, q⟩ := hs
    exact ⟨v, H', J.os, J.bare, J.base, J.hok, rv, q⟩
theorem okN {P : Program} {w : World} {K : PySem.W.Frag} {mg : Str → Option Value} {base : Heap} {x qual : Str} {params : Arguments} {body : List Stmt} {scope : Scope} {dvs : List V} {kws : List (Str × V)} {f : Addr} {fd : FuncData} {CX : CXT} {N ps : List Str} {k : Nat} {sp : Sp} (F : FunD K x qual params body scope dvs kws f fd) (S : FnScope N ps scope)
    (len : ∀ (vs : List V) (H : Hp) (Q : VK) (E : XK), sp vs H Q E → vs.length = ps.length)
    (hbody : ∀ (cdv : Value) (A : Around) (outer : List Env) (s : Shared) (H : Hp) (vs : List V) (Q : VK) (E : XK), Room k (A.deeper (PyProof.Rows.envOfC qual scope s.heap.objs.size f cdv)) → sp vs H Q E →
      ∃ t, PSsn n (cxOf CX P w K mg base N qual scope f cdv A outer s H E) body t ∧ t { nx := fun _ H' => Q V.non H', rt := Q } (L2.start N vs) H) :
    FnOkN n P w K mg base CX (k + 1) f fd ps sp := by
  obtain ⟨oc, od, dV, kV, doc, pm, an, cdv, ct, osl, rfl, lk, hcd, _⟩ := F.ex
  exact fn_ofN lk hcd S len fun A outer s H vs Q E hr hsp => hbody cdv A outer s H vs Q E hr hsp
/-- e.replace(NAME, "") with a name of the module whose token is below n -/
theorem pen_repl {o : Expr} {to : TE} {x y z : Str} {u : Tok} {k : Nat} {c0 c1 apos pos : Pos} (hg : Gl X x) (hm : X.mg x = some (.str y u)) (hu0 : u ≠ 0) (hun : u < n) (ho : PEn n X o to) (hyz : (y == z) = false := by rfl)
    (hdb : (x == "__debug__") = false := by rfl)
    (hst : starEach [.Name x c0, .Constant (.str z) k c1] X.env = [(false, eval (.Name x c0) X.env), (false, eval (.Constant (.str z) k c1) X.env)] := by rfl)
    (hbase : attributeBase o "replace" X.env (eval o X.env) = eval o X.env := by rfl) (hline : (apos.endLine == pos.line) = true := by rfl) :
    PEn n X (.Call (.Attribute o "replace" apos) [.Name x c0, .Constant (.str z) k c1] [] pos) (CwR.tReplC to y z) := by
  intro pins s σ H Q h0 I h
  refine Call_method2 hbase hst hline (wpAny_mono (wpAny_toks (ho pins s σ H (fun v H1 => ∃ x, v = V.str x ∧ x.length + (x.length + 1) * z.length ≤ 16777216 ∧ Q (V.str (Txt.replace x y z)) H1) h0 I h)) ?_ (fun _ _ q => q.2))
  rintro v s1 ⟨hk, v', H1, I1, r1, x', rfl, hb, q⟩
  obtain ⟨tx, rfl⟩ := r1
  have hns : n ≤ s1.toks := Nat.le_trans h0 hk
  refine ⟨"str", "str.replace", F.plainAttrs_str, F.slot_str_replace, F.type_str_replace, typeIs_str s1 x' tx, (fun _ e => nomatch e), ?_⟩
  refine Calls.callWith_builtin rfl (Calls.evalArgs_plain (Calls.spliced_cons (ld_glob I1 hg hm ?_ hdb)))
  refine Calls.spliced_cons (Calls.Constant_str (Calls.spliced_nil ?_))
  refine SC.replace hu0 (Nat.ne_of_gt (Nat.lt_of_lt_of_le (Nat.lt_of_le_of_lt (Nat.zero_le u) hun) hns)) (Nat.ne_of_lt (Nat.lt_of_lt_of_le hun hns)) hyz hb fun t' k => ?_
  exact ⟨V.str (Txt.replace x' y z), H1, L2.Inv.tok I1 k, ⟨t', rfl⟩, q⟩
theorem psn_for {tg iter : Expr} {body : List Stmt} {wi : TI} {g : TG} {tb : TS} {pos : Pos} (hp : PassesOwn (model X.prog X.w) X.A X.env X.xe) (hc : X.calm = true) (hi : PI X tg iter wi) (hg : PG X tg g) (hb : PSsn n X body tb) (hs : ∀ x, foldedSetIterable iter X.env x = pure x := by intro x; rfl) : PSn n X (.For tg iter body [] pos) (tFor wi g tb) := by
  intro pins s σ H D h0 I h
  refine wpAny_For (wpAny_mono (wpAny_toks (hi.run pins s σ H _ I h)) ?_ (fun _ _ z => z.2)) hs
  rintro v s1 ⟨k1, h1⟩
  refine wpAny_mono (wpAny_toks h1) ?_ (fun _ _ z => z.2)
  rintro itv s2 ⟨k2, it, fp, tn, J, H2, rfl, I2, T, st2, f2, W, ⟨m0, w0⟩, turn⟩
  refine codeAny_forLoop_any (fun m s' => n ≤ s'.toks ∧ ∃ i σ' H', L2.Inv X pins σ' H' s' ∧ tn i s'.heap ∧ (∀ b, b ∈ fp → H' b = none) ∧ W i m σ' H') ?_ m0 ⟨Nat.le_trans h0 (Nat.le_trans k1 k2), 0, _, H2, I2, st2, (fun b hb => (f2 b hb).1), w0⟩
  rintro m s3 ⟨k3, i, σ3, H3, I3, st3, fr3, w3⟩
  have stat : ∀ b, b ∈ fp → FpOk X pins H3 b := fun b hb => ⟨fr3 b hb, (f2 b hb).2⟩
  rcases turn i m σ3 H3 w3 with ⟨stop, qn⟩ | ⟨go, N, hN, step⟩
  · refine wpAny_passesOwn hp (thn (T.done X rfl rfl rfl hc i pins s3 σ3 H3 X.xe I3 stat st3 stop) ?_)
    rintro r s4 ⟨rfl, I4⟩
    exact wpAny_execs_nil ⟨σ3, H3, I4, qn⟩
  · refine wpAny_passesOwn hp (wpAny_mono (wpAny_toks (T.item X rfl rfl rfl hc i pins s3 σ3 H3 X.xe I3 stat st3 go)) ?_ (fun _ _ z => z.2))
    rintro r s4 ⟨k4, u, rfl, h4⟩
    refine wpAny_passesOwn hp (wpAny_mono (wpAny_toks h4) ?_ (fun _ _ z => z.2))
    rintro _ s5 ⟨k5, x, H5, I5, r5, y5, st5, fr5⟩
    have I5' := L2.Inv.pinned I5 (fun b hb => ⟨fr5 b hb, (f2 b hb).2⟩) (T.obj (i + 1) s5.heap st5)
    refine wpAny_passesOwn hp (wpAny_mono (wpAny_toks (hg.run (pins ++ pinsAt fp s5.heap) s5 σ3 H5 x u _ I5' r5 (step x H5 y5))) ?_ (fun _ _ z => z.2))
    rintro _ s6 ⟨k6, σ6, H6, I6, q6⟩
    have k36 : n ≤ s6.toks := Nat.le_trans k3 (Nat.le_trans k4 (Nat.le_trans k5 k6))
    refine wpAny_passesOwn hp (wpAny_mono (wpAny_toks (hb (pins ++ pinsAt fp s5.heap) s6 σ6 H6 { nx := N, rt := D.rt, bk := D.nx, ct := N } k36 I6 q6)) ?_ (fun _ _ z => z.2))
    rintro f s7 ⟨k7, q7⟩
    have more : ∀ σ7 H7, L2.Inv X (pins ++ pinsAt fp s5.heap) σ7 H7 s7 → N σ7 H7 → ∃ m', m' < m ∧ n ≤ s7.toks ∧ ∃ i σ' H', L2.Inv X pins σ' H' s7 ∧ tn i s7.heap ∧ (∀ b, b ∈ fp → H' b = none) ∧ W i m' σ' H' := by
      intro σ7 H7 I7 n7
      obtain ⟨m', hm, w7⟩ := hN σ7 H7 n7
      refine ⟨m', hm, Nat.le_trans k36 k7, i + 1, σ7, H7, L2.Inv.unpinned I7, T.keep (i + 1) s5.heap s7.heap st5 (fun b hb o e => (I7.pin (b, o) (List.mem_append_right X.pn (List.mem_append_right pins (mem_pinsAt hb e)))).1), fun b hb => ?_, w7⟩
      obtain ⟨o, e, _⟩ := T.obj (i + 1) s5.heap st5 b hb
      exact (I7.pin (b, o) (List.mem_append_right X.pn (List.mem_append_right pins (mem_pinsAt hb e)))).2.1
    cases f with
    | next =>
      obtain ⟨σ7, H7, I7, q7⟩ := q7
      exact more σ7 H7 I7 q7
    | cont =>
      obtain ⟨σ7, H7, I7, q7⟩ := q7
      exact more σ7 H7 I7 q7
    | brk =>
      obtain ⟨σ7, H7, I7, q7⟩ := q7
      exact ⟨σ7, H7, L2.Inv.unpinned I7, q7⟩
    | ret v =>
      obtain ⟨v', σ7, H7, I7, r7, q7⟩ := q7
      exact ⟨v', σ7, H7, L2.Inv.unpinned I7, r7, q7⟩
end Tok
theorem FnOkN.of {n : Nat} {P : Program} {w : World} {K : PySem.W.Frag} {mg : Str → Option Value} {base : Heap} {CX : CXT} {k : Nat} {f : Addr} {fd : FuncData} {ps : List Str} {sp : Sp} (F : FnOk P w K mg base CX k f fd ps sp) : FnOkN n P w K mg base CX k f fd ps sp := ⟨F.len, fun A outer s H args us vs Q E _ => F.run A outer s H args us vs Q E⟩

section TokMore
variable {X : Cx} {n : Nat}
theorem pssn_one {st : Stmt} {t : TS} (h : PSn n X st t) : PSsn n X [st] t := pssn_cons h pssn_nil
theorem psn_set {pos : Pos} {i : Nat} {x : Str} {e : Expr} {te : TE} {pos' : Pos} (hN : X.N.Nodup) (hi : X.N[i]? = some x) (hx : L2.Loc X.env.scope x) (he : PEn n X e te) (hs : swapsWith e (some (.Name x pos')) pos.line X.env = pure false := by rfl) (hf : X.fn x = true ∨ List.lookup x X.env.scope.names = some NameKind.local := by first | exact Or.inl rfl | exact Or.inr rfl) : PSn n X (.Assign [.Name x pos'] e pos) (tAsg te (gName i)) := by
  intro pins s σ H D h0 I h
  refine wpAny_Assign_Name (thn (he pins s σ H (fun x H1 => gName i x σ H1 D.nx) h0 I h) ?_) hs
  rintro v s1 ⟨y, H1, I1, r1, q1⟩
  exact store_ok I1 hN hi hx r1 (fun s2 I2 => ⟨σ.set i (some y), H1, I2, q1⟩) hf
theorem pen_cmpR {a b : Expr} {ta tb : TE} {pos : Pos} {op : CmpOp} {r : R2} (ho : OpR X (compareOp op) r) (ha : PEn n X a ta) (hb : PEn n X b tb) (hm : behindInMarks op b = false) : PEn n X (.Compare a [op] [b] pos) (tOp r ta tb) := by
  intro pins s σ H Q h0 I h
  refine wpAny_Compare1 (wpAny_mono (wpAny_toks (ha pins s σ H (fun x H1 => tb σ H1 fun y H2 => r x y H2 Q) h0 I h)) ?_ (fun _ _ z => z.2)) hm
  rintro v s1 ⟨hk, x, H1, I1, r1, q1⟩
  refine thn (hb pins s1 σ H1 (fun y H2 => r x y H2 Q) (Nat.le_trans h0 hk) I1 q1) ?_
  rintro u s2 ⟨y, H2, I2, r2, q2⟩
  exact ho pins s2 σ H2 x y v u Q I2 r1 r2 q2
theorem pen_one {a : Expr} {pos : Pos} {op : BoolOp} {t : TE} (h : PEn n X a t) : PEn n X (.BoolOp op [a] pos) t := fun pins s σ H Q h0 I hw => BoolOp_one (h pins s σ H Q h0 I hw)
theorem ptn_val {e : Expr} {t : TE} (h : PEn n X e t) (he : ∀ whole : Sem Value, isTrue e X.env whole = (do let v ← whole; standAt e.pos; holding [v] (truthy v)) := by intro; rfl) : PTn n X e (tB t) := by
  intro pins s σ H Q h0 I hw
  refine isTrue_plain (thn (h pins s σ H (fun x H1 => ∃ c, x = V.bl c ∧ Q c H1) h0 I hw) ?_) (he (eval e X.env))
  rintro v s1 ⟨x, H1, I1, r1, d, rfl, q⟩
  cases (show v = .bool d from r1)
  exact wpAny_truthy_bool ⟨H1, I1, q⟩
theorem ptn_not {a : Expr} {pos : Pos} {t : TT} (ha : PTn n X a t) : PTn n X (.UnaryOp .Not a pos) (tNot t) := fun pins s σ H Q h0 I h => isTrue_not (ha pins s σ H (fun c H1 => Q (!c) H1) h0 I h)
theorem ptn_cmpR {a b : Expr} {ta tb : TE} {pos : Pos} {op : CmpOp} {r : R2} (ho : OpR X (compareOp op) r) (ha : PEn n X a ta) (hb : PEn n X b tb) (hm : behindInMarks op b = false) : PTn n X (.Compare a [op] [b] pos) (tTest (tOp r ta tb)) := by
  intro pins s σ H Q h0 I h
  refine wpAny_isTrue_Compare1 (wpAny_mono (wpAny_toks (ha pins s σ H (fun x H1 => tb σ H1 fun y H2 => r x y H2 fun x H' => ∃ k, x = V.bl k ∧ Q k H') h0 I h)) ?_ (fun _ _ z => z.2)) hm
  rintro v s1 ⟨hk, x, H1, I1, r1, q1⟩
  refine thn (hb pins s1 σ H1 (fun y H2 => r x y H2 fun x H' => ∃ k, x = V.bl k ∧ Q k H') (Nat.le_trans h0 hk) I1 q1) ?_
  rintro u s2 ⟨y, H2, I2, r2, q2⟩
  refine thn (ho pins s2 σ H2 x y v u (fun x H' => ∃ k, x = V.bl k ∧ Q k H') I2 r1 r2 q2) ?_
  rintro c s3 ⟨z, H3, I3, r3, k, rfl, q3⟩
  cases (show c = .bool k from r3)
  exact wpAny_truthy_bool ⟨H3, I3, q3⟩
def PWn (n : Nat) (X : Cx) (e : Expr) (t : TT) : Prop := ∀ (whole : Sem Value) (pins : List (Addr × Obj)) (s : Shared) (σ : L2.St) (H : Hp) (Q : Bool → Hp → Prop), n ≤ s.toks → L2.Inv X pins σ H s → t σ H Q → wpAny (model X.prog X.w) X.A (PySem.isTrue e X.env whole) (TP X pins σ Q) X.xe s
theorem pwn_of {e : Expr} {t : TT} (h : PW X e t) : PWn n X e t := fun wh pins s σ H Q _ I q => h.run wh pins s σ H Q I q
theorem pwn_or {a b : Expr} {pos : Pos} {tA tB' : TT} {rest : List Expr} (ha : PTn n X a tA) (hb : PWn n X (.BoolOp .Or (b :: rest) pos) tB') : PWn n X (.BoolOp .Or (a :: b :: rest) pos) (tOr tA tB') := by
  intro wh pins s σ H Q h0 I h
  refine isTrue_or (wpAny_mono (wpAny_toks (ha pins s σ H (fun c H1 => if c = true then Q true H1 else tB' σ H1 Q) h0 I h)) ?_ (fun _ _ z => z.2))
  rintro c s1 ⟨hk, H1, I1, q1⟩
  cases c with
  | true => exact ⟨H1, I1, q1⟩
  | false => exact hb wh pins s1 σ H1 Q (Nat.le_trans h0 hk) I1 q1
theorem pwn_or1 {a : Expr} {pos : Pos} {tA : TT} (ha : PTn n X a tA) : PWn n X (.BoolOp .Or [a] pos) tA := by
  intro wh pins s σ H Q h0 I h
  refine isTrue_or (thn (ha pins s σ H Q h0 I h) ?_)
  intro c s1 e
  cases c with
  | true => exact e
  | false => exact isTrue_or_nil e
theorem psn_expr {e : Expr} {te : TE} {pos : Pos} (he : PEn n X e te) (hs : swapsWith e none pos.line X.env = pure false := by rfl) : PSn n X (.Expr e pos) (tDrop te) := by
  intro pins s σ H D h0 I h
  refine wpAny_Expr_any (thn (he pins s σ H (fun _ H1 => D.nx σ H1) h0 I h) ?_) (L2.Inv.quiet I) hs
  rintro v s1 ⟨x, H1, I1, r1, q1⟩
  exact ⟨σ, H1, I1, q1⟩
theorem pen_lst {es : List Expr} {t : TA} {pos : Pos} (h : PAn n X es t) : PEn n X (.List es pos) (tLst t) := by
  intro pins s σ H Q h0 I hq
  refine wpAny_List_spliced (thn (h pos pins s σ H (fun xs H1 => xs.length ≤ sizeLine ∧ ∀ p : Addr, H1 p = none → Q (V.ref p) (upd H1 p (HO.lst xs))) h0 I hq) ?_)
  rintro us s1 ⟨xs, H1, I1, r, z, q⟩
  refine ⟨by rw [← Vals.length r]; exact z, ?_⟩
  have hf := HOk.fresh I1.hok (Nat.le_refl s1.heap.objs.size)
  exact ⟨V.ref s1.heap.objs.size, upd H1 s1.heap.objs.size (HO.lst xs), L2.Inv.laid I1 (fun b u e => Heap.get?_push_of_some { cls := .type "list", data := .seq us.toArray } e) (Nat.le_refl _) ⟨z, us, 0, r, Heap.get?_push_size s1.heap rfl⟩, rfl, q s1.heap.objs.size hf⟩
theorem pen_tup {es : List Expr} {t : TA} {pos : Pos} {x1 : Nat} (h : PAn n X es t) : PEn n X (.Tuple es x1 pos) (tTup t) := by
  intro pins s σ H Q h0 I hq
  refine wpAny_Tuple_spliced (thn (h pos pins s σ H (fun xs H1 => xs.length ≤ sizeLine ∧ ∀ p : Addr, H1 p = none → Q (V.ref p) (upd H1 p (HO.tup xs))) h0 I hq) ?_)
  rintro us s1 ⟨xs, H1, I1, r, z, q⟩
  refine ⟨by rw [← Vals.length r]; exact z, ?_⟩
  have hf := HOk.fresh I1.hok (Nat.le_refl s1.heap.objs.size)
  exact ⟨V.ref s1.heap.objs.size, upd H1 s1.heap.objs.size (HO.tup xs), L2.Inv.laid I1 (fun b u e => Heap.get?_push_of_some { cls := .type "tuple", data := .seq us.toArray } e) (Nat.le_refl _) ⟨z, us, r, { cls := .type "tuple", data := .seq us.toArray }, Heap.get?_push_size s1.heap rfl, rfl, 0, rfl⟩, rfl, q s1.heap.objs.size hf⟩
theorem pen_callB {x : Str} {p pos : Pos} {e : Expr} {es : List Expr} {t : TA} {id : String} {r : List V → Hp → VK → Prop} (hc : CallR X (.builtin id) r) (hg : Gl X x) (hm : X.mg x = none) (hv : bootBuiltins x = some (.builtin id)) (ha : PAn n X (e :: es) t) (hn : x ≠ "__name__" := by decide) (hdb : (x == "__debug__") = false := by rfl) (he : starEach (e :: es) X.env = (false, eval e X.env) :: starEach es X.env := by rfl) (hpl : ((backTo pos (starEach es X.env)).any fun x => x.fst) = false := by rfl) : PEn n X (.Call (.Name x p) (e :: es) [] pos) (tCB r t) := by
  intro pins s σ H Q h0 I h
  refine wpAny_Call_Name_kw (ld_blt I hg hm hv (callWith_builtin1 (thn (ha pos pins s σ H (fun vs H1 => r vs H1 Q) h0 I h) ?_) he hpl) hn hdb)
  rintro us s1 ⟨vs, H1, I1, r1, q1⟩
  exact hc pins s1 σ H1 vs us Q I1 r1 q1
theorem run_fnD {CX : CXT} {k : Nat} {f : Addr} {fd : FuncData} {ps : List Str} {sp : Sp} {dvs : List V} {ds : List Value} {E : XK} {pins : List (Addr × Obj)} {σ : L2.St} {H : Hp} {s : Shared} {Q : VK} {us : List Value} {vs : List V} (F : FnOkN n X.prog X.w X.K X.mg X.base CX k f fd ps sp) (hr : Room k X.A) (hb : Binds X.K fd ps ds) (hd : Vals dvs ds) (hx : Passes CX X E) (h0 : n ≤ s.toks) (I : L2.Inv X pins σ H s) (r : Vals vs us) (h : sp (vs ++ dvs) H Q E) : wpAny (model X.prog X.w) X.A (call (.ref f) us) (EP X pins σ Q) X.xe s := by
  have r2 := Vals.append r hd
  have hl : (us ++ ds).length = ps.length := (Vals.length r2).symm ▸ F.len (vs ++ dvs) H Q E h
  refine wpAny_call (codeAny_mono (F.run X.A X.stack s H ⟨us, []⟩ (us ++ ds) (vs ++ dvs) Q E h0 hr (L2.Inv.env0 I) (hb s us (L2.Inv.kIn I) hl) r2 h) ?_)
  intro r s' hq
  cases r with
  | error e => exact hx pins σ H s e s' I hq
  | ok fl =>
    cases fl with
    | next => exact hq
    | brk => exact hq
    | cont => exact hq
    | ret u => exact L2.Inv.after I hq
theorem pen_call {CX : CXT} {k : Nat} {f : Addr} {fd : FuncData} {ps : List Str} {sp : Sp} {dvs : List V} {ds : List Value} {E : XK} {x : Str} {p pos : Pos} {e : Expr} {es : List Expr} {t : TA} (F : FnOkN n X.prog X.w X.K X.mg X.base CX k f fd ps sp) (hr : Room k X.A) (hg : Gl X x) (hm : X.mg x = some (.ref f)) (hk : PySem.W.keepIn X.K (.ref f) = true) (hb : Binds X.K fd ps ds) (hd : Vals dvs ds) (hx : Passes CX X E) (ha : PAn n X (e :: es) t) (hdb : (x == "__debug__") = false := by rfl) (he : starEach (e :: es) X.env = (false, eval e X.env) :: starEach es X.env := by rfl) (hpl : ((backTo pos (starEach es X.env)).any fun x => x.fst) = false := by rfl) : PEn n X (.Call (.Name x p) (e :: es) [] pos) (tCall sp dvs E t) := by
  intro pins s σ H Q h0 I h
  refine wpAny_Call_Name_kw (ld_glob I hg hm (PySem.W.callWith_K I.ok.mod.kin hk (wpAny_mono (wpAny_toks (ha pos pins s σ H (fun vs H1 => sp (vs ++ dvs) H1 Q E) h0 I h)) ?_ (fun _ _ z => z.2)) he hpl) hdb)
  rintro us s1 ⟨hk1, vs, H1, I1, r, q⟩
  exact ⟨L2.Inv.kIn I1, run_fnD F hr hb hd hx (Nat.le_trans h0 hk1) I1 r q⟩
theorem ptn_w {e : Expr} {t : TT} (h : PWn n X e t) : PTn n X e t := fun pins s σ H Q h0 I q => h (eval e X.env) pins s σ H Q h0 I q
theorem PSsn.nox {st : List Stmt} {t : TS} (h : PSsn n X.nox st t) : PSsn n X st t := fun pins s σ H D h0 I hw =>
  wpAny_mono (h pins s σ H D h0 (L2.Inv.wish I fun _ _ => False) hw) (fun _ _ q => SP.unwish q) fun _ _ z => z.elim
/-- a class called: the arguments alone want the tokens -/
theorem pen_make {CX : CXT} {k : Nat} {f C : Addr} {fd : FuncData} {ps : List Str} {sp : Sp} {dvs : List V} {ds : List Value} {E : XK} {x : Str} {p pos : Pos} {e : Expr} {es : List Expr} {t : TA} (M : Mk X.K C f) (F : FnOk X.prog X.w X.K X.mg X.base CX k f fd ps sp) (hr : Room (k + 1) X.A) (hg : Gl X x) (hm : X.mg x = some (.ref C)) (hb : Binds X.K fd ps ds) (hd : Vals dvs ds) (hx : Passes CX X E)
    (ha : PAn n X (e :: es) t) (hdb : (x == ("__debug__" : Str)) = false := by decide) (he : starEach (e :: es) X.env = (false, eval e X.env) :: starEach es X.env := by rfl) (hpl : ((backTo pos (starEach es X.env)).any fun x => x.fst) = false := by rfl) :
    PEn n X (.Call (.Name x p) (e :: es) [] pos) (tMake C sp dvs E t) := by
  intro pins s σ H Q h0 I h
  refine wpAny_Call_Name_kw (ld_glob I hg hm ?_ hdb)
  refine PySem.W.callWith_K (h₀ := X.base) I.ok.mod.kin M.kp (thn (ha pos pins s σ H _ h0 I h) ?_) he hpl
  rintro us s1 ⟨vs, H1, I1, r, q⟩
  exact ⟨I1.kIn, run_make M F hr hb hd hx I1 r q⟩
/-- in the place of F.ok: a def that raises nothing -/
theorem funN {P : Program} {w : World} {K : PySem.W.Frag} {mg : Str → Option Value} {base : Heap} {x qual : Str} {st : Stmt} {f : Addr} {fd : FuncData} {N ps : List Str} {k : Nat} {sp : Sp} (F : L2.Fun K x qual st f fd) (S : FnScope N ps (defScope st))
    (len : ∀ (vs : List V) (H : Hp) (Q : VK) (E : XK), sp vs H Q E → vs.length = ps.length)
    (hbody : ∀ (cdv : Value) (A : Around) (outer : List Env) (s : Shared) (H : Hp) (vs : List V) (Q : VK) (E : XK), Room k (A.deeper (PyProof.Rows.envOfC qual (defScope st) s.heap.objs.size f cdv)) → sp vs H Q E →
      ∃ t, PSsn n (cxOf CX0 P w K mg base N qual (defScope st) f cdv A outer s H E).nox (defBody st) t ∧ t { nx := fun _ H' => Q V.non H', rt := Q } (L2.start N vs) H) :
    FnOkN n P w K mg base CX0 (k + 1) f fd ps sp := by
  obtain ⟨oc, od, kV, doc, pm, an, cdv, ct, osl, rfl, lk, hcd⟩ := F.ex
  exact fn_ofN lk hcd S len fun A outer s H vs Q E hr hsp => by
    obtain ⟨t, h, q⟩ := hbody cdv A outer s H vs Q E hr hsp
    exact ⟨t, PSsn.nox h, q⟩
/-- in the place of F.okX: a def that may raise -/
theorem funXN {P : Program} {w : World} {K : PySem.W.Frag} {mg : Str → Option Value} {base : Heap} {x qual : Str} {st : Stmt} {f : Addr} {fd : FuncData} {N ps : List Str} {k : Nat} {sp : Sp} (F : L2.Fun K x qual st f fd) (S : FnScope N ps (defScope st))
    (len : ∀ (vs : List V) (H : Hp) (Q : VK) (E : XK), sp vs H Q E → vs.length = ps.length)
    (hbody : ∀ (cdv : Value) (A : Around) (outer : List Env) (s : Shared) (H : Hp) (vs : List V) (Q : VK) (E : XK), Room k (A.deeper (PyProof.Rows.envOfC qual (defScope st) s.heap.objs.size f cdv)) → sp vs H Q E →
      ∃ t, PSsn n (cxOf (L2.CX P w) P w K mg base N qual (defScope st) f cdv A outer s H E) (defBody st) t ∧ t { nx := fun _ H' => Q V.non H', rt := Q } (L2.start N vs) H) :
    FnOkN n P w K mg base (L2.CX P w) (k + 1) f fd ps sp := by
  obtain ⟨oc, od, kV, doc, pm, an, cdv, ct, osl, rfl, lk, hcd⟩ := F.ex
  exact fn_ofN lk hcd S len fun A outer s H vs Q E hr hsp => hbody cdv A outer s H vs Q E hr hsp
end TokMore

/-! ### a law's end where the tokens given out before are told -/
section TokHead
open PySem.W
theorem lay_ints {R : WRecords} {cl : Str → Option Addr} {P : Params} {ord : List DictEntry → List DictEntry} : ∀ (ns : List Int) (s : Shared) (r : List Value × Shared), layAllW R cl P ord (ns.map WData.int) s = some r → s.toks ≤ r.2.toks
  | [], s, r, h => by
    rw [List.map_nil, layAllW.eq_1] at h
    cases h
    exact Nat.le_refl _
  | i :: ns, s, r, h => by
    rw [List.map_cons] at h
    obtain ⟨a, q, h1, h2, rfl⟩ := layAllW_cons h
    rw [layW.eq_3] at h1
    cases h1
    exact Nat.le_trans (Nat.le_succ _) (lay_ints ns _ q h2)
theorem lay_law {R : WRecords} {cl : Str → Option Addr} {P : Params} {ord : List DictEntry → List DictEntry} {ns : List Int} {s : Shared} {r : List Value × Shared} (h : layAllW R cl P ord [WData.list (ns.map WData.int)] s = some r) : s.toks ≤ r.2.toks := by
  obtain ⟨a, q, h1, h2, rfl⟩ := layAllW_cons h
  rw [layAllW.eq_1] at h2
  cases h2
  obtain ⟨q, h3, rfl⟩ := layW_list h1
  exact lay_ints ns s q h3
/-- the law's walk, from states where at least n tokens have been given out -/
def WalkN (n m : Nat) (l : OpenLaw) (q : Program) (loose : List Str) (XP : (Str → Option Value) → Heap → Prop) (YP : World → Heap → Prop) (d : DefRec) : Prop :=
  ∀ (w : World) (s₀ s₁ : Shared) (mg mb : Str → Option Value) (fa : Addr) (o : Obj) (pm cd doc : Value) (a : Addr) (vs : List Value) (ns : List Int), n ≤ s₁.toks → Ground q loose [] XP w s₀ mg mb s₁.heap → YP w s₁.heap → s₁.heap.get? fa = some o →
    o.data = Data.func (Calls.docDef d.name d.params d.body d.scope pm cd doc) → s₁.heap.CodeRec cd d.name → mg d.name = some (.ref fa) → s₁.heap.get? a = some { cls := .type "list", data := .seq vs.toArray } → IntsAre vs ns → ns.length ≤ m → s₁.gens = #[] →
    codeAny (model l.prog w) callerA (.call (.ref fa) { pos := [.ref a] }) (fun r s' => r = .ok (.ret (.bool true)) ∧ OldK s₁.heap s'.heap ∧ s'.os = s₁.os ∧ AllBare s'.gens) s₁
theorem holds_lawT {l : OpenLaw} {q : Program} {loose : List Str} {Xt : Shared → Bool} {XP : (Str → Option Value) → Heap → Prop} {α : Type} {Yf : Shared → α} {Ya : World → α} {YP : World → Heap → Prop} {d : DefRec} {N n m : Nat}
    (hn : l.most = some m) (hdf : d.params.defaults = [])
    (left : LeftO l.row.prog q loose Xt (fun s => (Yf s, Nat.ble n s.toks)) (fun w => (Ya w, true)) N)
    (hY : ∀ w s, Yf s = Ya w → YP w s.heap)
    (hYk : ∀ w h h', YP w h → (∀ b o, h.get? b = some o → h'.get? b = some o) → YP w h')
    (hX : ∀ s, Xt s = true → XP (s.heap.nsMap mainGlobals) s.heap)
    (hXk : ∀ mg h h', XP mg h → (∀ b o, h.get? b = some o → h'.get? b = some o) → XP mg h')
    (hdef : defOf q l.row.name = some (d, []))
    (hp : l.row.prog.theDef l.row.name = some (d.params, d.body, d.scope))
    (hk : kwWritten? d.params.kwonlyargs d.params.kw_defaults = some [])
    (hRf : ∀ s, Xt s = true → RecFacts l.row.records s.heap)
    (hwr : (!l.row.writes || List.isEmpty l.row.records) = true) (k1 : l.row.wellSaid = true)
    (ok : (chainsOk q && opensWell l.row.prog && (frees l.row.toRowW && l.row.within.isEmpty)) = true)
    (hb : l.row.prog.bare) (hw : l.row.promised) (call : WalkN n m l q loose XP YP d) : l.row.Holds := by
  refine ⟨k1, hw, ?_⟩
  obtain ⟨ok, k5⟩ := Bool.and_eq_true_iff.mp ok
  obtain ⟨hch, o1⟩ := Bool.and_eq_true_iff.mp ok
  obtain ⟨k5, k6⟩ := Bool.and_eq_true_iff.mp k5
  obtain ⟨hsame, hu, ha, hap, hm⟩ := frees_parts k5
  refine ⟨⟨hb, o1, by show List.map l.row.maker l.row.makers = []; rw [hm]; rfl⟩, RowW.promised.witness hw, fun w => ⟨(LeftO.behind left hX hch w).1, fun s' hs' => ?_⟩⟩
  obtain ⟨s₀, hf, hg0, s, hT, hz, hgens, hg, G00, y⟩ := (LeftO.behind left (XP := fun mg h => XP mg h ∧ RecFacts l.row.records h) (fun s hs => ⟨hX s hs, hRf s hs⟩) hch w).2 s' hs'
  have y1 : Yf s = Ya w := congrArg Prod.fst y
  have y2 : Nat.ble n s.toks = true := congrArg Prod.snd y
  have G0 : Ground q loose [] XP w s (s.heap.nsMap mainGlobals) (s.heap.nsMap builtinsNs) s.heap := ⟨G00.T, G00.B, G00.D, G00.TE, G00.TD, G00.W, G00.X.1, G00.cls, G00.has, G00.apart, G00.once, G00.K⟩
  have RF := G00.X.2
  have pin : ∀ x : Str, (x ∈ if l.row.pinned = true then [l.row.name] else []) → isTheDefsW l.row.prog s.heap x := by
    intro x hx
    have e : x = l.row.name := by
      by_cases c : l.row.pinned = true
      · rw [if_pos c] at hx
        simpa using hx
      · rw [if_neg c] at hx
        cases hx
    rw [e]
    exact pinned_of_view hg G0 hdef hp hk
  refine ⟨s₀, hf, hg0, s, hT, pin, RF.1, RF.2.1, ?_⟩
  have hgens := Array.eq_empty_of_size_eq_zero (beq_iff_eq.mp hgens)
  have G := RecFacts.ground RF G0
  refine ClaimW.callFrom_of_specG hz hgens fun args hpre hlay ord hord => ?_
  obtain ⟨⟨vs, s₁⟩, hlaid⟩ := Option.isSome_iff_exists.mp (layAllW_isSome G.has args l.row.args s (pre_splitW hpre).1)
  have keeps := layAllW_keeps args s (vs, s₁) hlaid
  have hal := layAllW_rest args s (vs, s₁) hlaid
  obtain ⟨as, hrd, hin, hold⟩ := reads_layAllW hord args s (vs, s₁) hlaid hlay s₁.heap (fun _ _ e => e)
  have L : Laid l.row.records w s s₁ args vs as := ⟨⟨ord, hord, hlaid⟩, hrd, hin, hold, keeps, hal.1.trans hgens, hal.2.2.1⟩
  have G₁ := Ground.keeps hXk G keeps
  obtain ⟨fa, o, pm, cd, doc, dV, kV, h1, h2, h3, h4, h5⟩ := Ground.fn G₁ hdef
  have hwl := Laid.well L
  obtain ⟨a, xs, ns, rfl, rfl, hobj, hints, hlen⟩ := Att.script_of hn hpre hwl
  have tk : n ≤ s₁.toks := Nat.le_trans (Nat.le_of_ble_eq_true y2) (lay_law hlaid)
  cases Dflts.none h5 hdf
  cases Dflts.noKw h5
  have run := call w s s₁ _ _ fa o pm cd doc a xs ns tk G₁ (hYk w s.heap s₁.heap (hY w s y1) keeps) h2 (fd_plain h3) h4 (defOf_name hdef ▸ h1) hobj hints hlen L.gens
  have hi := ident_freeW hu ha hap
  have hwi := List.isEmpty_iff.mp k6
  refine ⟨_, s₁, hlaid, ?_⟩
  have hfn : (s.heap.nsMap mainGlobals) l.row.name = some (.ref fa) := h1
  have fin : ∀ r s', (r = Except.ok (Flow.ret (.bool true)) ∧ OldK s₁.heap s'.heap ∧ s'.os = s₁.os ∧ AllBare s'.gens) → GoodWG l.row.claim (classAt s.heap) (ExcName.means s.heap) [WData.list (ns.map WData.int)] s₁ r s' := by
    rintro r s' ⟨rfl, q2, q3, q4⟩
    exact ⟨Or.inl ⟨.bool true, .bool true, [], rfl, fun _ => rfl, ReadsW.bool true, Att.post_true l _, fun _ => ⟨List.Pairwise.nil, fun _ hm => nomatch hm⟩⟩, q2, q3, q4⟩
  have good : ∀ r s', GoodWG l.row.claim (classAt s.heap) (ExcName.means s.heap) [WData.list (ns.map WData.int)] s₁ r s' → l.row.claim.Ends s [WData.list (ns.map WData.int)] [.ref a] s₁ r s' ∧ s'.os = s.os ∧ AllBare s'.gens ∧ (l.row.writes = true → namesKept l.row.claim.prog l.row.keeps s.heap s'.heap ∧ ∀ x : Str × List (Str × WShape), x ∈ l.row.claim.records → ∀ a : Addr, classAt s.heap x.fst = some a → recordClass s'.heap a x.fst (List.map (fun x => x.fst) x.snd) = true) := by
    intro r s' g
    have z := GoodWG.laid hsame hwi hi L g
    exact ⟨z.1, z.2.1, z.2.2, fun q => ⟨namesKept_of hT hg l.row.keeps keeps g.2.1.old, noTable hwr q⟩⟩
  have base : wpAny (model l.prog w) callerA (PySem.call (.ref fa) [.ref a]) (fun v s' => GoodWG l.row.claim (classAt s.heap) (ExcName.means s.heap) [WData.list (ns.map WData.int)] s₁ (.ok (.ret v)) s') (fun e s' => GoodWG l.row.claim (classAt s.heap) (ExcName.means s.heap) [WData.list (ns.map WData.int)] s₁ (.error e) s') s₁ := by
    refine enter_call (codeAny_mono run ?_)
    intro r s' q
    obtain ⟨rfl, q⟩ := q
    exact fin _ _ ⟨rfl, q⟩
  refine wpAny_bind (wpAny_nsGet G₁.T.g ?_)
  rw [hfn]
  exact wpAny_bind (wpAny_mono base (fun v s' g => wpAny_pure ⟨.ret v, rfl, good _ _ g⟩) fun e s' g => good _ _ g)
end TokHead
theorem recFacts_nil (h : Heap) : PySem.W.RecFacts [] h := by
  refine ⟨fun _ hx => (nomatch hx), fun _ hx => (nomatch hx), ?_, ?_⟩
  · intro x y a hx
    exact absurd (show (none : Option (List (Str × PySem.W.WShape))).isSome = true from hx) (by decide)
  · intro x fs hx
    exact absurd hx (by rintro ⟨⟩)

/-! ### the law's call, from a state where at least n tokens have been given out -/
section TokCall
open PySem.W
theorem law_callN {n : Nat} {P : Program} {w : World} {K : PySem.W.Frag} {mg mb : Str → Option Value} {CX : CXT} {k : Nat} {fa a : Addr} {fd : FuncData} {x : Str} {sp : Sp} {s₁ : Shared} {vs : List Value} {ns : List Int}
    (htk : n ≤ s₁.toks) (KX : K.In s₁.heap) (hns : s₁.heap.Ns mainGlobals mg) (hb : s₁.heap.Ns builtinsNs mb) (hbb : ∀ x : Str, x ≠ "__name__" → mb x = bootBuiltins x) (hlim : s₁.heap.NoLimit) (hg : s₁.gens = #[])
    (ha : s₁.heap.get? a = some { cls := .type "list", data := .seq vs.toArray }) (hi : IntsAre vs ns) (hl : ns.length ≤ sizeLine) (hr : Room k callerA)
    (F : ∀ base : Heap, K.In base → base.Ns mainGlobals mg → FnOkN n P w K mg base CX k fa fd [x] sp)
    (hbind : ∀ (s : Shared) (u : Value), BindsTo s fd { pos := [u] } [(x, u)])
    (hsp : ∀ H : Hp, Only H → SqL K H a (ns.map V.int) → sp [V.ref a] H (fun v _ => v = V.bl true) fun _ _ _ => False)
    (hCX : ∀ (H : Hp) (e : Value) (s' : Shared), CX [] H s₁ (fun _ _ _ => False) e s' → False) :
    codeAny (model P w) callerA (.call (.ref fa) { pos := [.ref a] }) (fun r s' => r = .ok (.ret (.bool true)) ∧ OldK s₁.heap s'.heap ∧ s'.os = s₁.os ∧ AllBare s'.gens) s₁ := by
  have rv := vals_ints hi
  have lenV := IntsAre.length hi
  have core : ∀ H : Hp, Only H → SqL K H a (ns.map V.int) → HOk P w H s₁.heap → (∀ b, H b ≠ none → b = a) → (H a ≠ none → K.lookup a = none) →
      codeAny (model P w) callerA (.call (.ref fa) { pos := [.ref a] }) (fun r s' => r = .ok (.ret (.bool true)) ∧ OldK s₁.heap s'.heap ∧ s'.os = s₁.os ∧ AllBare s'.gens) s₁ := by
    intro H hO hS hok hA hK
    have noA : ∀ {b : Addr} {o : Obj} {es : Array DictEntry} {ep : Nat}, s₁.heap.get? b = some o → o.data = .dict es ep → H b = none := by
      intro b o es ep e d
      by_cases q : H b = none
      · exact q
      · have e' := hA b q
        subst e'
        rw [ha] at e
        cases e
        cases d
    have nsK : ∀ {b : Addr} {m : Str → Option Value}, s₁.heap.Ns b m → (hidT s₁.heap H).Ns b m := by
      rintro b m ⟨o, es, ep, e, d, r⟩
      exact ⟨o, es, ep, hidT_get e (noA e d), d, r⟩
    have hKb : K.In (hidT s₁.heap H) := by
      intro b o e
      refine hidT_get (KX b o e) ?_
      by_cases q : H b = none
      · exact q
      · have e' := hA b q
        subst e'
        rw [hK q] at e
        cases e
    have hM : Mod K mg (hidT s₁.heap H) := ⟨hKb, nsK hns, ⟨mb, nsK hb, hbb⟩, by
      obtain ⟨mc, h1, h2⟩ := hlim
      exact ⟨mc, nsK h1, h2⟩⟩
    have e0 : Env0 P w K mg (hidT s₁.heap H) callerA [] s₁ H := ⟨rfl, hM, fun b o e => of_hidT e, Nat.le_of_eq (hidT_size s₁.heap H), trivial, fun b hb => (nomatch hb), hok, AllBare.of_eq hg⟩
    refine codeAny_mono ((F (hidT s₁.heap H) hKb (nsK hns)).run callerA [] s₁ H { pos := [.ref a] } [.ref a] [V.ref a] (fun v _ => v = V.bl true) (fun _ _ _ => False) htk hr e0 (hbind s₁ (.ref a)) (Paired.cons rfl Paired.nil) (hsp H hO hS)) ?_
    intro r s' h
    cases r with
    | error e => exact (hCX H e s' h).elim
    | ok fl =>
      cases fl with
      | next => exact h.elim
      | brk => exact h.elim
      | cont => exact h.elim
      | ret u =>
        obtain ⟨v, H', os, bare, un, hok', r', q⟩ := h
        subst q
        cases (show u = .bool true from r')
        refine ⟨rfl, OldK.of_keep fun b o e => ?_, os, bare⟩
        by_cases q : H b = none
        · exact un.keep b o e q (fun z => nomatch z) (fun z => nomatch z)
        · rcases hO b with z | ⟨ob, xs, z⟩
          · exact absurd z q
          · have z2 := un.frzs b ob (.lst xs) z
            have e1 := (hok b (.frz ob (.lst xs)) z).1
            have e2 := (hok' b (.frz ob (.lst xs)) z2).1
            rw [e] at e1
            cases e1
            exact e2
  by_cases hk : K.lookup a = none
  · refine core (fun b => if b = a then some (.frz { cls := .type "list", data := .seq vs.toArray } (.lst (ns.map V.int))) else none) ?_ ?_ ?_ ?_ (fun _ => hk)
    · intro b
      by_cases hb : b = a
      · exact Or.inr ⟨_, _, if_pos hb⟩
      · exact Or.inl (if_neg hb)
    · exact Or.inl (Or.inr ⟨_, if_pos rfl⟩)
    · intro b u z
      by_cases hb : b = a
      · have z' := (if_pos hb).symm.trans z
        cases z'
        subst hb
        exact ⟨ha, ⟨by rw [List.length_map]; exact hl, vs, 0, rv, ha⟩⟩
      · have z' := (if_neg hb).symm.trans z
        cases z'
    · intro b z
      by_cases hb : b = a
      · exact hb
      · exact absurd (if_neg hb) z
  · obtain ⟨o, hk⟩ := Option.ne_none_iff_exists'.mp hk
    have e := KX a o hk
    rw [ha] at e
    cases e
    exact core (fun _ => none) (fun _ => Or.inl rfl) (Or.inr ⟨_, vs.toArray, 0, hk, rfl, rfl, rfl, by simp only [List.size_toArray]; rw [lenV]; exact hl, rv⟩) (fun b u z => nomatch z) (fun b z => absurd rfl z) (fun z => absurd rfl z)
theorem walkN_of {n : Nat} {l : OpenLaw} {m k : Nat} {q : Program} {loose : List Str} {XP : (Str → Option Value) → Heap → Prop} {YP : World → Heap → Prop} {d : DefRec} {K : Params → PySem.W.Frag} {CX : World → CXT} {sp : World → Sp} {x : Str}
    (hm : m ≤ sizeLine) (hr : Room k callerA) (hY : ∀ w h, YP w h → (K w.params).In h)
    (F : ∀ (w : World) (mg : Str → Option Value) (fa : Addr) (h : Heap), (K w.params).In h → h.Ns mainGlobals mg → mg d.name = some (.ref fa) →
      ∃ fd, (∀ (s : Shared) (u : Value), BindsTo s fd { pos := [u] } [(x, u)]) ∧ ∀ base : Heap, (K w.params).In base → base.Ns mainGlobals mg → FnOkN n l.prog w (K w.params) mg base (CX w) k fa fd [x] (sp w))
    (hsp : ∀ (w : World) (H : Hp) (a : Addr) (ns : List Int), ns.length ≤ m → Only H → SqL (K w.params) H a (ns.map V.int) → sp w [V.ref a] H (fun v _ => v = V.bl true) fun _ _ _ => False)
    (hCX : ∀ (w : World) (H : Hp) (s : Shared) (e : Value) (s' : Shared), CX w [] H s (fun _ _ _ => False) e s' → False) :
    WalkN n m l q loose XP YP d := by
  intro w s₀ s₁ mg mb fa o pm cd doc a vs ns htk G Y ho hd hcd hmg hobj hints hlen hg
  have KX := hY w s₁.heap Y
  obtain ⟨fd, hb, hF⟩ := F w mg fa s₁.heap KX G.T.g hmg
  exact law_callN htk KX G.T.g G.T.b G.T.builtins G.T.nolimit hg hobj hints (Nat.le_trans hlen hm) hr hF hb (fun H hO hS => hsp w H a ns hlen hO hS) (fun H e s' => hCX w H s₁ e s')
end TokCall

theorem psn_try_mix {n : Nat} {X : Cx} {body : List Stmt} {hds : List ExceptHandler} {l : List Cls1} {pos : Pos} {tb : WX → TS} (hs : X.stack = X.env :: X.outer) (hf : X.env.frame = some X.env.locals) (hN : X.N.Nodup) (hne : hds ≠ [])
    (hb : ∀ (W : WX) (pn : List (Addr × Obj)) (xe : Value → Shared → Prop), Takes (X.tr pn xe) W → PassesOwn (model X.prog X.w) X.A X.env xe → PSsn n (X.tr pn xe) body (tb W))
    (hh : ClsOk X hds l) : PSn n X (.Try body hds [] [] pos) (fun D σ H => tb (wMix X.K D l) D σ H) := by
  obtain ⟨h₀, hd', rfl⟩ : ∃ h t, hds = h :: t := by
    cases hds with
    | nil => exact absurd rfl hne
    | cons h t => exact ⟨h, t, rfl⟩
  refine fun pins s σ H D h0 I h => wpAny_Try_except ?_
  have ok := I.ok
  refine wpAny_mono ((hb (wMix X.K D l) (X.pn ++ pins) (fun e s₁ => wpAny (model X.prog X.w) X.A (noteFrame e X.env) (fun _ s₂ => wpAny (model X.prog X.w) X.A (setFlight e none) (fun _ s₃ =>
    wpAny (model X.prog X.w) X.A (handleBy e X.env (h₀ :: hd')) (SP X pins D) X.xe s₃) X.xe s₂) X.xe s₁) (fun u s' xx => ?_) PassesOwn.looking) [] s σ H D h0 (I.toTry _) h) (fun f s1 g => ?_) (fun _ _ he => he)
  case refine_2 =>
    cases f with
    | next => exact let ⟨σ', H', J, q⟩ := g; wpAny_execs_nil ⟨σ', H', J.ofTry ok, q⟩
    | brk => exact let ⟨σ', H', J, q⟩ := g; ⟨σ', H', J.ofTry ok, q⟩
    | cont => exact let ⟨σ', H', J, q⟩ := g; ⟨σ', H', J.ofTry ok, q⟩
    | ret u => exact let ⟨v, σ', H', J, r, q⟩ := g; ⟨v, σ', H', J.ofTry ok, r, q⟩
  obtain ⟨a, B, sI, pins', σ', H', cls, d, rfl, J', nb, up, sky, na, os, ag, w⟩ := xx
  have J : Inv X pins σ' H' sI := J'.ofTry ok
  refine Sky.land Zc.steady (by rw [ok.frames, hs]) hf (show Sky B (X.env :: X.outer) a (Zc cls d) X.env.locals s'.heap by rw [← hs]; exact sky) fun h3 fl up3 => ?_
  have J3 : Inv X pins σ' H' { s' with heap := h3 } := J.landed nb fl.1 (up.trans up3) os ag
  obtain ⟨oe, vs, he, hz, hd⟩ := fl.there
  have away : a ∉ frs (X.env :: X.outer) := fun hm => by
    obtain ⟨_, o', e', nf⟩ := fl.2.2.1.mem hm
    rw [he] at e'; cases e'
    exact nf _ hd
  have nL : a ≠ X.env.locals := fun z => away (List.mem_filterMap.mpr ⟨X.env, List.mem_cons_self, by rw [hf, z]⟩)
  have nF : a ∉ X.fs := fun hm => by
    obtain ⟨e, h1, q⟩ := List.mem_filterMap.mp hm
    exact away (List.mem_filterMap.mpr ⟨e, List.mem_cons_of_mem _ h1, q⟩)
  have S3 := J3.suite he hd na nL nF
  have LT : PySem.W.Looks (model X.prog X.w) h3 (typeOf (.ref a)) cls := fun A Q E s k q => wpAny_typeOf_ref (k _ _ he) (by rw [hz.1]; exact q)
  have look : ∀ {x : Str} {np : Pos} {c : Value}, Names X x c → ∀ {Q : Value → Shared → Prop} {E : Value → Shared → Prop}, Q c { s' with heap := h3 } → wpAny (model X.prog X.w) (X.A.mark (some (.ref a))) (eval (.Name x np) X.env) Q E { s' with heap := h3 } := by
    rintro x np c ⟨hg, hdb, hm | ⟨hm, hv, hnn⟩⟩ Q E q
    · exact ld_glob (X := X.suite a ((a, oe) :: (X.pn ++ pins))) S3 hg hm q hdb
    · exact ld_blt (X := X.suite a ((a, oe) :: (X.pn ++ pins))) S3 hg hm hv q hnn hdb
  have go : ∀ {hs l}, ClsOk X hs l → wMix X.K D l cls d σ' H' → wpAny (model X.prog X.w) X.A (handleBy (.ref a) X.env hs) (SP X pins D) X.xe { s' with heap := h3 } := by
    intro hs l hk
    induction hk with
    | nil => exact fun w => w.elim
    | plain hc su r ih =>
      rintro ⟨b, hb1, yes, no⟩
      refine wpAny_handleBy_cons (codeAny_handlers_test ?_) (by intro q; cases q)
      refine look hc ((PySem.W.exm_one (M := model X.prog X.w) J3.kIn LT hb1).here ?_)
      cases b with
      | false => exact ih (no rfl)
      | true =>
        refine codeAny_handlers_suite (HandSPX.lands_againZ fl fun h4 fl4 up4 => ?_)
        have J4 : Inv X pins σ' H' { s' with heap := h4 } := J.landed nb fl4.1 ((up.trans up3).trans up4) os ag
        obtain ⟨oe4, vs4, he4, hz4, hd4⟩ := fl4.there
        refine wpAny_mono ((su a oe4 cls d (X.pn ++ pins) hz4 ⟨_, hd4⟩).run [] _ _ H' _ (J4.suite he4 hd4 na nL nF) (yes rfl a na)) (fun f s6 g => ?_) (fun _ _ z => z.elim)
        cases f with
        | next => exact let ⟨σ6, H6, S6, q6⟩ := g; ⟨_, _, S6.unsuite ok, q6⟩
        | brk => exact let ⟨σ6, H6, S6, q6⟩ := g; ⟨_, _, S6.unsuite ok, q6⟩
        | cont => exact let ⟨σ6, H6, S6, q6⟩ := g; ⟨_, _, S6.unsuite ok, q6⟩
        | ret u => exact let ⟨v6, σ6, H6, S6, r6, q6⟩ := g; ⟨_, _, _, S6.unsuite ok, r6, q6⟩
    | named hi hln hc su r ih =>
      rintro ⟨b, hb1, yes, no⟩
      refine wpAny_handleBy_cons (codeAny_handlers_test ?_) (by intro q; cases q)
      refine look hc ((PySem.W.exm_one (M := model X.prog X.w) J3.kIn LT hb1).here ?_)
      cases b with
      | false => exact ih (no rfl)
      | true =>
        refine codeAny_handlers_suite_as (HandSPX.lands_againZ fl fun h4 fl4 up4 => ?_)
        have J4 : Inv X pins σ' H' { s' with heap := h4 } := J.landed nb fl4.1 ((up.trans up3).trans up4) os ag
        obtain ⟨oe4, vs4, he4, hz4, hd4⟩ := fl4.there
        refine store_ok (X := X.suite a ((a, oe4) :: (X.pn ++ pins))) (v := .ref a) (J4.suite he4 hd4 na nL nF) hN hi (.inl hln) rfl (fun s5 S5 => ?_) (.inr hln)
        refine wpAny_mono ((su a oe4 cls d (X.pn ++ pins) hz4 ⟨_, hd4⟩).run [] s5 _ H' _ S5 (yes rfl a na)) (fun f s6 g => ?_) (fun _ _ z => z.elim)
        cases f with
        | next => exact let ⟨σ6, H6, S6, q6⟩ := g; gone_ok (S6.unsuite ok) hN hi hln fun s7 J7 => ⟨_, _, J7, q6⟩
        | brk => exact let ⟨σ6, H6, S6, q6⟩ := g; gone_ok (S6.unsuite ok) hN hi hln fun s7 J7 => ⟨_, _, J7, q6⟩
        | cont => exact let ⟨σ6, H6, S6, q6⟩ := g; gone_ok (S6.unsuite ok) hN hi hln fun s7 J7 => ⟨_, _, J7, q6⟩
        | ret u => exact let ⟨v6, σ6, H6, S6, r6, q6⟩ := g; gone_ok (S6.unsuite ok) hN hi hln fun s7 J7 => ⟨_, _, _, J7, r6, q6⟩
  exact go hh w

def WA (W : WX) : XK := fun cls d H => ∀ σ, W cls d σ H
theorem passAll {X : Cx} {W : WX} (tk : Takes X W) : Passes (L2.CX X.prog X.w) X (WA W) := fun _ σ _ _ e s' I c => tk e s' (XE.of_call I (fun _ _ _ h => h σ) c)

/-- e.replace("..", "..") of two texts written out: one token out is enough -/
theorem pen_replC {X : Cx} {n : Nat} (hn : 1 ≤ n) {o : Expr} {to : TE} {y z : Str} {j k : Nat} {c0 c1 apos pos : Pos} (ho : PE X o to) (hyz : (y == z) = false := by decide)
    (hst : starEach [.Constant (.str y) j c0, .Constant (.str z) k c1] X.env = [(false, eval (.Constant (.str y) j c0) X.env), (false, eval (.Constant (.str z) k c1) X.env)] := by rfl)
    (hbase : attributeBase o "replace" X.env (eval o X.env) = eval o X.env := by rfl) (hline : (apos.endLine == pos.line) = true := by rfl) :
    PEn n X (.Call (.Attribute o "replace" apos) [.Constant (.str y) j c0, .Constant (.str z) k c1] [] pos) (CwR.tReplC to y z) := fun pins s σ H Q h0 I h => CwR.pet_replC ho hyz hst hbase hline pins s σ H Q (Nat.le_trans hn h0) I h

end My
namespace My
open PySem L2 TL
abbrev P : Program := PySem.Challenge.pw_fullqueue_k05_last_letters_put
def top (i : Nat) : Stmt := PySem.Challenge.pw_fullqueue_k05_last_letters_put.main.body.getD i (.Pass ⟨0, 0, 0, 0⟩)
abbrev s_is_int : Stmt := top 7
theorem sc_is_int : FnScope ["value"] ["value"] (defScope s_is_int) := ⟨rfl, rfl, rfl, by decide +kernel, rfl, by decide +kernel, by decide +kernel⟩
abbrev s_is_int_between : Stmt := top 8
theorem sc_is_int_between : FnScope ["value", "least", "most"] ["value", "least", "most"] (defScope s_is_int_between) := ⟨rfl, rfl, rfl, by decide +kernel, rfl, by decide +kernel, by decide +kernel⟩
abbrev s_read_integer : Stmt := top 9
theorem sc_read_integer : FnScope ["text", "digits", "number"] ["text"] (defScope s_read_integer) := ⟨rfl, rfl, rfl, by decide +kernel, rfl, by decide +kernel, by decide +kernel⟩
abbrev s_is_count : Stmt := top 16
theorem sc_is_count : FnScope ["value"] ["value"] (defScope s_is_count) := ⟨rfl, rfl, rfl, by decide +kernel, rfl, by decide +kernel, by decide +kernel⟩
abbrev s_last_puts : Stmt := top 17
theorem sc_last_puts : FnScope ["program", "count", "parts"] ["program", "count"] (defScope s_last_puts) := ⟨rfl, rfl, rfl, by decide +kernel, rfl, by decide +kernel, by decide +kernel⟩
abbrev s_parts_of : Stmt := top 18
theorem sc_parts_of : FnScope ["program", "parts"] ["program"] (defScope s_parts_of) := ⟨rfl, rfl, rfl, by decide +kernel, rfl, by decide +kernel, by decide +kernel⟩
abbrev s_read_parts : Stmt := top 19
theorem sc_read_parts : FnScope ["text", "outer", "parts", "at", "end", "count", "repetition"] ["text"] (defScope s_read_parts) := ⟨rfl, rfl, rfl, by decide +kernel, rfl, by decide +kernel, by decide +kernel⟩
abbrev s_end_of_run : Stmt := top 20
theorem sc_end_of_run : FnScope ["text", "start", "signs", "end"] ["text", "start", "signs"] (defScope s_end_of_run) := ⟨rfl, rfl, rfl, by decide +kernel, rfl, by decide +kernel, by decide +kernel⟩
abbrev s_last_letters : Stmt := top 21
theorem sc_last_letters : FnScope ["parts", "most", "found", "part"] ["parts", "most"] (defScope s_last_letters) := ⟨rfl, rfl, rfl, by decide +kernel, rfl, by decide +kernel, by decide +kernel⟩
abbrev s_last_letters_of_part : Stmt := top 22
theorem sc_last_letters_of_part : FnScope ["part", "most", "body", "count", "letters", "rounds"] ["part", "most"] (defScope s_last_letters_of_part) := ⟨rfl, rfl, rfl, by decide +kernel, rfl, by decide +kernel, by decide +kernel⟩
abbrev s_ending : Stmt := top 23
theorem sc_ending : FnScope ["text", "most"] ["text", "most"] (defScope s_ending) := ⟨rfl, rfl, rfl, by decide +kernel, rfl, by decide +kernel, by decide +kernel⟩
abbrev s__law_draws : Stmt := top 25
theorem sc__law_draws : FnScope ["_law_script", "_law_k", "_law_cell", "_law_seed"] ["_law_script", "_law_k"] (defScope s__law_draws) := ⟨rfl, rfl, rfl, by decide +kernel, rfl, by decide +kernel, by decide +kernel⟩
abbrev s__law_draw : Stmt := top 26
theorem sc__law_draw : FnScope ["_law_draws_here", "_law_upto", "_law_digit"] ["_law_draws_here", "_law_upto"] (defScope s__law_draw) := ⟨rfl, rfl, rfl, by decide +kernel, rfl, by decide +kernel, by decide +kernel⟩
abbrev s__law_letter : Stmt := top 27
theorem sc__law_letter : FnScope ["_law_draws_here"] ["_law_draws_here"] (defScope s__law_letter) := ⟨rfl, rfl, rfl, by decide +kernel, rfl, by decide +kernel, by decide +kernel⟩
abbrev s__law_sequence : Stmt := top 28
theorem sc__law_sequence : FnScope ["_law_draws_here", "_law_most", "_law_some", "_law_way", "_law_turn"] ["_law_draws_here", "_law_most"] (defScope s__law_sequence) := ⟨rfl, rfl, rfl, by decide +kernel, rfl, by decide +kernel, by decide +kernel⟩
abbrev s__law_program : Stmt := top 29
theorem sc__law_program : FnScope ["_law_draws_here", "_law_depth", "_law_text", "_law_full", "_law_turn", "_law_stretch", "_law_inner", "_law_spelled", "_law_count"] ["_law_draws_here", "_law_depth"] (defScope s__law_program) := ⟨rfl, rfl, rfl, by decide +kernel, rfl, by decide +kernel, by decide +kernel⟩
abbrev s__law_rejected : Stmt := top 30
theorem sc__law_rejected : FnScope ["_law_value"] ["_law_value"] (defScope s__law_rejected) := ⟨rfl, rfl, rfl, by decide +kernel, rfl, by decide +kernel, by decide +kernel⟩
abbrev s__law_end : Stmt := top 31
theorem sc__law_end : FnScope ["_law_letters", "_law_count"] ["_law_letters", "_law_count"] (defScope s__law_end) := ⟨rfl, rfl, rfl, by decide +kernel, rfl, by decide +kernel, by decide +kernel⟩
abbrev s_law : Stmt := top 32
theorem sc_law : FnScope ["_law_script", "_law_k", "_law_draws_here", "_law_program_here", "_law_full", "_law_letters", "_law_count", "_law_large", "_law_inner", "_law_spelled", "_law_whole", "_law_put", "_law_near", "_law_tail", "_law_nest", "_law_value"] ["_law_script"] (defScope s_law) := ⟨rfl, rfl, rfl, by decide +kernel, rfl, by decide +kernel, by decide +kernel⟩
end My
namespace My
open PySem L2 TL
local macro_rules | `(tactic| walk_at "rd") => `(tactic| try simp only [tDNewK, rU, tYes, tSeq, tNext, tDrop, tRet, tRetN, tIfS, tAsg, tAug, tPar, gName, gSub, gTup, tVar, tC, tOp, tUn, tTest, tB, tAnd, tOr, tNot, tAndV, tOrV, tNotV, tIf, tChain, tCB, tCons, tNil, tCall, tLst, tTup, tSl, tPart, tNoPart, tM0, tM1, tBM, tBM0, rI, rI0, rEq, rNe,
  List.append_nil, List.cons_append, List.nil_append, List.getElem?_cons_zero, List.getElem?_cons_succ, List.set_cons_zero, List.set_cons_succ, Option.some.injEq, V.int.injEq, V.bl.injEq, V.str.injEq, V.ref.injEq, List.cons.injEq, and_true, true_and,
  and_assoc, exists_and_left, exists_and_right, exists_eq_left, exists_eq_left', decide_true, decide_false, reduceCtorEq, nox_K, cx_K, ite_t, ite_f, exists_false, false_and, and_false, false_or, or_false, if_true, if_false, ite_true, ite_false, scal, tyV, Bool.not_true, Bool.not_false, Bool.true_and, Bool.and_true, Bool.false_and, Bool.and_false])
local macro_rules | `(tactic| walk_at "sz") => `(tactic| (first | (show _ ≤ sizeLine) | (show _ < sizeLine)); simp only [List.length_cons, List.length_nil]; decide)
local macro_rules | `(tactic| walk_at "wp") => `(tactic| simp only [wipe, List.map_cons, List.map_nil, List.set_cons_zero, List.set_cons_succ])

structure Top (K : PySem.W.Frag) (mg : Str → Option Value) where
  a_is_int : Addr
  d_is_int : FuncData
  F_is_int : Fun K "is_int" "is_int" s_is_int a_is_int d_is_int
  b_is_int : Binds K d_is_int ["value"] []
  m_is_int : mg "is_int" = some (.ref a_is_int)
  a_is_int_between : Addr
  d_is_int_between : FuncData
  F_is_int_between : Fun K "is_int_between" "is_int_between" s_is_int_between a_is_int_between d_is_int_between
  b_is_int_between : Binds K d_is_int_between ["value", "least", "most"] []
  m_is_int_between : mg "is_int_between" = some (.ref a_is_int_between)
  a_read_integer : Addr
  d_read_integer : FuncData
  F_read_integer : Fun K "read_integer" "read_integer" s_read_integer a_read_integer d_read_integer
  b_read_integer : Binds K d_read_integer ["text"] []
  m_read_integer : mg "read_integer" = some (.ref a_read_integer)
  a_is_count : Addr
  d_is_count : FuncData
  F_is_count : Fun K "is_count" "is_count" s_is_count a_is_count d_is_count
  b_is_count : Binds K d_is_count ["value"] []
  m_is_count : mg "is_count" = some (.ref a_is_count)
  a_last_puts : Addr
  d_last_puts : FuncData
  F_last_puts : Fun K "last_puts" "last_puts" s_last_puts a_last_puts d_last_puts
  b_last_puts : Binds K d_last_puts ["program", "count"] []
  m_last_puts : mg "last_puts" = some (.ref a_last_puts)
  a_parts_of : Addr
  d_parts_of : FuncData
  F_parts_of : Fun K "parts_of" "parts_of" s_parts_of a_parts_of d_parts_of
  b_parts_of : Binds K d_parts_of ["program"] []
  m_parts_of : mg "parts_of" = some (.ref a_parts_of)
  a_read_parts : Addr
  d_read_parts : FuncData
  F_read_parts : Fun K "read_parts" "read_parts" s_read_parts a_read_parts d_read_parts
  b_read_parts : Binds K d_read_parts ["text"] []
  m_read_parts : mg "read_parts" = some (.ref a_read_parts)
  a_end_of_run : Addr
  d_end_of_run : FuncData
  F_end_of_run : Fun K "end_of_run" "end_of_run" s_end_of_run a_end_of_run d_end_of_run
  b_end_of_run : Binds K d_end_of_run ["text", "start", "signs"] []
  m_end_of_run : mg "end_of_run" = some (.ref a_end_of_run)
  a_last_letters : Addr
  d_last_letters : FuncData
  F_last_letters : Fun K "last_letters" "last_letters" s_last_letters a_last_letters d_last_letters
  b_last_letters : Binds K d_last_letters ["parts", "most"] []
  m_last_letters : mg "last_letters" = some (.ref a_last_letters)
  a_last_letters_of_part : Addr
  d_last_letters_of_part : FuncData
  F_last_letters_of_part : Fun K "last_letters_of_part" "last_letters_of_part" s_last_letters_of_part a_last_letters_of_part d_last_letters_of_part
  b_last_letters_of_part : Binds K d_last_letters_of_part ["part", "most"] []
  m_last_letters_of_part : mg "last_letters_of_part" = some (.ref a_last_letters_of_part)
  a_ending : Addr
  d_ending : FuncData
  F_ending : Fun K "ending" "ending" s_ending a_ending d_ending
  b_ending : Binds K d_ending ["text", "most"] []
  m_ending : mg "ending" = some (.ref a_ending)
  a__law_draws : Addr
  d__law_draws : FuncData
  F__law_draws : Fun K "_law_draws" "_law_draws" s__law_draws a__law_draws d__law_draws
  b__law_draws : Binds K d__law_draws ["_law_script", "_law_k"] []
  m__law_draws : mg "_law_draws" = some (.ref a__law_draws)
  a__law_draw : Addr
  d__law_draw : FuncData
  F__law_draw : Fun K "_law_draw" "_law_draw" s__law_draw a__law_draw d__law_draw
  b__law_draw : Binds K d__law_draw ["_law_draws_here", "_law_upto"] []
  m__law_draw : mg "_law_draw" = some (.ref a__law_draw)
  a__law_letter : Addr
  d__law_letter : FuncData
  F__law_letter : Fun K "_law_letter" "_law_letter" s__law_letter a__law_letter d__law_letter
  b__law_letter : Binds K d__law_letter ["_law_draws_here"] []
  m__law_letter : mg "_law_letter" = some (.ref a__law_letter)
  a__law_sequence : Addr
  d__law_sequence : FuncData
  F__law_sequence : Fun K "_law_sequence" "_law_sequence" s__law_sequence a__law_sequence d__law_sequence
  b__law_sequence : Binds K d__law_sequence ["_law_draws_here", "_law_most"] []
  m__law_sequence : mg "_law_sequence" = some (.ref a__law_sequence)
  a__law_program : Addr
  d__law_program : FuncData
  F__law_program : Fun K "_law_program" "_law_program" s__law_program a__law_program d__law_program
  b__law_program : Binds K d__law_program ["_law_draws_here", "_law_depth"] []
  m__law_program : mg "_law_program" = some (.ref a__law_program)
  a__law_rejected : Addr
  d__law_rejected : FuncData
  F__law_rejected : Fun K "_law_rejected" "_law_rejected" s__law_rejected a__law_rejected d__law_rejected
  b__law_rejected : Binds K d__law_rejected ["_law_value"] []
  m__law_rejected : mg "_law_rejected" = some (.ref a__law_rejected)
  a__law_end : Addr
  d__law_end : FuncData
  F__law_end : Fun K "_law_end" "_law_end" s__law_end a__law_end d__law_end
  b__law_end : Binds K d__law_end ["_law_letters", "_law_count"] []
  m__law_end : mg "_law_end" = some (.ref a__law_end)
  a_law : Addr
  d_law : FuncData
  F_law : Fun K "law" "law" s_law a_law d_law
  b_law : Binds K d_law ["_law_script"] []
  m_law : mg "law" = some (.ref a_law)
  z_bool : mg "bool" = none
  z_int : mg "int" = none
  z_isinstance : mg "isinstance" = none
  z_len : mg "len" = none
  z_max : mg "max" = none
  z_min : mg "min" = none
  z_range : mg "range" = none
  z_str : mg "str" = none
  u_DIGITS : Tok
  c_DIGITS : mg "DIGITS" = some (.str "0123456789" u_DIGITS)
  u_MOST_DIGITS : Tok
  c_MOST_DIGITS : mg "MOST_DIGITS" = some (.int 60 u_MOST_DIGITS)
  u_TAKE : Tok
  c_TAKE : mg "TAKE" = some (.str "-" u_TAKE)
  w_TAKE : (0 < u_TAKE ∧ u_TAKE < 273)
  u_STEPS : Tok
  c_STEPS : mg "STEPS" = some (.str "abcdefghijklmnopqrstuvwxyz-" u_STEPS)
  u_MOST_COUNT : Tok
  c_MOST_COUNT : mg "MOST_COUNT" = some (.int 1000000000000000000000000000000 u_MOST_COUNT)
  u_MOST_DEPTH : Tok
  c_MOST_DEPTH : mg "MOST_DEPTH" = some (.int 20 u_MOST_DEPTH)
  u_MOST_STEPS : Tok
  c_MOST_STEPS : mg "MOST_STEPS" = some (.int 4000 u_MOST_STEPS)
  x_InvalidProgram : Addr
  g_InvalidProgram : mg "InvalidProgram" = some (.ref x_InvalidProgram)
  q_InvalidProgram : PySem.W.excIn K x_InvalidProgram [.type "ValueError", .type "Exception", .type "BaseException", .type "object"] "ValueError.__new__" = true
  k_InvalidProgram : PySem.W.keepIn K (.ref x_InvalidProgram) = true
  b_InvalidProgram : PySem.W.subIn K (.ref x_InvalidProgram) (.type "BaseException") = some true
  t_InvalidProgram : PySem.W.typeIn K (.ref x_InvalidProgram) = some (.type "type")
  e_InvalidProgram : PySem.W.exmOne K (.ref x_InvalidProgram) (.ref x_InvalidProgram) = some true
  x_InvalidInteger : Addr
  g_InvalidInteger : mg "InvalidInteger" = some (.ref x_InvalidInteger)
  q_InvalidInteger : PySem.W.excIn K x_InvalidInteger [.type "ValueError", .type "Exception", .type "BaseException", .type "object"] "ValueError.__new__" = true
  k_InvalidInteger : PySem.W.keepIn K (.ref x_InvalidInteger) = true
  b_InvalidInteger : PySem.W.subIn K (.ref x_InvalidInteger) (.type "BaseException") = some true
  t_InvalidInteger : PySem.W.typeIn K (.ref x_InvalidInteger) = some (.type "type")
  e_InvalidInteger : PySem.W.exmOne K (.ref x_InvalidInteger) (.ref x_InvalidInteger) = some true
  ne_InvalidInteger_InvalidProgram : PySem.W.exmOne K (.ref x_InvalidInteger) (.ref x_InvalidProgram) = some false
section
variable {w : World} {K : PySem.W.Frag} {mg : Str → Option Value} {base : Heap}
def isIntV : V → Bool | .int _ => true | _ => false
def sp_is_int (K : PySem.W.Frag) : Sp := fun vs H Q _ => ∃ x, vs = [x] ∧ Kd K H x ∧ Q (.bl (isIntV x)) H
def sp_is_int_between (K : PySem.W.Frag) : Sp := fun vs H Q _ => ∃ (x : V) (lo hi : Int), vs = [x, .int lo, .int hi] ∧ Kd K H x ∧ Q (.bl (match x with | .int i => decide (lo ≤ i) && decide (i ≤ hi) | _ => false)) H
def isCountV : V → Bool | .int i => decide (0 ≤ i) && decide (i ≤ 10 ^ 30) | _ => false
def sp_has (K : PySem.W.Frag) (f : V → Bool) : Sp := fun vs H Q _ => ∃ x, vs = [x] ∧ Kd K H x ∧ Q (.bl (f x)) H
theorem ok_is_int (T : Top K mg) : FnOk P w K mg base CX0 1 T.a_is_int T.d_is_int ["value"] (sp_is_int K) := by
  refine T.F_is_int.ok sc_is_int (fun vs H Q E h => ?_) (fun cdv A outer s H vs Q E hr h => ?_)
  · obtain ⟨x, rfl, _⟩ := h
    rfl
  · obtain ⟨x, rfl, kx, q⟩ := h
    refine ⟨_, (pss_one (ps_ret (pe_and (pe_callB call_isi (by rfl) T.z_isinstance (by decide +kernel) (pa_cons (pv 0) (pa_cons (pe_bltn (v := .ty "int") (by rfl) T.z_int (by decide +kernel) rfl) pa_nil))) (pe_one (pe_not (pe_callB call_isi (by rfl) T.z_isinstance (by decide +kernel) (pa_cons (pv 0) (pa_cons (pe_bltn (v := .ty "bool") (by rfl) T.z_bool (by decide +kernel) rfl) pa_nil)))))))), ?_⟩
    have hst : start ["value"] [x] = [some x] := rfl
    rw [hst]
    walk_at "rd"
    refine isi_int kx ?_
    walk_at "rd"
    cases x <;> simp only [tInt] <;> walk_at "rd" <;> first | exact q | skip
    all_goals refine isi_bool kx ?_
    all_goals (simp only [tBool]; walk_at "rd"; exact q)
theorem ok_is_int_between (T : Top K mg) : FnOk P w K mg base CX0 2 T.a_is_int_between T.d_is_int_between ["value", "least", "most"] (sp_is_int_between K) := by
  have G_is_int := ok_is_int (w := w) (base := base) T
  refine T.F_is_int_between.ok sc_is_int_between (fun vs H Q E h => ?_) (fun cdv A outer s H vs Q E hr h => ?_)
  · obtain ⟨x, lo, hi, rfl, _⟩ := h
    rfl
  · obtain ⟨x, lo, hi, rfl, kx, q⟩ := h
    refine ⟨_, (pss_one (ps_ret (pe_and (pe_call G_is_int (hr.mono (by first | decide | omega)) rfl T.m_is_int T.F_is_int.kp T.b_is_int .nil pass0 (pa_cons (pv 0) pa_nil)) (pe_one (pe_chain op_le op_le (pv 1) (pv 0) (pv 2)))))), ?_⟩
    have hst : start ["value", "least", "most"] [x, .int lo, .int hi] = [some x, some (.int lo), some (.int hi)] := rfl
    rw [hst]
    walk_at "rd"
    simp only [sp_is_int]
    walk_at "rd"
    refine ⟨kx, ?_⟩
    cases x <;> simp only [isIntV] <;> walk_at "rd" <;> first | exact q | skip
    split <;> simp_all
theorem ok_is_count (T : Top K mg) : FnOk P w K mg base CX0 3 T.a_is_count T.d_is_count ["value"] (sp_has K isCountV) := by
  have G_is_int_between := ok_is_int_between (w := w) (base := base) T
  refine T.F_is_count.ok sc_is_count (fun vs H Q E h => ?_) (fun cdv A outer s H vs Q E hr h => ?_)
  · obtain ⟨x, rfl, _⟩ := h
    rfl
  · obtain ⟨x, rfl, kx, q⟩ := h
    refine ⟨_, (pss_one (ps_ret (pe_call G_is_int_between (hr.mono (by first | decide | omega)) rfl T.m_is_int_between T.F_is_int_between.kp T.b_is_int_between .nil pass0 (pa_cons (pv 0) (pa_cons pe_int (pa_cons (pe_glob (v := .int 1000000000000000000000000000000) (by rfl) T.c_MOST_COUNT ⟨_, rfl⟩) pa_nil)))))), ?_⟩
    have hst : start ["value"] [x] = [some x] := rfl
    rw [hst]
    walk_at "rd"
    simp only [sp_is_int_between]
    walk_at "rd"
    refine ⟨kx, ?_⟩
    cases x <;> exact q
/-! ### end_of_run -/
def runE (p : Nat → Bool) (l : List Nat) (a : Nat) : Nat := a + ((l.drop a).takeWhile p).length
theorem runE_go {p : Nat → Bool} {l : List Nat} {a c : Nat} (h : l[a]? = some c) (hc : p c = true) : runE p l (a + 1) = runE p l a := by
  unfold runE
  obtain ⟨ha, e⟩ := List.getElem?_eq_some_iff.mp h
  rw [List.drop_eq_getElem_cons ha, e, List.takeWhile_cons, if_pos hc, List.length_cons]; omega
theorem runE_stop {p : Nat → Bool} {l : List Nat} {a c : Nat} (h : l[a]? = some c) (hc : p c = false) : runE p l a = a := by
  unfold runE
  obtain ⟨ha, e⟩ := List.getElem?_eq_some_iff.mp h
  rw [List.drop_eq_getElem_cons ha, e, List.takeWhile_cons, if_neg (by rw [hc]; decide)]; rfl
theorem runE_end {p : Nat → Bool} {l : List Nat} : runE p l l.length = l.length := by
  unfold runE; rw [List.drop_length]; rfl
theorem runE_le {p : Nat → Bool} {l : List Nat} {a : Nat} (h : a ≤ l.length) : runE p l a ≤ l.length := by
  unfold runE
  have h1 := (List.takeWhile_sublist (l := l.drop a) p).length_le
  rw [List.length_drop] at h1; omega
def sp_end_of_run : Sp := fun vs H Q _ => ∃ (t sg : Str) (a : Nat), vs = [.str t, .int a, .str sg] ∧ t.length ≤ 100000 ∧ sg.length ≤ 100000 ∧ a ≤ t.length ∧
  Q (.int (runE (fun c => decide (c ∈ sg.cps.toList)) t.cps.toList a : Nat)) H
theorem ok_end_of_run (T : Top K mg) : FnOk P w K mg base CX0 1 T.a_end_of_run T.d_end_of_run ["text", "start", "signs"] sp_end_of_run := by

  refine T.F_end_of_run.ok sc_end_of_run (fun vs H Q E h => ?_) (fun cdv A outer s H vs Q E hr h => ?_)
  · obtain ⟨t, sg, a, rfl, _⟩ := h
    rfl
  · obtain ⟨t, sg, a, rfl, ht, hs, ha, q⟩ := h
    refine ⟨_, (pss_cons (ps_set (i := 3) sc_end_of_run.nd rfl (Or.inl rfl) (pv 1))
      (pss_cons (ps_while PassesOwn.never (PW.pt (pw_and (pt_cmpR op_lt (pv 3) (pe_callB call_len_str (by rfl) T.z_len (by decide +kernel) (pa_cons (pv 0) pa_nil)) (nomark _)) (pw_and1 (pt_cmpR op_in_sign (pe_ix ix_str (pv 0) (pv 3) (fun _ _ => rfl)) (pv 2) (by rfl))))) (pss_one (ps_aug (i := 3) sc_end_of_run.nd rfl (Or.inl rfl) pe_int ip_add)))
      (pss_one (ps_ret (pv 3))))), ?_⟩
    have hst : start ["text", "start", "signs", "end"] [.str t, .int a, .str sg] = [some (.str t), some (.int a), some (.str sg), none] := rfl
    rw [hst]
    walk_at "rd"
    have hl : t.cps.toList.length = t.length := Array.length_toList
    generalize hp : (fun c => decide (c ∈ sg.cps.toList)) = p at q
    refine ⟨fun m σ' H' => ∃ e : Nat, σ' = [some (.str t), some (.int a), some (.str sg), some (.int e)] ∧ H' = H ∧ m = t.length - e ∧ e ≤ t.length ∧ runE p t.cps.toList e = runE p t.cps.toList a, ⟨_, a, rfl, rfl, rfl, ha, rfl⟩, ?_⟩
    rintro m σ' H' ⟨e, rfl, rfl, rfl, he, hv⟩
    walk_at "rd"
    refine ⟨sz_of ht, ?_⟩
    by_cases hlt : e < t.length
    · rw [decide_eq_true (by omega : (e : Int) < (t.length : Int))]
      walk_at "rd"
      obtain ⟨c, hc⟩ : ∃ c, t.cps.toList[e]? = some c := ⟨_, List.getElem?_eq_getElem (by omega)⟩
      refine ix_str_at ht (by omega) (by simpa using hc) ?_
      walk_at "rd"
      refine ⟨c, rfl, ?_⟩
      cases hpc : decide (c ∈ sg.cps.toList)
      · walk_at "rd"
        have := runE_stop (p := p) hc (by rw [← hp]; exact hpc)
        rw [← hv, this] at q
        exact q
      · walk_at "rd"
        refine ⟨fun σ2 H2 => σ2 = [some (.str t), some (.int a), some (.str sg), some (.int (e + 1 : Nat))] ∧ H2 = H', ?_, ?_⟩
        · rintro _ _ ⟨rfl, rfl⟩
          exact ⟨t.length - (e + 1), by omega, e + 1, rfl, rfl, rfl, by omega, (runE_go hc (by rw [← hp]; exact hpc)).trans hv⟩
        · walk_at "rd"
          exact ⟨_, _, rfl, rfl, by simp, rfl⟩
    · rw [decide_eq_false (by omega : ¬ (e : Int) < (t.length : Int))]
      walk_at "rd"
      have e1 : e = t.cps.toList.length := by omega
      have := runE_end (p := p) (l := t.cps.toList)
      rw [← e1, hv] at this
      rw [this] at q
      exact q
/-! ### read_integer, of digits alone -/
def cntV : Option Nat → V
  | none => .non
  | some n => .int n
def rint (ds : List Nat) : Option Nat :=
  if ds.length = 0 ∨ 60 < ds.length then none else if digs (NumText.digitsVal ds) = ds then some (NumText.digitsVal ds) else none
theorem rcount_rint (ds : List Nat) : rcount ds = match rint ds with | some n => if n ≤ 10 ^ 30 then some n else none | none => none := by
  unfold rcount rint
  by_cases h0 : ds.length = 0
  · rw [if_pos (.inl h0), if_pos (.inl h0)]
  by_cases h60 : 60 < ds.length
  · rw [if_pos (.inr (by omega)), if_pos (.inr h60)]
  rw [if_neg (by omega : ¬ (ds.length = 0 ∨ 60 < ds.length))]
  by_cases h : digs (NumText.digitsVal ds) = ds
  · rw [if_pos h]
    by_cases h31 : 31 < ds.length
    · rw [if_pos (.inr h31)]
      have : ¬ NumText.digitsVal ds ≤ 10 ^ 30 := fun hc => by
        have e := digs_lt (k := 31) (by decide) (Nat.lt_of_le_of_lt hc (by decide))
        rw [h] at e
        omega
      simp only [if_neg this]
    · rw [if_neg (by omega)]
      by_cases hc : NumText.digitsVal ds ≤ 10 ^ 30
      · simp only [if_pos hc, if_pos (And.intro hc h)]
      · simp only [if_neg hc, if_neg (fun (x : _ ∧ _) => hc x.1)]
  · rw [if_neg h]
    simp only [if_neg (fun (x : NumText.digitsVal ds ≤ 10 ^ 30 ∧ _) => h x.2), ite_self]
def sp_read_integer : Sp := fun vs H Q _ => ∃ z : Str, vs = [.str z] ∧ z.length ≤ 100000 ∧ (tl z).all isDig = true ∧ Q (cntV (rint (tl z))) H
theorem digs_alldig {l : List Nat} (h : l.all isDig = true) : NumText.AllDigits l := by
  intro c hc
  have := List.all_eq_true.mp h c hc
  simpa [isDig] using this
theorem digits_list : (Str.ofString "0123456789").cps.toList = [48,49,50,51,52,53,54,55,56,57] := by decide +kernel
theorem strip_digs {z : Str} (h : (tl z).all isDig = true) : Txt.stripChars z (Str.ofString "0123456789") = Str.ofString "" := by
  refine tl_inj ?_
  show (Txt.stripChars z (Str.ofString "0123456789")).cps.toList = _
  unfold Txt.stripChars
  rw [strip_none (g := (Str.ofString "0123456789").cps.contains)]
  · rfl
  · rw [List.all_eq_true] at h ⊢
    intro c hc
    have := h c hc
    rw [Array.contains_eq_mem, decide_eq_true_eq, Array.mem_def, digits_list]
    simp only [isDig, Bool.and_eq_true, decide_eq_true_eq] at this
    simp only [List.mem_cons, List.not_mem_nil, or_false]
    omega
theorem noprefix {z : Str} (h : (tl z).all isDig = true) : Txt.removeprefix z (Str.ofString "-") = z := by
  unfold Txt.removeprefix
  have : Builtin.Str.subAt z (Str.ofString "-") 0 = false := by
    cases e : Builtin.Str.subAt z (Str.ofString "-") 0 with
    | false => rfl
    | true =>
      unfold Builtin.Str.subAt at e
      have e1 := congrArg Array.toList (beq_iff_eq.mp e)
      rw [Array.toList_extract, show (Str.ofString "-").cps.toList = [45] by decide +kernel, show 0 + (Str.ofString "-").length = 1 by decide +kernel] at e1
      have hz : tl z = z.cps.toList := rfl
      rw [← hz] at e1
      cases ez : tl z with
      | nil => rw [ez] at e1; simp at e1
      | cons c l =>
        rw [ez] at e1 h
        simp at e1
        rw [List.all_cons, e1] at h
        simp [isDig] at h
  rw [this]
  rfl
theorem foldDigs_lt : ∀ (l : List Nat) (a : Nat), NumText.AllDigits l → l.foldl (fun acc c => acc * 10 + (c - 48)) a < (a + 1) * 10 ^ l.length
  | [], a, _ => by simp
  | c :: l, a, h => by
    have hc := h c List.mem_cons_self
    have ih := foldDigs_lt l (a * 10 + (c - 48)) (fun d hd => h d (List.mem_cons_of_mem _ hd))
    rw [List.foldl_cons, List.length_cons, Nat.pow_succ]
    refine Nat.lt_of_lt_of_le ih ?_
    rw [Nat.mul_comm (10 ^ l.length) 10, ← Nat.mul_assoc]
    exact Nat.mul_le_mul_right _ (by omega)
theorem digitsVal_lt (l : List Nat) (h : NumText.AllDigits l) : NumText.digitsVal l < 10 ^ l.length := by
  have := foldDigs_lt l 0 h
  rw [Nat.zero_add, Nat.one_mul] at this
  exact this
theorem digitsVal_log {l : List Nat} (h : NumText.AllDigits l) (hl : l.length ≤ 60) : (NumText.digitsVal l).log2 < 1920 := by
  by_cases h0 : NumText.digitsVal l = 0
  · rw [h0]; decide
  · refine (Nat.log2_lt h0).mpr (Nat.lt_of_lt_of_le (digitsVal_lt l h) (Nat.le_trans (Nat.pow_le_pow_right (by decide) hl) (by decide +kernel)))
theorem ok_read_integer (T : Top K mg) : FnOk P w K mg base CX0 1 T.a_read_integer T.d_read_integer ["text"] sp_read_integer := by

  refine T.F_read_integer.ok sc_read_integer (fun vs H Q E h => ?_) (fun cdv A outer s H vs Q E hr h => ?_)
  · obtain ⟨z, rfl, _⟩ := h
    rfl
  · obtain ⟨z, rfl, hz, hd, q⟩ := h
    refine ⟨_, (pss_cons (ps_set (i := 1) sc_read_integer.nd rfl (Or.inl rfl) (pe_bm PySem.F.plainAttrs_str PySem.F.slot_str_removeprefix PySem.F.type_str_removeprefix mt_removeprefix (pv 0) (pa_cons pe_str pa_nil)))
      (pss_cons (ps_if (PW.pt (pw_or (pt_cmpR op_eq (pv 1) pe_str (nomark _)) (pw_or (pt_cmpR op_ne (pe_bm PySem.F.plainAttrs_str PySem.F.slot_str_strip PySem.F.type_str_strip mt_stripChars (pv 1) (pa_cons (pe_glob (v := .str "0123456789") (by rfl) T.c_DIGITS ⟨_, rfl⟩) pa_nil)) pe_str (nomark _)) (pw_or1 (pt_cmpR op_gt (pe_callB call_len_str (by rfl) T.z_len (by decide +kernel) (pa_cons (pv 1) pa_nil)) (pe_glob (v := .int 60) (by rfl) T.c_MOST_DIGITS ⟨_, rfl⟩) (nomark _)))))) (pss_one (ps_ret pe_non)) pss_nil)
      (pss_cons (ps_set (i := 2) sc_read_integer.nd rfl (Or.inl rfl) (pe_callTy call_int_str (by rfl) T.z_int (by decide +kernel) (pa_cons (pv 0) pa_nil)))
      (pss_one (ps_ret (pe_ifExp (pt_cmpR op_eq (pe_callTy call_str_int (by rfl) T.z_str (by decide +kernel) (pa_cons (pv 2) pa_nil)) (pv 0) (nomark _)) (pv 2) pe_non)))))), ?_⟩
    have hst : start ["text", "digits", "number"] [.str z] = [some (.str z), none, none] := rfl
    rw [hst]
    walk_at "rd"
    rw [noprefix hd, strip_digs hd]
    have hl : (tl z).length = z.length := Array.length_toList
    refine ⟨sz_of hz, ?_⟩
    by_cases h0 : z = Str.ofString ""
    · rw [decide_eq_true h0]
      have : rint (tl z) = none := by rw [h0]; rfl
      rw [this] at q
      exact q
    rw [decide_eq_false h0]
    have hne : tl z ≠ [] := fun e => h0 (tl_inj e)
    have hpos : (tl z).length ≠ 0 := fun e => hne (List.eq_nil_of_length_eq_zero e)
    rw [if_neg (by decide), decide_eq_true rfl]
    refine ⟨sz_of hz, ?_⟩
    rw [if_neg (by decide)]
    refine ⟨sz_of hz, ?_⟩
    by_cases h60 : 60 < z.length
    · rw [decide_eq_true (by omega : (60 : Int) < (z.length : Int))]
      have : rint (tl z) = none := by unfold rint; rw [if_pos (by omega)]
      rw [this] at q
      exact q
    rw [decide_eq_false (by omega : ¬ (60 : Int) < (z.length : Int)), if_neg (by decide)]
    have ev : rint (tl z) = if digs (NumText.digitsVal (tl z)) = tl z then some (NumText.digitsVal (tl z)) else none := by
      unfold rint; rw [if_neg (by omega)]
    have hlog := digitsVal_log (digs_alldig hd) (by omega : (tl z).length ≤ 60)
    refine ⟨_, intText_digits (x := z) (digs_alldig hd) hne (by omega), by omega, ?_⟩
    generalize hn : NumText.digitsVal (tl z) = n at ev hlog
    refine ⟨by rw [Int.natAbs_natCast]; exact hlog, ?_⟩
    have e2 : tl (Str.ofString (toString (n : Int))) = digs n := PySem.W.KIN.signs_num n
    by_cases e : digs n = tl z
    · rw [decide_eq_true (tl_inj (e2.trans e)), if_pos rfl]
      rw [ev, if_pos e] at q
      exact q
    · rw [decide_eq_false (fun h => e (by rw [← e2, h])), if_neg (by decide)]
      rw [ev, if_neg e] at q
      exact q
/-! ### read_parts -/
theorem sg_eq (c : Nat) (z : String) (d : Nat) (h : Str.ofString z = ⟨#[d]⟩) : ((⟨#[c]⟩ : Str) = Str.ofString z) ↔ c = d := by
  rw [h]
  constructor
  · intro e
    injection e with e
    simpa using e
  · rintro rfl; rfl
theorem mem_digits : (fun c => decide (c ∈ (Str.ofString "0123456789").cps.toList)) = isDig := by
  funext c
  have e : (Str.ofString "0123456789").cps.toList = [48,49,50,51,52,53,54,55,56,57] := by decide +kernel
  rw [e, Bool.eq_iff_iff]
  simp only [isDig, decide_eq_true_eq, Bool.and_eq_true, List.mem_cons, List.not_mem_nil, or_false]
  omega
theorem mem_steps : (fun c => decide (c ∈ (Str.ofString "abcdefghijklmnopqrstuvwxyz-").cps.toList)) = isStep := by
  funext c
  have e : (Str.ofString "abcdefghijklmnopqrstuvwxyz-").cps.toList = [97,98,99,100,101,102,103,104,105,106,107,108,109,110,111,112,113,114,115,116,117,118,119,120,121,122,45] := by decide +kernel
  rw [e, Bool.eq_iff_iff]
  simp only [isStep, isLet, Bool.or_eq_true, decide_eq_true_eq, Bool.and_eq_true, List.mem_cons, List.not_mem_nil, or_false]
  omega
theorem take_run (p : Nat → Bool) (l : List Nat) (a : Nat) : (l.drop a).take (runE p l a - a) = (l.drop a).takeWhile p ∧ l.drop (runE p l a) = (l.drop a).dropWhile p := by
  have h := List.takeWhile_append_dropWhile (p := p) (l := l.drop a)
  have e : runE p l a - a = ((l.drop a).takeWhile p).length := by unfold runE; omega
  constructor
  · rw [e]
    conv => lhs; arg 2; rw [← h]
    exact List.take_left
  · have e2 : l.drop (runE p l a) = (l.drop a).drop ((l.drop a).takeWhile p).length := by rw [List.drop_drop]; rfl
    rw [e2]
    conv => lhs; arg 2; rw [← h]
    exact List.drop_left
theorem cut_run {t : Str} (p : Nat → Bool) {a : Nat} (h : a ≤ t.length) : tl (cutS t (some (a : Int)) (some (runE p t.cps.toList a : Nat))) = (t.cps.toList.drop a).takeWhile p := by
  have h2 : runE p t.cps.toList a ≤ t.length := by
    have := runE_le (p := p) (l := t.cps.toList) (a := a) (by rw [Array.length_toList]; exact h)
    rw [Array.length_toList] at this
    exact this
  have e1 : HT.sIx t.length 0 (some (a : Int)) = a := by
    simp only [HT.sIx]
    rw [if_neg (by omega)]; omega
  have e2 : HT.sIx t.length t.length (some (runE p t.cps.toList a : Nat)) = runE p t.cps.toList a := by
    simp only [HT.sIx]
    rw [if_neg (by omega)]; omega
  show ((t.cps.toList.drop (HT.sIx t.length 0 (some (a : Int)))).take (HT.sIx t.length t.length (some (runE p t.cps.toList a : Nat)) - HT.sIx t.length 0 (some (a : Int)))).toArray.toList = _
  rw [e1, e2]
  exact (take_run p _ a).1
theorem stp_close (os : List Parts) (ps : Parts) {c : Nat} (r : List Nat) (h : c = 41) : stp os ps c r = match rcount (r.takeWhile isDig), os with
            | some n, o :: os' => if os'.length ≤ 20 then some (os', o.app (.rep ps n .nil), r.dropWhile isDig) else none
            | _, _ => none := by
  unfold stp
  rw [if_neg (by omega), if_pos h]
  try (cases rcount (r.takeWhile isDig) <;> cases os <;> rfl)
def sp_read_parts : Sp := fun vs H Q _ => ∃ t : Str, vs = [.str t] ∧ t.length ≤ 100000 ∧ (rpt (tl t) = none → ∀ H1, Same H H1 → Q .non H1) ∧
  ∀ ps, rpt (tl t) = some ps → ∀ p H1, Same H H1 → H p = none → PartsAt H1 p ps → Q (.ref p) H1
def RIn (H0 : Hp) (t : Str) (m : Nat) (σ : L2.St) (H' : Hp) : Prop := ∃ (i k : Nat) (p q : Addr) (as : List Addr) (os : List Parts) (ps : Parts) (F : Hp) (x4 x5 x6 : Option V),
  σ = [some (.str t), some (.ref p), some (.ref q), some (.int i), x4, x5, x6] ∧ m = t.length - i ∧ i ≤ t.length ∧ rpF k os ps ((tl t).drop i) = rpt (tl t) ∧ t.length - i < k ∧ os.length ≤ 20 ∧
  Lay H0 F H' p q as os ps i
theorem ok_read_parts (T : Top K mg) : FnOk P w K mg base CX0 4 T.a_read_parts T.d_read_parts ["text"] sp_read_parts := by
  have G_end_of_run := ok_end_of_run (w := w) (base := base) T
  have G_read_integer := ok_read_integer (w := w) (base := base) T
  have G_is_count := ok_is_count (w := w) (base := base) T
  refine T.F_read_parts.ok sc_read_parts (fun vs H Q E h => ?_) (fun cdv A outer s H vs Q E hr h => ?_)
  · obtain ⟨t, rfl, _⟩ := h
    rfl
  · obtain ⟨t, rfl, ht, qn, qs⟩ := h
    refine ⟨_, (pss_cons (ps_set (i := 1) sc_read_parts.nd rfl (Or.inl rfl) (pe_lst pa_nil))
      (pss_cons (ps_set (i := 2) sc_read_parts.nd rfl (Or.inl rfl) (pe_lst pa_nil))
      (pss_cons (ps_set (i := 3) sc_read_parts.nd rfl (Or.inl rfl) pe_int)
      (pss_cons (ps_while PassesOwn.never (pt_cmpR op_lt (pv 3) (pe_callB call_len_str (by rfl) T.z_len (by decide +kernel) (pa_cons (pv 0) pa_nil)) (nomark _)) (pss_cons (ps_if (pt_cmpR op_eq (pe_ix ix_str (pv 0) (pv 3) (fun _ _ => rfl)) pe_str (nomark _)) (pss_cons (ps_expr (pe_bm PySem.F.plainAttrs_list PySem.F.slot_list_append PySem.F.type_list_append mt_append (pv 1) (pa_cons (pv 2) pa_nil)))
      (pss_cons (ps_set (i := 2) sc_read_parts.nd rfl (Or.inl rfl) (pe_lst pa_nil))
      (pss_one (ps_set (i := 4) sc_read_parts.nd rfl (Or.inl rfl) (pe_op op_add (pv 3) pe_int))))) (pss_one (ps_if (pt_cmpR op_eq (pe_ix ix_str (pv 0) (pv 3) (fun _ _ => rfl)) pe_str (nomark _)) (pss_cons (ps_set (i := 4) sc_read_parts.nd rfl (Or.inl rfl) (pe_call G_end_of_run (hr.mono (by first | decide | omega)) rfl T.m_end_of_run T.F_end_of_run.kp T.b_end_of_run .nil pass0 (pa_cons (pv 0) (pa_cons (pe_op op_add (pv 3) pe_int) (pa_cons (pe_glob (v := .str "0123456789") (by rfl) T.c_DIGITS ⟨_, rfl⟩) pa_nil)))))
      (pss_cons (ps_set (i := 5) sc_read_parts.nd rfl (Or.inl rfl) (pe_call G_read_integer (hr.mono (by first | decide | omega)) rfl T.m_read_integer T.F_read_integer.kp T.b_read_integer .nil pass0 (pa_cons (pe_slice sl_str (pv 0) (po_some (pe_op op_add (pv 3) pe_int)) (po_some (pv 4))) pa_nil)))
      (pss_cons (ps_if (PW.pt (pw_or (pt_not (pt_val (pe_call G_is_count (hr.mono (by first | decide | omega)) rfl T.m_is_count T.F_is_count.kp T.b_is_count .nil pass0 (pa_cons (pv 5) pa_nil)))) (pw_or1 (pt_cmpR op_eq (pe_callB call_len_seq (by rfl) T.z_len (by decide +kernel) (pa_cons (pv 1) pa_nil)) pe_int (nomark _))))) (pss_one (ps_ret pe_non)) pss_nil)
      (pss_cons (ps_set (i := 6) sc_read_parts.nd rfl (Or.inl rfl) (pe_tup (pa_cons (pv 2) (pa_cons (pv 5) pa_nil))))
      (pss_cons (ps_set (i := 2) sc_read_parts.nd rfl (Or.inl rfl) (pe_bm0 PySem.F.plainAttrs_list PySem.F.slot_list_pop PySem.F.type_list_pop mt_pop (pv 1)))
      (pss_one (ps_expr (pe_bm PySem.F.plainAttrs_list PySem.F.slot_list_append PySem.F.type_list_append mt_append (pv 2) (pa_cons (pv 6) pa_nil))))))))) (pss_cons (ps_set (i := 4) sc_read_parts.nd rfl (Or.inl rfl) (pe_call G_end_of_run (hr.mono (by first | decide | omega)) rfl T.m_end_of_run T.F_end_of_run.kp T.b_end_of_run .nil pass0 (pa_cons (pv 0) (pa_cons (pv 3) (pa_cons (pe_glob (v := .str "abcdefghijklmnopqrstuvwxyz-") (by rfl) T.c_STEPS ⟨_, rfl⟩) pa_nil)))))
      (pss_one (ps_expr (pe_bm PySem.F.plainAttrs_list PySem.F.slot_list_append PySem.F.type_list_append mt_append (pv 2) (pa_cons (pe_slice sl_str (pv 0) (po_some (pv 3)) (po_some (pv 4))) pa_nil))))))))
      (pss_cons (ps_if (PW.pt (pw_or (pt_cmpR op_eq (pv 4) (pv 3) (nomark _)) (pw_or1 (pt_cmpR op_gt (pe_callB call_len_seq (by rfl) T.z_len (by decide +kernel) (pa_cons (pv 1) pa_nil)) (pe_glob (v := .int 20) (by rfl) T.c_MOST_DEPTH ⟨_, rfl⟩) (nomark _))))) (pss_one (ps_ret pe_non)) pss_nil)
      (pss_one (ps_set (i := 3) sc_read_parts.nd rfl (Or.inl rfl) (pv 4))))))
      (pss_one (ps_ret (pe_ifExp (pt_cmpR op_eq (pe_callB call_len_seq (by rfl) T.z_len (by decide +kernel) (pa_cons (pv 1) pa_nil)) pe_int (nomark _)) (pv 2) pe_non))))))), ?_⟩
    have hst : start ["text", "outer", "parts", "at", "end", "count", "repetition"] [.str t] = [some (.str t), none, none, none, none, none, none] := rfl
    rw [hst]
    walk_at "rd"
    have hl : (tl t).length = t.length := Array.length_toList
    refine ⟨by walk_at "sz", fun p hp => ⟨by walk_at "sz", fun q hq => ?_⟩⟩
    refine ⟨RIn H t, ⟨_, 0, t.length + 1, p, q, [], [], .nil, H, none, none, none, rfl, rfl, Nat.zero_le _, by rw [← hl]; rfl, by omega, by decide, Lay.init hp hq⟩, ?_⟩
    rintro m σ H' ⟨i, k, p, q, as, os, ps, F, x4, x5, x6, rfl, rfl, hi, hrp, hk, h20, L⟩
    walk_at "rd"
    refine ⟨sz_of ht, ?_⟩
    have hao : as.length = os.length := L.op.len
    have hpl : SqL K H' p (as.reverse.map V.ref) := SqL.of L.hp
    by_cases hlt : i < t.length
    · rw [decide_eq_true (by omega : (i : Int) < (t.length : Int))]
      walk_at "rd"
      obtain ⟨c, hc⟩ : ∃ c, t.cps.toList[i]? = some c := ⟨_, List.getElem?_eq_getElem (by rw [Array.length_toList]; exact hlt)⟩
      have hdr : (tl t).drop i = c :: (tl t).drop (i + 1) := by
        obtain ⟨hi', e⟩ := List.getElem?_eq_some_iff.mp hc
        rw [List.drop_eq_getElem_cons (by omega)]
        congr 1
      obtain ⟨k, rfl⟩ : ∃ k', k = k' + 1 := ⟨k - 1, by omega⟩
      rw [hdr, rpF] at hrp
      refine ⟨fun σ' H'' => ∃ m', m' < t.length - i ∧ RIn H t m' σ' H'', fun _ _ h => h, ?_⟩
      refine ix_str_at ht (by omega) (by simpa using hc) ?_
      have e40 : decide (V.str ⟨#[c]⟩ = V.str (Str.ofString "(")) = decide (c = 40) := decide_eq_decide.mpr (by rw [V.str.injEq]; exact sg_eq c "(" 40 (by decide +kernel))
      have e41 : decide (V.str ⟨#[c]⟩ = V.str (Str.ofString ")")) = decide (c = 41) := decide_eq_decide.mpr (by rw [V.str.injEq]; exact sg_eq c ")" 41 (by decide +kernel))
      have fin : ∀ H1, Same F H1 → stp os ps c ((tl t).drop (i + 1)) = none → Q .non H1 := fun H1 s1 e => by
        rw [e] at hrp
        exact qn hrp.symm H1 (fun b u z => s1 b u (L.s0 b u z))
      refine ⟨rfl, ?_⟩
      rw [e40]
      by_cases c40 : c = 40
      · rw [decide_eq_true c40, if_pos rfl]
        refine ⟨.inl ⟨_, hpl⟩, _, _, _, rfl, rfl, L.hp, by simp only [List.length_map, List.length_reverse]; exact Nat.lt_of_le_of_lt (by omega : as.length ≤ 100000) (by decide), by walk_at "sz", fun r hr => ?_⟩
        rw [decide_eq_false (by omega), if_neg (by decide)]
        have L2 := L.opn hr
        have hpl2 : SqL K _ p (List.map V.ref (q :: as).reverse) := SqL.of (K := K) L2.hp
        refine ⟨_, .inl hpl2, ?_⟩
        simp only [List.length_map, List.length_reverse, List.length_cons]
        have es : stp os ps c ((tl t).drop (i + 1)) = if os.length + 1 ≤ 20 then some (ps :: os, .nil, (tl t).drop (i + 1)) else none := by unfold stp; rw [if_pos c40]
        by_cases hb : os.length + 1 ≤ 20
        · rw [decide_eq_false (by omega), if_neg (by decide)]
          rw [es, if_pos hb] at hrp
          refine ⟨t.length - (i + 1), by omega, i + 1, k, p, r, q :: as, ps :: os, .nil, F, some (.int (i + 1 : Nat)), x5, x6, rfl, rfl, by omega, hrp, by omega, hb, L2⟩
        · rw [decide_eq_true (by omega), if_pos rfl]
          exact fin _ L2.s1 (by rw [es, if_neg hb])
      rw [decide_eq_false c40, if_neg (by decide)]
      refine ix_str_at ht (by omega) (by simpa using hc) ⟨rfl, ?_⟩
      rw [e41]
      by_cases c41 : c = 41
      · rw [decide_eq_true c41, if_pos rfl]
        simp only [sp_end_of_run]
        have hii : i + 1 ≤ t.length := hlt
        have hle : runE isDig t.cps.toList (i + 1) ≤ t.length := by
          have := runE_le (p := isDig) (l := t.cps.toList) (a := i + 1) (by rw [Array.length_toList]; exact hii)
          rw [Array.length_toList] at this
          exact this
        have hge : i + 1 ≤ runE isDig t.cps.toList (i + 1) := Nat.le_add_right _ _
        refine ⟨t, Str.ofString "0123456789", i + 1, rfl, ht, by decide +kernel, hii, _, rfl, ?_⟩
        rw [mem_digits]
        refine ⟨t, rfl, sz_of ht, ?_⟩
        simp only [sp_read_integer]
        have hcut : tl (cutS t (some ((i : Int) + 1)) (some (runE isDig t.cps.toList (i + 1) : Nat))) = ((tl t).drop (i + 1)).takeWhile isDig := cut_run isDig hii
        refine ⟨_, rfl, Nat.le_trans (cutS_length _ _ _) ht, ?_, ?_⟩
        · rw [hcut]; exact List.all_takeWhile
        rw [hcut]
        have es := stp_close os ps ((tl t).drop (i + 1)) c41
        rw [rcount_rint] at es
        simp only [sp_has]
        cases ec : rint (((tl t).drop (i + 1)).takeWhile isDig) with
        | none =>
          rw [ec] at es
          refine ⟨_, rfl, .non, ?_⟩
          exact ⟨false, rfl, fin _ L.s1 es⟩
        | some n =>
          rw [ec] at es
          dsimp only at es
          refine ⟨_, rfl, .int _, ?_⟩
          have ei : isCountV (cntV (some n)) = decide (n ≤ 10 ^ 30) := by
            show (decide (0 ≤ (n : Int)) && decide ((n : Int) ≤ 10 ^ 30)) = _
            rw [decide_eq_true (by omega : (0 : Int) ≤ (n : Int)), Bool.true_and]
            exact decide_eq_decide.mpr (by omega)
          rw [ei]
          by_cases hc30 : n ≤ 10 ^ 30
          case neg =>
            rw [if_neg hc30] at es
            rw [decide_eq_false hc30]
            exact ⟨false, rfl, fin _ L.s1 es⟩
          rw [if_pos hc30] at es
          rw [decide_eq_true hc30]
          refine ⟨true, rfl, ?_⟩
          rw [Bool.not_true, if_neg (by decide)]
          refine ⟨_, .inl hpl, ?_⟩
          simp only [List.length_map, List.length_reverse]
          cases os with
          | nil =>
            rw [decide_eq_true (by rw [hao]; rfl), if_pos rfl]
            exact fin _ L.s1 es
          | cons o os =>
            cases as with
            | nil => cases hao
            | cons a as =>
              have h20' : os.length ≤ 20 := by rw [List.length_cons] at h20; omega
              simp only at es
              rw [if_pos h20'] at es
              rw [decide_eq_false (by rw [List.length_cons]; omega), if_neg (by decide)]
              refine ⟨by walk_at "sz", fun r hr => ?_⟩
              obtain ⟨vq, hq, _, _⟩ := L.hq
              obtain ⟨⟨va, ha, pa, la⟩, _⟩ := L.op
              have rp : p ≠ r := fun e => by rw [← e, L.hp] at hr; cases hr
              have ra : a ≠ r := fun e => by rw [← e, ha] at hr; cases hr
              have nd := L.nd
              simp only [List.nodup_cons, List.mem_cons, not_or] at nd
              have ap : a ≠ p := Ne.symm nd.1.2.1
              obtain ⟨F', L2⟩ := L.cls (r := r) (c := n) hr ha (by omega) (m := runE isDig t.cps.toList (i + 1)) hge
              have hp1 : upd H' r (.tup [.ref q, cntV (some n)]) p = some (.lst ((a :: as).reverse.map V.ref)) := by rw [upd_ne rp]; exact L.hp
              refine ⟨.inl ⟨_, SqL.of hp1⟩, p, _, .ref a, rfl, rfl, hp1, by simp, ?_⟩
              have ha2 : upd (upd H' r (.tup [.ref q, cntV (some n)])) p (.lst ((a :: as).reverse.map V.ref).dropLast) a = some (.lst va) := by rw [upd_ne ap, upd_ne ra]; exact ha
              refine ⟨.inl ⟨_, SqL.of ha2⟩, a, va, _, rfl, rfl, ha2, Nat.lt_of_le_of_lt (by omega : va.length ≤ 100000) (by decide), trivial, ?_⟩
              rw [decide_eq_false (by simp only [V.int.injEq]; omega), if_neg (by decide)]
              refine ⟨_, .inl (SqL.of L2.hp), ?_⟩
              have hao' : as.length = os.length := L2.op.len
              simp only [List.length_map, List.length_reverse]
              rw [decide_eq_false (by omega), if_neg (by decide)]
              rw [es] at hrp
              refine ⟨t.length - runE isDig t.cps.toList (i + 1), by omega, _, k, p, a, as, os, _, F', _, _, _, rfl, rfl, hle, ?_, by omega, h20', L2⟩
              rw [← hrp]
              exact congrArg _ (take_run isDig (tl t) (i + 1)).2
      · rw [decide_eq_false c41, if_neg (by decide)]
        simp only [sp_end_of_run]
        walk_at "rd"
        have hle : runE isStep t.cps.toList i ≤ t.length := by
          have := runE_le (p := isStep) (l := t.cps.toList) (a := i) (by rw [Array.length_toList]; exact hi)
          rw [Array.length_toList] at this
          exact this
        obtain ⟨vq, hq, _, lq⟩ := L.hq
        refine ⟨Str.ofString "abcdefghijklmnopqrstuvwxyz-", i, rfl, rfl, ht, by decide +kernel, hi, .inl ⟨_, SqL.of hq⟩, ?_⟩
        rw [mem_steps]
        refine ⟨t, rfl, sz_of ht, q, vq, _, rfl, rfl, hq, Nat.lt_of_le_of_lt (by omega : vq.length ≤ 100000) (by decide), ?_⟩
        have es : stp os ps c ((tl t).drop (i + 1)) = if isStep c then (if os.length ≤ 20 then some (os, ps.app (.seq ((c :: (tl t).drop (i + 1)).takeWhile isStep) .nil), (c :: (tl t).drop (i + 1)).dropWhile isStep) else none) else none := by
          conv => lhs; unfold stp
          rw [if_neg c40, if_neg c41]
        have hcut : tl (cutS t (some (i : Int)) (some (runE isStep t.cps.toList i : Nat))) = ((tl t).drop i).takeWhile isStep := cut_run isStep hi
        by_cases hsc : isStep c = true
        · have hgo : runE isStep t.cps.toList (i + 1) = runE isStep t.cps.toList i := runE_go hc hsc
          have hge : i + 1 ≤ runE isStep t.cps.toList i := by rw [← hgo]; exact Nat.le_add_right _ _
          have L2 := L.add (s := cutS t (some (i : Int)) (some (runE isStep t.cps.toList i : Nat))) hq hge
          rw [decide_eq_false (by omega)]
          refine ⟨_, .inl (SqL.of L2.hp), ?_⟩
          simp only [List.length_map, List.length_reverse]
          rw [decide_eq_false (by omega), if_neg (by decide)]
          rw [if_pos hsc, if_pos h20] at es
          rw [es] at hrp
          refine ⟨t.length - runE isStep t.cps.toList i, by omega, _, k, p, q, as, os, _, F, _, _, _, rfl, rfl, hle, ?_, by omega, h20, L2⟩
          rw [← hrp, hcut, hdr]
          have := (take_run isStep (tl t) i).2
          rw [hdr] at this
          exact congrArg _ this
        · have hst2 : runE isStep t.cps.toList i = i := runE_stop hc (by simpa using hsc)
          rw [decide_eq_true (by rw [hst2])]
          rw [if_neg hsc] at es
          exact fin _ (same_mut L.s1 (L.fr q (by simp))) es
    · rw [decide_eq_false (by omega : ¬ (i : Int) < (t.length : Int))]
      walk_at "rd"
      refine ⟨_, .inl hpl, ?_⟩
      simp only [List.length_map, List.length_reverse]
      have hdr : (tl t).drop i = [] := List.drop_eq_nil_of_le (by omega)
      obtain ⟨k, rfl⟩ : ∃ k', k = k' + 1 := ⟨k - 1, by omega⟩
      rw [hdr, rpF] at hrp
      have s1 : Same H H' := L.s0.trans L.s1
      by_cases h0 : os.length = 0
      · rw [decide_eq_true (by omega), if_pos rfl]
        rw [if_pos h0] at hrp
        obtain ⟨vq, hq, pq, lq⟩ := L.hq
        exact qs ps hrp.symm q H' s1 (L.free (by simp)) ⟨vq, hq, by omega, pq.mono L.s1⟩
      · rw [decide_eq_false (by omega), if_neg (by decide)]
        rw [if_neg h0] at hrp
        exact qn hrp.symm H' s1
/-! ### parts_of -/
def progV : V → Option Parts
  | .str t => rpt (tl t)
  | _ => none
def sp_parts_of (K : PySem.W.Frag) (C : Addr) : Sp := fun vs H Q E => ∃ x, vs = [x] ∧ Kd K H x ∧ (progV x = none → ∀ H1, Same H H1 → E (.ref C) none H1) ∧
  ∀ ps, progV x = some ps → ∀ p H1, Same H H1 → H p = none → PartsAt H1 p ps → Q (.ref p) H1
theorem ok_parts_of (T : Top K mg) : FnOk P w K mg base (L2.CX P w) 5 T.a_parts_of T.d_parts_of ["program"] (sp_parts_of K T.x_InvalidProgram) := by
  have G_read_parts := ok_read_parts (w := w) (base := base) T
  refine T.F_parts_of.okX sc_parts_of (fun vs H Q E h => ?_) (fun cdv A outer s H vs Q E hr h => ?_)
  · obtain ⟨x, rfl, _⟩ := h
    rfl
  · obtain ⟨x, rfl, kx, hE, q⟩ := h
    refine ⟨_, (pss_cons (ps_set (i := 1) sc_parts_of.nd rfl (Or.inl rfl) (pe_ifExp (pt_val (pe_callB call_isi (by rfl) T.z_isinstance (by decide +kernel) (pa_cons (pv 0) (pa_cons (pe_bltn (v := .ty "str") (by rfl) T.z_str (by decide +kernel) rfl) pa_nil)))) (pe_call G_read_parts (hr.mono (by first | decide | omega)) rfl T.m_read_parts T.F_read_parts.kp T.b_read_parts .nil pass0 (pa_cons (pv 0) pa_nil)) pe_non))
      (pss_cons (ps_if (pt_cmpR op_isN (pv 1) pe_non (nomark _)) (pss_one (ps_raise rfl (takes_of rfl rfl rfl rfl) (pmk_own PySem.F.excBase_ValueError T.q_InvalidProgram T.g_InvalidProgram T.k_InvalidProgram (raises_own T.b_InvalidProgram T.t_InvalidProgram) rfl))) pss_nil)
      (pss_one (ps_ret (pv 1))))), ?_⟩
    have hst : start ["program", "parts"] [x] = [some x, none] := rfl
    rw [hst]
    walk_at "rd"
    simp only [sp_read_parts]
    refine isi_str kx ⟨_, rfl, ?_⟩
    cases kx with
    | str z hz =>
      refine (if_pos rfl).mpr ⟨z, rfl, hz, fun e H1 s1 => ?_, fun ps e p H1 s1 hn hp => ?_⟩
      · walk_at "rd"
        exact hE e H1 s1
      · rw [decide_eq_false (by simp), if_neg (by decide)]
        exact q ps e p H1 s1 hn hp
    | _ => exact hE rfl H (fun _ _ h => h)

/-! ### how much is read -/
def volS : List Parts → Nat
  | [] => 0
  | o :: os => o.vol + volS os
theorem stp_vol {os ps c r os' ps' r'} (h : stp os ps c r = some (os', ps', r')) : volS os' + ps'.vol + r'.length ≤ volS os + ps.vol + (r.length + 1) := by
  unfold stp at h
  have d1 := len_dropWhile isDig r
  have d2 : ((c :: r).takeWhile isStep).length + ((c :: r).dropWhile isStep).length = r.length + 1 := by
    rw [← List.length_append, List.takeWhile_append_dropWhile]; rfl
  split at h
  · split at h
    · simp only [Option.some.injEq, Prod.mk.injEq] at h
      obtain ⟨rfl, rfl, rfl⟩ := h
      simp only [volS, Parts.vol]; omega
    · cases h
  · split at h
    · split at h
      · split at h
        · simp only [Option.some.injEq, Prod.mk.injEq] at h
          obtain ⟨rfl, rfl, rfl⟩ := h
          simp only [volS, Parts.vol_app, Parts.vol]; omega
        · cases h
      · cases h
    · split at h
      · split at h
        · simp only [Option.some.injEq, Prod.mk.injEq] at h
          obtain ⟨rfl, rfl, rfl⟩ := h
          simp only [Parts.vol_app, Parts.vol]; omega
        · cases h
      · cases h
theorem rpF_vol : ∀ {k os ps r q}, rpF k os ps r = some q → q.vol ≤ volS os + ps.vol + r.length
  | 0, _, _, _, _, h => by cases h
  | _ + 1, os, ps, [], q, h => by
    rw [rpF] at h
    split at h
    · cases h; omega
    · cases h
  | k + 1, os, ps, c :: r, q, h => by
    rw [rpF] at h
    split at h
    · cases h
    · rename_i os' ps' r' e
      have h1 := stp_vol e
      have h2 := rpF_vol h
      rw [List.length_cons]; omega
theorem rpt_vol {t : List Nat} {q : Parts} (h : rpt t = some q) : q.vol ≤ t.length := by
  have := rpF_vol h
  simpa [volS, Parts.vol] using this

/-! ### ending -/
theorem endS_len (x : Str) (n : Int) : (endS x n).length ≤ x.length := cutS_length _ _ _
theorem ok_ending (T : Top K mg) : FnOk P w K mg base CX0 1 T.a_ending T.d_ending ["text", "most"] (fun vs H Q _ => ∃ (x : Str) (n : Int), vs = [.str x, .int n] ∧ x.length ≤ 100000 ∧ Q (.str (endS x n)) H) := by

  refine T.F_ending.ok sc_ending (fun vs H Q E h => ?_) (fun cdv A outer s H vs Q E hr h => ?_)
  · obtain ⟨x, n, rfl, _⟩ := h
    rfl
  · obtain ⟨x, n, rfl, hx, q⟩ := h
    refine ⟨_, (pss_one (ps_ret (pe_slice sl_str (pv 0) (po_some (pe_callB (call_max2 rfl) (by rfl) T.z_max (by decide +kernel) (pa_cons pe_int (pa_cons (pe_op op_sub (pe_callB call_len_str (by rfl) T.z_len (by decide +kernel) (pa_cons (pv 0) pa_nil)) (pv 1)) pa_nil)))) po_none))), ?_⟩
    have hst : start ["text", "most"] [.str x, .int n] = [some (.str x), some (.int n)] := rfl
    rw [hst]
    walk_at "rd"
    have e : (if (x.length : Int) - n > 0 then (x.length : Int) - n else 0) = max 0 ((x.length : Int) - n) := by split <;> omega
    rw [e]
    exact ⟨sz_of hx, x, rfl, sz_of hx, q⟩

/-! ### last_letters -/
def puts (l : List Nat) : List Nat := l.filter (fun c => decide (c ≠ 45))
theorem puts_app (a b : List Nat) : puts (a ++ b) = puts a ++ puts b := List.filter_append a b
theorem puts_rep (n : Nat) (a : List Nat) : puts (List.replicate n a).flatten = (List.replicate n (puts a)).flatten := by
  induction n with
  | zero => rfl
  | succ n ih => rw [List.replicate_succ, List.flatten_cons, puts_app, ih, List.replicate_succ, List.flatten_cons]
theorem ceil_nat {m k : Nat} (hk : 0 < k) : -(-(m : Int) / (k : Int)) = (((m + (k - 1)) / k : Nat) : Int) := by
  have d := Nat.div_add_mod (m + (k - 1)) k
  have e := Nat.mod_lt (m + (k - 1)) hk
  generalize (m + (k - 1)) / k = c at *
  have hc : (k : Int) * (c : Int) = ((k * c : Nat) : Int) := by rw [Int.natCast_mul]
  have u := (Int.ediv_emod_unique (a := -(m : Int)) (b := (k : Int)) (r := (k : Int) * c - m) (q := -(c : Int)) (by omega)).mpr ⟨by rw [Int.mul_neg]; omega, by omega, by omega⟩
  rw [u.1, Int.neg_neg]
def sp_ll (n : Nat) : Sp := fun vs H Q _ => ∃ (p : Addr) (ps : Parts) (m : Nat), vs = [.ref p, .int (m : Int)] ∧ PartsAt H p ps ∧ ps.dep < n ∧ n ≤ 21 ∧ ps.ok ∧ ps.vol ≤ 100000 ∧ m ≤ 4000 ∧ ∀ H1, Same H H1 → Q (.str ⟨(lastN m (puts ps.den)).toArray⟩) H1
def sp_llp (n : Nat) : Sp := fun vs H Q _ => ∃ (x : V) (ps : Parts) (m : Nat), vs = [x, .int (m : Int)] ∧ PVs H [x] ps ∧ ps.dep ≤ n ∧ n ≤ 21 ∧ ps.ok ∧ ps.vol ≤ 100000 ∧ m ≤ 4000 ∧ ∀ H1, Same H H1 → Q (.str ⟨(lastN m (puts ps.den)).toArray⟩) H1
theorem ok_llp_of (T : Top K mg) (n : Nat) (G_last_letters : FnOkN 273 P w K mg base CX0 (2 * n + 1) T.a_last_letters T.d_last_letters ["parts", "most"] (sp_ll n)) :
    FnOkN 273 P w K mg base CX0 (2 * n + 2) T.a_last_letters_of_part T.d_last_letters_of_part ["part", "most"] (sp_llp n) := by
  have G_ending := ok_ending (w := w) (base := base) T
  refine funN T.F_last_letters_of_part sc_last_letters_of_part (fun vs H Q E h => ?_) (fun cdv A outer s H vs Q E hr h => ?_)
  · obtain ⟨x, ps, m, rfl, _⟩ := h
    rfl
  · obtain ⟨x, ps, m, rfl, hpv, hd, hn, hok, hl, hm, q⟩ := h
    refine ⟨_, (pssn_cons (psn_if (ptn_of (pt_val (pe_callB call_isi (by rfl) T.z_isinstance (by decide +kernel) (pa_cons (pv 0) (pa_cons (pe_bltn (v := .ty "str") (by rfl) T.z_str (by decide +kernel) rfl) pa_nil))))) (pssn_one (psn_ret (pen_call (FnOkN.of G_ending) (hr.mono (by first | decide | omega)) rfl T.m_ending T.F_ending.kp T.b_ending .nil pass0 (pan_cons (pen_repl (by rfl) T.c_TAKE (Nat.ne_of_gt T.w_TAKE.1) T.w_TAKE.2 (pen_of (pv 0))) (pan_of (pa_cons (pv 1) pa_nil)))))) (pssn_of pss_nil)) (pssn_cons (psn_of (ps_asg (pv 0) (pg_tup (by rfl) (pgs_cons (pg_name (i := 2) sc_last_letters_of_part.nd rfl (Or.inl rfl)) (pgs_cons (pg_name (i := 3) sc_last_letters_of_part.nd rfl (Or.inl rfl)) pgs_nil))))) (pssn_cons (psn_set (i := 4) sc_last_letters_of_part.nd rfl (Or.inl rfl) (pen_call G_last_letters (hr.mono (by first | decide | omega)) rfl T.m_last_letters T.F_last_letters.kp T.b_last_letters .nil pass0 (pan_of (pa_cons (pv 2) (pa_cons (pv 1) pa_nil))))) (pssn_of (pss_cons (ps_if (pt_cmpR op_eq (pv 4) pe_str (nomark _)) (pss_one (ps_ret pe_str)) pss_nil)
      (pss_cons (ps_set (i := 5) sc_last_letters_of_part.nd rfl (Or.inl rfl) (pe_callB (call_min2 rfl) (by rfl) T.z_min (by decide +kernel) (pa_cons (pv 3) (pa_cons (pe_un un_neg (pe_op op_fdiv (pe_un un_neg (pv 1)) (pe_callB call_len_str (by rfl) T.z_len (by decide +kernel) (pa_cons (pv 4) pa_nil)))) pa_nil))))
      (pss_one (ps_ret (pe_call G_ending (hr.mono (by first | decide | omega)) rfl T.m_ending T.F_ending.kp T.b_ending .nil pass0 (pa_cons (pe_op op_rep_str (pv 4) (pv 5)) (pa_cons (pv 1) pa_nil))))))))))), ?_⟩
    have hst : start ["part", "most", "body", "count", "letters", "rounds"] [x, .int (m : Int)] = [some x, some (.int (m : Int)), none, none, none, none] := rfl
    rw [hst]
    walk_at "rd"
    cases hpv with
    | seq pr =>
      rename_i s0 r0
      cases pr
      rw [Parts.den, Parts.den, List.append_nil] at q
      rw [Parts.vol, Parts.vol] at hl
      have hs0 : (tl s0).length = s0.length := tl_len s0
      have e0 : (Str.ofString "").length = 0 := by decide +kernel
      have er : tl (Txt.replace s0 (Str.ofString "-") (Str.ofString "")) = puts (tl s0) := replace_one s0
      have hr : (Txt.replace s0 (Str.ofString "-") (Str.ofString "")).length ≤ 100000 := by
        rw [← tl_len, er]
        exact Nat.le_trans (List.length_filter_le _ _) (by omega)
      refine isi_str (.str _ (by omega)) ?_
      simp only [tStr]
      walk_at "rd"
      have ez : endS (Txt.replace s0 (Str.ofString "-") (Str.ofString "")) (m : Int) = ⟨(lastN m (puts (tl s0))).toArray⟩ := tl_inj (by rw [tl_end, er]; rfl)
      refine ⟨_, rfl, s0, rfl, by rw [e0]; omega, _, rfl, hr, ?_⟩
      rw [ez]
      exact q H (fun _ _ h => h)
    | rep h1 h2 h3 hb pr =>
      rename_i q0 p0 n0 vb b0 r0
      cases pr
      rw [Parts.den, Parts.den, List.append_nil, puts_rep] at q
      rw [Parts.dep, Parts.dep] at hd
      rw [Parts.vol, Parts.vol] at hl
      refine isi_str (kd_tup h1) ?_
      simp only [tStr]
      walk_at "rd"
      refine ⟨[.ref p0, .int n0], SqT.of h1, rfl, ?_⟩
      simp only [gCons, gNil]
      walk_at "rd"
      simp only [sp_ll]
      refine ⟨p0, b0, m, rfl, ⟨vb, h2, h3, hb⟩, by omega, by omega, hok.1, by omega, hm, fun H1 s1 => ?_⟩
      walk_at "rd"
      have lz := lastN_len m (puts b0.den)
      have ez : (⟨(lastN m (puts b0.den)).toArray⟩ : Str).length = (lastN m (puts b0.den)).length := by rw [← tl_len]
      have e0 : (Str.ofString "") = (⟨#[]⟩ : Str) := by decide +kernel
      by_cases he : lastN m (puts b0.den) = []
      · have hq : lastN m (List.replicate n0 (puts b0.den)).flatten = [] := by
          rw [he, List.length_nil] at lz
          rcases Nat.eq_zero_or_pos m with z | z
          · rw [z, lastN_zero]
          · have : puts b0.den = [] := List.eq_nil_of_length_eq_zero (by omega)
            rw [this, show (List.replicate n0 ([] : List Nat)).flatten = [] from by simp]
            exact lastN_all (Nat.zero_le _)
        rw [he, e0, decide_eq_true rfl, if_pos rfl]
        have := q H1 s1
        rw [hq] at this
        exact this
      · rw [decide_eq_false (fun e => he (by rw [e0] at e; injection e with e; simpa using e)), if_neg (by decide), ez]
        have hpos : 0 < (lastN m (puts b0.den)).length := List.length_pos_iff.mpr he
        rw [ceil_nat hpos]
        have hdm := Nat.div_add_mod (m + ((lastN m (puts b0.den)).length - 1)) (lastN m (puts b0.den)).length
        have hdl : (m + ((lastN m (puts b0.den)).length - 1)) / (lastN m (puts b0.den)).length ≤ m + ((lastN m (puts b0.den)).length - 1) := Nat.div_le_self _ _
        obtain ⟨r, hr⟩ : ∃ r, r = min n0 ((m + ((lastN m (puts b0.den)).length - 1)) / (lastN m (puts b0.den)).length) := ⟨_, rfl⟩
        have hmul : (lastN m (puts b0.den)).length * r ≤ 8000 := Nat.le_trans (Nat.mul_le_mul_left _ (by omega : r ≤ (m + ((lastN m (puts b0.den)).length - 1)) / (lastN m (puts b0.den)).length)) (by omega)
        have hi : (if (((m + ((lastN m (puts b0.den)).length - 1)) / (lastN m (puts b0.den)).length : Nat) : Int) < (n0 : Int) then (((m + ((lastN m (puts b0.den)).length - 1)) / (lastN m (puts b0.den)).length : Nat) : Int) else (n0 : Int)) = (r : Int) := by
          rw [hr]
          split <;> omega
        rw [hi]
        have hs : (srep (⟨(lastN m (puts b0.den)).toArray⟩ : Str) r).length ≤ 100000 := by
          rw [← tl_len, tl_srep, len_flat_rep, Nat.mul_comm]
          exact Nat.le_trans hmul (by decide)
        refine ⟨sz_of (by omega), ?_, ⟨(lastN m (puts b0.den)).toArray⟩, (r : Int), rfl, rfl, by omega, ?_, ?_, _, rfl, hs, ?_⟩
        · first | (constructor <;> omega) | (unfold CDiv; omega) | (unfold CDiv; refine ⟨?_, ?_⟩ <;> omega)
        · exact Int.lt_of_le_of_lt (by omega : (r : Int) ≤ 8000) (by decide)
        · rw [ez, Int.toNat_natCast]
          exact Nat.le_trans hmul (by decide)
        · have eq : endS (srep (⟨(lastN m (puts b0.den)).toArray⟩ : Str) (r : Int).toNat) (m : Int) = ⟨(lastN m (List.replicate n0 (puts b0.den)).flatten).toArray⟩ := tl_inj (by
            rw [tl_end, Int.toNat_natCast, tl_srep]
            exact lastN_part hpos hr)
          rw [Int.toNat_natCast] at eq ⊢
          rw [eq]
          exact q H1 s1
theorem PVs.unsnoc {H : Hp} {x : V} : ∀ {r : List V} {ps : Parts}, PVs H (r ++ [x]) ps → ∃ a b, PVs H r a ∧ PVs H [x] b ∧ ps.den = a.den ++ b.den ∧ a.dep ≤ ps.dep ∧ b.dep ≤ ps.dep ∧ a.vol ≤ ps.vol ∧ b.vol ≤ ps.vol ∧ (ps.ok → a.ok ∧ b.ok)
  | [], ps, h => ⟨.nil, ps, .nil, h, rfl, Nat.zero_le _, Nat.le_refl _, Nat.zero_le _, Nat.le_refl _, fun h => ⟨trivial, h⟩⟩
  | y :: r, ps, h => by
    cases h with
    | @seq s _ r0 pr =>
      obtain ⟨a, b, h1, h2, h3, h4, h5, h6, h7, h8⟩ := PVs.unsnoc pr
      exact ⟨.seq (tl s) a, b, .seq h1, h2, by rw [Parts.den, Parts.den, h3, List.append_assoc], h4, h5, by rw [Parts.vol, Parts.vol]; omega, by rw [Parts.vol]; omega, fun h => ⟨⟨h.1, h.2.1, (h8 h.2.2).1⟩, (h8 h.2.2).2⟩⟩
    | @rep q p n vb vs b0 r0 g1 g2 g3 hb pr =>
      obtain ⟨a, b, h1, h2, h3, h4, h5, h6, h7, h8⟩ := PVs.unsnoc pr
      exact ⟨.rep b0 n a, b, .rep g1 g2 g3 hb h1, h2, by rw [Parts.den, Parts.den, h3, List.append_assoc], by simp only [Parts.dep]; omega, by simp only [Parts.dep]; omega, by simp only [Parts.vol]; omega, by simp only [Parts.vol]; omega, fun h => ⟨⟨h.1, h.2.1, (h8 h.2.2).1⟩, (h8 h.2.2).2⟩⟩
theorem rec_ll (T : Top K mg) : ∀ n : Nat, FnOkN 273 P w K mg base CX0 (2 * n + 1) T.a_last_letters T.d_last_letters ["parts", "most"] (sp_ll n)
  | 0 => by
    refine funN T.F_last_letters sc_last_letters (fun vs H Q E h => ?_) (fun cdv A outer s H vs Q E hr h => ?_)
    · obtain ⟨p, ps, m, rfl, _⟩ := h
      rfl
    · obtain ⟨p, ps, m, rfl, _, h, _⟩ := h
      exact absurd h (Nat.not_lt_zero _)
  | n + 1 => by
    have G_last_letters_of_part := ok_llp_of T n (rec_ll T n)
    refine funN T.F_last_letters sc_last_letters (fun vs H Q E h => ?_) (fun cdv A outer s H vs Q E hr h => ?_)
    · obtain ⟨p, ps, m, rfl, _⟩ := h
      rfl
    · obtain ⟨p, ps, m, rfl, ⟨xs, hp, hxs, hvs⟩, hd, hn, hok, hl, hm, q⟩ := h
      refine ⟨_, (pssn_cons (psn_of (ps_set (i := 2) sc_last_letters.nd rfl (Or.inl rfl) pe_str)) (pssn_cons (psn_for PassesOwn.never rfl (pi_list (pe_revL (pv 0))) (pg_name (i := 3) sc_last_letters.nd rfl (Or.inl rfl)) (pssn_one (psn_set (i := 2) sc_last_letters.nd rfl (Or.inl rfl) (pen_op op_add_str (pen_call G_last_letters_of_part (hr.mono (by first | decide | omega)) rfl T.m_last_letters_of_part T.F_last_letters_of_part.kp T.b_last_letters_of_part .nil pass0 (pan_of (pa_cons (pv 3) (pa_cons (pe_op op_sub (pv 1) (pe_callB call_len_str (by rfl) T.z_len (by decide +kernel) (pa_cons (pv 2) pa_nil))) pa_nil)))) (pen_of (pv 2)))))) (pssn_of (pss_one (ps_ret (pv 2)))))), ?_⟩
      have hst : start ["parts", "most", "found", "part"] [.ref p, .int (m : Int)] = [some (.ref p), some (.int (m : Int)), none, none] := rfl
      rw [hst]
      walk_at "rd"
      have e0 : (Str.ofString "") = (⟨#[]⟩ : Str) := by decide +kernel
      refine forL fun R kR => ?_
      simp only [tRevL]
      walk_at "rd"
      refine ⟨xs, SqL.of hp, fun p2 hp2 => ?_⟩
      refine kR p2 xs.reverse (fun i σ H1 => Same H H1 ∧ H1 p2 = some (.lst xs.reverse) ∧ ∃ (rest : Parts) (done : List Nat) (x3 : Option V), σ = [some (.ref p), some (.int m), some (.str ⟨(lastN m (puts done)).toArray⟩), x3] ∧ PVs H (xs.take (xs.length - i)) rest ∧ ps.den = rest.den ++ done ∧ rest.dep < n + 1 ∧ rest.ok ∧ rest.vol ≤ 100000) _ (SqL.of upd_same) ?_ ?_ ?_ ?_
      · refine ⟨same_new hp2 _, upd_same, ps, [], none, ?_, by rw [Nat.sub_zero, List.take_length]; exact hvs, by rw [List.append_nil], hd, hok, hl⟩
        rw [e0, show lastN m (puts []) = [] from by unfold puts lastN; simp]
      · exact fun i σ H1 _ h => SqL.of h.2.1
      · rintro i x σ H1 hx ⟨s1, hp3, rest, done, x3, rfl, pvr, hden, hdr, hokr, hlr⟩
        have hi : i < xs.length := by have := (List.getElem?_eq_some_iff.mp hx).1; rw [List.length_reverse] at this; exact this
        have hx2 : xs[xs.length - 1 - i]? = some x := by rw [← List.getElem?_reverse hi]; exact hx
        have htk : xs.take (xs.length - i) = xs.take (xs.length - (i + 1)) ++ [x] := by
          rw [show xs.length - i = (xs.length - (i + 1)) + 1 from by omega, List.take_succ, show xs.length - (i + 1) = xs.length - 1 - i from by omega, hx2]; rfl
        rw [htk] at pvr
        obtain ⟨a, b, p1, p4, d1, d2, d3, d4, d5, d6⟩ := pvr.unsnoc
        have lz := lastN_len m (puts done)
        have ez : (⟨(lastN m (puts done)).toArray⟩ : Str).length = (lastN m (puts done)).length := by rw [← tl_len]
        have em : ((m : Int) - ((lastN m (puts done)).length : Int)) = ((m - (lastN m (puts done)).length : Nat) : Int) := by omega
        have lb := lastN_len (m - (lastN m (puts done)).length) (puts b.den)
        have eb : (⟨(lastN (m - (lastN m (puts done)).length) (puts b.den)).toArray⟩ : Str).length = (lastN (m - (lastN m (puts done)).length) (puts b.den)).length := by rw [← tl_len]
        have es : (⟨(lastN (m - (lastN m (puts done)).length) (puts b.den)).toArray⟩ : Str) ++ ⟨(lastN m (puts done)).toArray⟩ = ⟨(lastN m (puts (b.den ++ done))).toArray⟩ := tl_inj (by
          rw [tl_app, puts_app]; exact lastN_step m _ _)
        walk_at "rd"
        refine ⟨sz_of (by rw [ez]; omega), ?_⟩
        rw [ez, em]
        simp only [sp_llp]
        refine ⟨x, b, m - (lastN m (puts done)).length, rfl, p4.mono s1, by omega, by omega, (d6 hokr).2, by omega, by omega, fun H2 s2 => ?_⟩
        refine ⟨_, rfl, sz_of (by rw [eb]; omega), s1.trans s2, s2 _ _ hp3, a, b.den ++ done, ?_, ⟨_, rfl⟩, p1, by rw [hden, d1, List.append_assoc], by omega, (d6 hokr).1, by omega⟩
        exact es
      · rintro σ H1 ⟨s1, hp3, rest, done, x3, rfl, pvr, hden, hdr, hokr, hlr⟩
        walk_at "rd"
        rw [List.length_reverse, Nat.sub_self, List.take_zero] at pvr
        cases pvr
        rw [show ps.den = done from hden] at q
        exact q H1 s1
theorem ok_last_letters (T : Top K mg) : FnOkN 273 P w K mg base CX0 43 T.a_last_letters T.d_last_letters ["parts", "most"] (sp_ll 21) := rec_ll T 21
/-! ### last_puts -/
def isPutsN : V → Bool | .int i => decide (0 ≤ i) && decide (i ≤ 4000) | _ => false
def sp_last_puts (K : PySem.W.Frag) (CI : Addr) : Sp := fun vs H Q E => ∃ (t : Str) (ps : Parts) (y : V), vs = [.str t, y] ∧ t.length ≤ 100000 ∧ rpt (tl t) = some ps ∧ Kd K H y ∧ (isPutsN y = false → ∀ H1, Same H H1 → E (.ref CI) none H1) ∧
  (∀ m : Nat, y = .int (m : Int) → m ≤ 4000 → ∀ H1, Same H H1 → Q (.str ⟨(lastN m (puts ps.den)).toArray⟩) H1)
theorem ok_last_puts (T : Top K mg) : FnOkN 273 P w K mg base (L2.CX P w) 44 T.a_last_puts T.d_last_puts ["program", "count"] (sp_last_puts K T.x_InvalidInteger) := by
  have G_parts_of := ok_parts_of (w := w) (base := base) T
  have G_last_letters := ok_last_letters (w := w) (base := base) T
  have G_is_int_between := ok_is_int_between (w := w) (base := base) T
  refine funXN T.F_last_puts sc_last_puts (fun vs H Q E h => ?_) (fun cdv A outer s H vs Q E hr h => ?_)
  · obtain ⟨t, ps, y, rfl, _⟩ := h
    rfl
  · obtain ⟨t, ps, y, rfl, ht, hps, ky, qe, q⟩ := h
    refine ⟨_, (pssn_cons (psn_of (ps_set (i := 2) sc_last_puts.nd rfl (Or.inl rfl) (pe_callS G_parts_of (hr.mono (by first | decide | omega)) rfl T.m_parts_of T.F_parts_of.kp T.b_parts_of (fun σ => passAt (takes_of rfl rfl rfl rfl) σ) (pa_cons (pv 0) pa_nil)))) (pssn_cons (psn_of (ps_if (pt_not (pt_val (pe_call G_is_int_between (hr.mono (by first | decide | omega)) rfl T.m_is_int_between T.F_is_int_between.kp T.b_is_int_between .nil pass0 (pa_cons (pv 1) (pa_cons pe_int (pa_cons (pe_glob (v := .int 4000) (by rfl) T.c_MOST_STEPS ⟨_, rfl⟩) pa_nil)))))) (pss_one (ps_raise rfl (takes_of rfl rfl rfl rfl) (pmk_own PySem.F.excBase_ValueError T.q_InvalidInteger T.g_InvalidInteger T.k_InvalidInteger (raises_own T.b_InvalidInteger T.t_InvalidInteger) rfl))) pss_nil)) (pssn_one (psn_ret (pen_call G_last_letters (hr.mono (by first | decide | omega)) rfl T.m_last_letters T.F_last_letters.kp T.b_last_letters .nil pass0 (pan_of (pa_cons (pv 2) (pa_cons (pv 1) pa_nil)))))))), ?_⟩
    have hst : start ["program", "count", "parts"] [.str t, y] = [some (.str t), some y, none] := rfl
    rw [hst]
    walk_at "rd"
    simp only [tCallS, sp_parts_of]
    walk_at "rd"
    have hdk := rpt_deep hps
    have hvl := rpt_vol hps
    have htl := tl_len t
    refine ⟨.str _ ht, fun e => absurd (hps.symm.trans e) (by simp), fun ps' e p H1 s1 hn hp => ?_⟩
    cases hps.symm.trans e
    walk_at "rd"
    simp only [sp_is_int_between]
    refine ⟨y, 0, 4000, rfl, kd_mono s1 ky, _, rfl, ?_⟩
    change if (!isPutsN y) = true then _ else _
    cases hc : isPutsN y with
    | false => exact qe hc H1 s1
    | true =>
      obtain ⟨m, rfl, hm⟩ : ∃ m : Nat, y = .int (m : Int) ∧ m ≤ 4000 := by
        cases y with
        | int i =>
          simp only [isPutsN, Bool.and_eq_true, decide_eq_true_eq] at hc
          exact ⟨i.toNat, by rw [Int.toNat_of_nonneg hc.1], by omega⟩
        | _ => cases hc
      exact ⟨p, ps, m, rfl, hp, by omega, by decide, hdk.2, by omega, hm, fun H2 s2 => q m rfl hm H2 (s1.trans s2)⟩

theorem emod_lt {a b : Int} (h : 0 < b) : 0 ≤ a % b ∧ a % b < b := ⟨Int.emod_nonneg _ (by omega), Int.emod_lt_of_pos _ h⟩
theorem ok__law_draw (T : Top K mg) : FnOk P w K mg base CX0 1 T.a__law_draw T.d__law_draw ["_law_draws_here", "_law_upto"] sp_draw := by

  refine T.F__law_draw.ok sc__law_draw (fun vs H Q E h => ?_) (fun cdv A outer s H vs Q E hr h => ?_)
  · obtain ⟨p, d, u, rfl, _⟩ := h
    rfl
  · obtain ⟨p, ⟨a, b⟩, u, rfl, hp, ⟨ha, hb, hb2⟩, hu0, hu1, q⟩ := h
    refine ⟨_, (pss_cons (ps_if (pt_cmpR op_gt (pe_ix ix_list (pv 0) pe_int (fun _ _ => rfl)) pe_int (nomark _)) (pss_cons (ps_set (i := 2) sc__law_draw.nd rfl (Or.inl rfl) (pe_op op_mod (pe_ix ix_list (pv 0) pe_int (fun _ _ => rfl)) (pv 1)))
      (pss_cons (ps_asg (pe_op op_fdiv (pe_ix ix_list (pv 0) pe_int (fun _ _ => rfl)) (pv 1)) (pg_sub (pv 0) pe_int set_list))
      (pss_one (ps_ret (pv 2))))) pss_nil)
      (pss_cons (ps_asg (pe_op op_mod (pe_op op_add (pe_op op_mul (pe_ix ix_list (pv 0) pe_int (fun _ _ => rfl)) pe_int) pe_int) pe_int) (pg_sub (pv 0) pe_int set_list))
      (pss_one (ps_ret (pe_op op_mod (pe_op op_fdiv (pe_op op_mod (pe_op op_mul (pe_ix ix_list (pv 0) pe_int (fun _ _ => rfl)) (pe_ix ix_list (pv 0) pe_int (fun _ _ => rfl))) pe_int) pe_int) (pv 1)))))), ?_⟩
    have hst : start ["_law_draws_here", "_law_upto", "_law_digit"] [.ref p, .int u] = [some (.ref p), some (.int u), none] := rfl
    rw [hst]
    walk_at "rd"
    simp only at ha hb hb2
    have h0 : SqL K H p [.int a, .int b] := SqL.of hp
    refine ix_at h0 (by decide) rfl ?_
    walk_at "rd"
    refine ite2 (fun c => ?_) (fun c => ?_)
    · have c' : 0 < a := of_decide_eq_true c
      refine ix_at h0 (by decide) rfl ?_
      walk_at "rd"
      refine ⟨hu0, ix_at h0 (by decide) rfl ?_⟩
      walk_at "rd"
      refine ⟨⟨hu0, by omega⟩, set_at (xs := [.int a, .int b]) hp (by decide) (by simp) ?_⟩
      walk_at "rd"
      have e1 := emod_lt (a := a) hu0
      exact q (a % u) (a / u, b) _ e1.1 e1.2 ⟨Int.ediv_nonneg ha (by omega), hb, hb2⟩ upd_same (fun q o hq e => by rw [upd_ne hq]; exact e)
    · refine ix_at h0 (by decide) rfl ?_
      walk_at "rd"
      have e1 := emod_lt (a := b * 48271 + 11) (b := 2147483647) (by decide)
      generalize hy : (b * 48271 + 11) % 2147483647 = y at e1 ⊢
      have h2 : SqL K (upd H p (.lst [.int a, .int y])) p [.int a, .int y] := SqL.of upd_same
      refine ⟨.inr (by decide), by decide, set_at (xs := [.int a, .int b]) hp (by decide) (by simp) ?_⟩
      walk_at "rd"
      refine ix_at h2 (by decide) rfl (ix_at h2 (by decide) rfl ?_)
      walk_at "rd"
      refine ⟨.inl (by omega), by decide, ⟨by decide, by decide⟩, hu0, ?_⟩
      have e2 := emod_lt (a := y * y % 2147483629 / 64) hu0
      exact q _ (a, y) _ e2.1 e2.2 ⟨ha, e1.1, e1.2⟩ upd_same (fun q o hq e => by rw [upd_ne hq]; exact e)
theorem mem_map_int {ns : List Int} {i : Nat} (h : i < ns.length) : (ns.map V.int)[i]? = some (.int ns[i]) := by
  rw [List.getElem?_map, List.getElem?_eq_getElem h] <;> rfl
theorem ok__law_draws (T : Top K mg) : FnOk P w K mg base CX0 1 T.a__law_draws T.d__law_draws ["_law_script", "_law_k"] (sp_draws K) := by

  refine T.F__law_draws.ok sc__law_draws (fun vs H Q E h => ?_) (fun cdv A outer s H vs Q E hr h => ?_)
  · obtain ⟨a, ns, k, rfl, _⟩ := h
    rfl
  · obtain ⟨a, ns, k, rfl, hS, hl, hk0, hk1, q⟩ := h
    refine ⟨_, (pss_cons (ps_set (i := 2) sc__law_draws.nd rfl (Or.inl rfl) pe_int)
      (pss_cons (ps_if (pt_cmpR (op_neD hr.units) (pv 0) (pe_lst pa_nil) (nomark _)) (pss_one (ps_set (i := 2) sc__law_draws.nd rfl (Or.inl rfl) (pe_ix ix_list (pv 0) (pe_op op_mod (pv 1) (pe_callB call_len_seq (by rfl) T.z_len (by decide +kernel) (pa_cons (pv 0) pa_nil))) (fun _ _ => rfl)))) pss_nil)
      (pss_cons (ps_if (pt_cmpR op_ge (pv 1) (pe_callB call_len_seq (by rfl) T.z_len (by decide +kernel) (pa_cons (pv 0) pa_nil)) (nomark _)) (pss_one (ps_set (i := 2) sc__law_draws.nd rfl (Or.inl rfl) (pe_op op_mod (pv 2) pe_int))) pss_nil)
      (pss_cons (ps_set (i := 3) sc__law_draws.nd rfl (Or.inl rfl) (pe_op op_mod (pe_op op_mul (pe_op op_add (pe_op op_add (pe_op op_mod (pv 2) pe_int) (pe_op op_mul pe_int (pv 1))) pe_int) pe_int) pe_int))
      (pss_one (ps_ret (pe_lst (pa_cons (pe_op op_mul (pv 2) (pe_callTy call_int1 (by rfl) T.z_int (by decide +kernel) (pa_cons (pe_cmpR op_ge (pv 2) (pe_op op_pow pe_int pe_int) (nomark _)) pa_nil))) (pa_cons (pv 3) pa_nil))))))))), ?_⟩
    have hst : start ["_law_script", "_law_k", "_law_cell", "_law_seed"] [.ref a, .int k] = [some (.ref a), some (.int k), none, none] := rfl
    rw [hst]
    walk_at "rd"
    refine ⟨by show 0 ≤ sizeLine; decide, fun p0 hp0 => ?_⟩
    have s0 : Same H (upd H p0 (.lst [])) := same_new hp0 _
    have hn : SqL K (upd H p0 (.lst [])) p0 [] := SqL.of upd_same
    refine ne_lists (s0.seq hS) hn (ok_ints ns) rfl ?_
    rw [eqL_nil]
    -- the end, from any cell
    have fin : ∀ c : Int, CMul 104729 k ∧ CMul (c % 2147483629 + 104729 * k + 11) 48271 ∧ (0 : Int) < 2147483647 ∧ CPow 10 18 ∧ CMul c (if decide (10 ^ Int.toNat 18 ≤ c) = true then 1 else 0) ∧
        [V.int (c * if decide (10 ^ Int.toNat 18 ≤ c) = true then 1 else 0), V.int ((c % 2147483629 + 104729 * k + 11) * 48271 % 2147483647)].length ≤ sizeLine ∧
        ∀ p, upd H p0 (.lst []) p = none → Q (.ref p) (upd (upd H p0 (.lst [])) p (.lst [V.int (c * if decide (10 ^ Int.toNat 18 ≤ c) = true then 1 else 0), V.int ((c % 2147483629 + 104729 * k + 11) * 48271 % 2147483647)])) := fun c => by
      have e1 := emod_lt (a := c) (b := 2147483629) (by decide)
      have e2 := emod_lt (a := (c % 2147483629 + 104729 * k + 11) * 48271) (b := 2147483647) (by decide)
      refine ⟨.inl (by decide), .inr (by decide), by decide, ⟨by decide, by decide, by decide⟩, .inr (by split <;> decide), by show 2 ≤ sizeLine; decide, fun p hp => ?_⟩
      refine q p (c * if decide (10 ^ Int.toNat 18 ≤ c) = true then 1 else 0, (c % 2147483629 + 104729 * k + 11) * 48271 % 2147483647) _ (s0.trans (same_new hp _)) (s0.free hp) ⟨?_, e2.1, e2.2⟩ upd_same
      show 0 ≤ c * if decide (10 ^ Int.toNat 18 ≤ c) = true then 1 else 0
      split
      · rename_i h
        have h' := of_decide_eq_true h
        have : (0 : Int) ≤ 10 ^ Int.toNat 18 := by decide
        omega
      · omega
    cases hns : ns with
    | nil =>
      simp only [List.map_nil, List.isEmpty_nil]
      walk_at "rd"
      refine ⟨_, .inl (s0.seq hS), ?_⟩
      refine ite2 (fun c => ⟨by decide, by decide, ?_⟩) (fun c => ⟨by decide, ?_⟩)
      · exact fin _
      · exact fin _
    | cons n ms =>
      simp only [List.map_cons, List.isEmpty_cons]
      walk_at "rd"
      have hlen : 0 < ns.length := by rw [hns]; exact Nat.succ_pos _
      have e1 := emod_lt (a := k) (b := ns.length) (by omega)
      have hi : (k % (ns.length : Int)).toNat < ns.length := by omega
      refine ⟨_, .inl (s0.seq hS), ?_⟩
      rw [List.length_map]
      refine ⟨by omega, ix_at (s0.seq hS) e1.1 (mem_map_int hi) ?_⟩
      walk_at "rd"
      refine ⟨_, .inl (s0.seq hS), ?_⟩
      refine ite2 (fun c => ⟨by decide, by decide, ?_⟩) (fun c => ⟨by decide, ?_⟩)
      · exact fin _
      · exact fin _

def But (p : Addr) (H H' : Hp) : Prop := ∀ q o, q ≠ p → H q = some o → H' q = some o
theorem But.refl (p : Addr) (H : Hp) : But p H H := fun _ _ _ h => h
theorem But.trans {p : Addr} {H H1 H2 : Hp} (a : But p H H1) (b : But p H1 H2) : But p H H2 := fun q o hq h => b q o hq (a q o hq h)
theorem But.new {p q : Addr} {H H1 : Hp} (a : But p H H1) (h : H1 q = none) (o : HO) : But p H (upd H1 q o) := fun b u hb e => by
  have := a b u hb e
  rw [upd_ne (ne_of_none this h)]; exact this
theorem But.mut {p q : Addr} {H H1 : Hp} (a : But p H H1) (h : H q = none) (o : HO) : But p H (upd H1 q o) := fun b u hb e => by
  rw [upd_ne (ne_of_none e h)]; exact a b u hb e
theorem ok__law_letter (T : Top K mg) : FnOk P w K mg base CX0 2 T.a__law_letter T.d__law_letter ["_law_draws_here"] (fun vs H Q _ => ∃ (p : Addr) (d : Int × Int), vs = [.ref p] ∧ H p = some (dw d) ∧ okD d ∧
    ∀ (c : Nat) (d' : Int × Int) (H' : Hp), isLet c = true → okD d' → H' p = some (dw d') → But p H H' → Q (.str (sg c)) H') := by
  have G__law_draw := ok__law_draw (w := w) (base := base) T
  refine T.F__law_letter.ok sc__law_letter (fun vs H Q E h => ?_) (fun cdv A outer s H vs Q E hr h => ?_)
  · obtain ⟨p, d, rfl, _⟩ := h
    rfl
  · obtain ⟨p, d, rfl, hp, hd, q⟩ := h
    refine ⟨_, (pss_one (ps_ret (pe_ix ix_str pe_str (pe_call G__law_draw (hr.mono (by first | decide | omega)) rfl T.m__law_draw T.F__law_draw.kp T.b__law_draw .nil pass0 (pa_cons (pv 0) (pa_cons pe_int pa_nil))) (fun _ _ => rfl)))), ?_⟩
    have hst : start ["_law_draws_here"] [.ref p] = [some (.ref p)] := rfl
    rw [hst]
    walk_at "rd"
    simp only [sp_draw]
    refine ⟨p, d, 6, rfl, hp, hd, by decide, by decide, fun v d' H' h0 h1 hd' hp' k => ?_⟩
    have hc : v = 0 ∨ v = 1 ∨ v = 2 ∨ v = 3 ∨ v = 4 ∨ v = 5 := by omega
    rcases hc with rfl | rfl | rfl | rfl | rfl | rfl
    all_goals (refine ix_str_at (by decide) (by decide) (by first | rfl | decide) ?_; exact q _ d' H' (by decide) hd' hp' k)
def sp_seq : Sp := fun vs H Q _ => ∃ (p : Addr) (d : Int × Int) (m : Nat), vs = [.ref p, .int (m : Int)] ∧ H p = some (dw d) ∧ okD d ∧ m ≤ 1000 ∧
    ∀ (z : Str) (d' : Int × Int) (H' : Hp), (tl z).all isStep = true → z.length ≤ m → okD d' → H' p = some (dw d') → But p H H' → Q (.str z) H'
theorem ok__law_sequence (T : Top K mg) : FnOk P w K mg base CX0 3 T.a__law_sequence T.d__law_sequence ["_law_draws_here", "_law_most"] sp_seq := by
  have G__law_draw := ok__law_draw (w := w) (base := base) T
  have G__law_letter := ok__law_letter (w := w) (base := base) T
  refine T.F__law_sequence.ok sc__law_sequence (fun vs H Q E h => ?_) (fun cdv A outer s H vs Q E hr h => ?_)
  · obtain ⟨p, d, m, rfl, _⟩ := h
    rfl
  · obtain ⟨p, d, m, rfl, hp, hd, hm, q⟩ := h
    refine ⟨_, (pss_cons (ps_set (i := 2) sc__law_sequence.nd rfl (Or.inl rfl) (pe_lst pa_nil))
      (pss_cons (ps_set (i := 3) sc__law_sequence.nd rfl (Or.inl rfl) (pe_op op_add pe_int (pe_call G__law_draw (hr.mono (by first | decide | omega)) rfl T.m__law_draw T.F__law_draw.kp T.b__law_draw .nil pass0 (pa_cons (pv 0) (pa_cons pe_int pa_nil)))))
      (pss_cons (ps_for PassesOwn.never rfl (pi_range1 (by rfl) T.z_range (pa_cons (pe_call G__law_draw (hr.mono (by first | decide | omega)) rfl T.m__law_draw T.F__law_draw.kp T.b__law_draw .nil pass0 (pa_cons (pv 0) (pa_cons (pe_op op_add (pv 1) pe_int) pa_nil))) pa_nil)) (pg_name (i := 4) sc__law_sequence.nd rfl (Or.inl rfl)) (pss_one (ps_expr (pe_bm PySem.F.plainAttrs_list PySem.F.slot_list_append PySem.F.type_list_append mt_append (pv 2) (pa_cons (pe_ix ix_list (pe_lst (pa_cons (pe_call G__law_letter (hr.mono (by first | decide | omega)) rfl T.m__law_letter T.F__law_letter.kp T.b__law_letter .nil pass0 (pa_cons (pv 0) pa_nil)) (pa_cons pe_str pa_nil))) (pe_callTy call_int1 (by rfl) T.z_int (by decide +kernel) (pa_cons (pe_cmpR op_lt (pe_call G__law_draw (hr.mono (by first | decide | omega)) rfl T.m__law_draw T.F__law_draw.kp T.b__law_draw .nil pass0 (pa_cons (pv 0) (pa_cons pe_int pa_nil))) (pv 3) (nomark _)) pa_nil)) (fun _ _ => rfl)) pa_nil)))))
      (pss_one (ps_ret (pe_join pe_str (pv 2))))))), ?_⟩
    have hst : start ["_law_draws_here", "_law_most", "_law_some", "_law_way", "_law_turn"] [.ref p, .int m] = [some (.ref p), some (.int m), none, none, none] := rfl
    rw [hst]
    walk_at "rd"
    refine ⟨by walk_at "sz", fun l hl => ?_⟩
    simp only [sp_draw]
    have lp : l ≠ p := fun e => by rw [e, hp] at hl; cases hl
    have hp1 : upd H l (.lst []) p = some (dw d) := by rw [upd_ne (Ne.symm lp)]; exact hp
    refine ⟨p, d, 4, rfl, hp1, hd, by decide, by decide, fun way d1 H1 w0 w1 hd1 hp2 k1 => ?_⟩
    have hl1 : H1 l = some (.lst []) := k1 l _ lp upd_same
    have B1 : But p H H1 := fun q o hq e => k1 q o hq (by rw [upd_ne (ne_of_none e hl)]; exact e)
    clear hp1 k1
    refine ⟨_, rfl, ?_⟩
    refine forR fun R kR => ?_
    walk_at "rd"
    simp only [sp_draw]
    refine ⟨p, d1, (m : Int) + 1, rfl, hp2, hd1, by omega, by omega, fun n d2 H2 n0 n1 hd2 hp3 k2 => ?_⟩
    have hl2 : H2 l = some (.lst []) := k2 l _ lp hl1
    have B2 : But p H H2 := B1.trans k2
    refine kR n (fun i σ H' => ∃ (cs : List Nat) (dd : Int × Int) (x4 : Option V), σ = [some (.ref p), some (.int m), some (.ref l), some (.int (1 + way)), x4] ∧ cs.length = i ∧ cs.all isStep = true ∧ okD dd ∧ H' p = some (dw dd) ∧ H' l = some (.lst ((cs.map sg).map V.str)) ∧ But p H H')
      H2 (by omega) (by omega) ⟨[], d2, _, rfl, rfl, rfl, hd2, hp3, hl2, B2⟩ ?_ ?_
    · rintro i σ H' hi ⟨cs, dd, x4, rfl, hcl, hcs, hdd, hpp, hll, BB⟩
      walk_at "rd"
      refine ⟨.inl ⟨_, SqL.of hll⟩, dd, hpp, hdd, fun c d3 H3 hc hd3 hp3' k3 => ⟨by walk_at "sz", fun r hr => ?_⟩⟩
      have rp : r ≠ p := fun e => by rw [e, hp3'] at hr; cases hr
      have hl3 := k3 l _ lp hll
      have rl : r ≠ l := fun e => by rw [e, hl3] at hr; cases hr
      simp only [sp_draw]
      refine ⟨p, d3, 5, rfl, by rw [upd_ne (Ne.symm rp)]; exact hp3', hd3, by decide, by decide, fun v d4 H4 v0 v1 hd4 hp4 k4 => ⟨_, rfl, ?_⟩⟩
      have hr4 := k4 r _ rp upd_same
      have hl4 := k4 l _ lp (by rw [upd_ne (Ne.symm rl)]; exact hl3)
      have B4 : But p H H4 := ((BB.trans k3).new hr _).trans k4
      have hsz : ((cs.map sg).map V.str).length < sizeLine := by
        rw [List.length_map, List.length_map, hcl]
        exact Nat.lt_of_le_of_lt (by omega : i ≤ 100000) (by decide)
      have fin : ∀ x : Nat, isStep x = true → rAppend (V.ref l) [.str (sg x)] H4 fun x H1 =>
          (∃ x, some (V.int (0 + ↑i)) = x) ∧ ∃ x, x.length = i + 1 ∧ x.all isStep = true ∧ ∃ x_1, okD x_1 ∧ H1 p = some (dw x_1) ∧ H1 l = some (HO.lst (List.map V.str (List.map sg x))) ∧ But p H H1 := fun x hx => by
        refine ⟨l, _, _, rfl, rfl, hl4, hsz, ⟨_, rfl⟩, cs ++ [x], by rw [List.length_append, hcl]; rfl, by rw [List.all_append, hcs]; simp [hx], d4, hd4, by rw [upd_ne (Ne.symm lp)]; exact hp4, by rw [upd_same]; simp, B4.mut hl _⟩
      by_cases hv : v < 1 + way
      · rw [decide_eq_true hv]
        exact ix_at (SqL.of hr4) (by decide) rfl (fin 45 (by decide))
      · rw [decide_eq_false hv]
        exact ix_at (SqL.of hr4) (by decide) rfl (fin c (by unfold isStep; rw [hc]; rfl))
    · rintro σ H' ⟨cs, dd, x4, rfl, hcl, hcs, hdd, hpp, hll, BB⟩
      walk_at "rd"
      have hj : tl (Txt.join (Str.ofString "") (cs.map sg)) = cs := by
        show tl (Txt.join ("" : Str) (cs.map sg)) = _
        rw [tl_join0, flat_sg]
      refine ⟨⟨_, rfl⟩, cs.map sg, .inl (SqL.of hll), ?_, q _ dd H' (by rw [hj]; exact hcs) (by rw [← tl_len, hj]; omega) hdd hpp BB⟩
      rw [len_sg, show (Str.ofString "").length = 0 from rfl, Nat.mul_zero]
      exact Nat.le_trans (by omega : _ ≤ 100000) (by decide)
/-! ### _law_program -/
def Lt : Nat → Nat
  | 0 => 0
  | n + 1 => 3 * (6 + Lt n)
def Lf : Nat → Nat
  | 0 => 0
  | n + 1 => 3 * (3 + 4 * Lf n)
def sp_prog (n : Nat) : Sp := fun vs H Q _ => ∃ (p : Addr) (d : Int × Int) (m : Nat), vs = [.ref p, .int (m : Int)] ∧ H p = some (dw d) ∧ okD d ∧ m < n ∧ n ≤ 4 ∧
    ∀ (r : Addr) (zt zf : Str) (d' : Int × Int) (H' : Hp), Pr m (tl zt) (tl zf) → zt.length ≤ Lt (m + 1) → zf.length ≤ Lf (m + 1) → okD d' → H' p = some (dw d') → But p H H' → H r = none → H' r = some (.tup [.str zt, .str zf]) → Q (.ref r) H'
theorem rec_prog (T : Top K mg) : ∀ n : Nat, FnOk P w K mg base CX0 (n + 4) T.a__law_program T.d__law_program ["_law_draws_here", "_law_depth"] (sp_prog n)
  | 0 => by
    refine T.F__law_program.ok sc__law_program (fun vs H Q E h => ?_) (fun cdv A outer s H vs Q E hr h => ?_)
    · obtain ⟨p, d, m, rfl, _⟩ := h
      rfl
    · obtain ⟨p, d, m, rfl, _, _, h, _⟩ := h
      exact absurd h (Nat.not_lt_zero _)
  | n + 1 => by
    have G__law_program := rec_prog T n
    have G__law_draw := ok__law_draw (w := w) (base := base) T
    have G__law_sequence := ok__law_sequence (w := w) (base := base) T
    refine T.F__law_program.ok sc__law_program (fun vs H Q E h => ?_) (fun cdv A outer s H vs Q E hr h => ?_)
    · obtain ⟨p, d, m, rfl, _⟩ := h
      rfl
    · obtain ⟨p, d, m, rfl, hp, hd, hm, hn, q⟩ := h
      refine ⟨_, (pss_cons (ps_asg (pe_tup (pa_cons pe_str (pa_cons pe_str pa_nil))) (pg_tup (by rfl) (pgs_cons (pg_name (i := 2) sc__law_program.nd rfl (Or.inl rfl)) (pgs_cons (pg_name (i := 3) sc__law_program.nd rfl (Or.inl rfl)) pgs_nil))))
      (pss_cons (ps_for PassesOwn.never rfl (pi_range1 (by rfl) T.z_range (pa_cons (pe_op op_add pe_int (pe_call G__law_draw (hr.mono (by first | decide | omega)) rfl T.m__law_draw T.F__law_draw.kp T.b__law_draw .nil pass0 (pa_cons (pv 0) (pa_cons pe_int pa_nil)))) pa_nil)) (pg_name (i := 4) sc__law_program.nd rfl (Or.inl rfl)) (pss_cons (ps_set (i := 5) sc__law_program.nd rfl (Or.inl rfl) (pe_call G__law_sequence (hr.mono (by first | decide | omega)) rfl T.m__law_sequence T.F__law_sequence.kp T.b__law_sequence .nil pass0 (pa_cons (pv 0) (pa_cons pe_int pa_nil))))
      (pss_cons (ps_par (i := 2) (j := 3) (by rfl) sc__law_program.nd rfl rfl (by decide) rfl rfl (pa_cons (pe_op op_add_str (pv 2) (pv 5)) (pa_cons (pe_op op_add_str (pv 3) (pv 5)) pa_nil)) (by rfl))
      (pss_one (ps_if (PW.pt (pw_and (pt_cmpR op_gt (pv 1) pe_int (nomark _)) (pw_and1 (pt_cmpR op_eq (pe_call G__law_draw (hr.mono (by first | decide | omega)) rfl T.m__law_draw T.F__law_draw.kp T.b__law_draw .nil pass0 (pa_cons (pv 0) (pa_cons pe_int pa_nil))) pe_int (nomark _))))) (pss_cons (ps_asg (pe_call G__law_program (hr.mono (by first | decide | omega)) rfl T.m__law_program T.F__law_program.kp T.b__law_program .nil pass0 (pa_cons (pv 0) (pa_cons (pe_op op_sub (pv 1) pe_int) pa_nil))) (pg_tup (by rfl) (pgs_cons (pg_name (i := 6) sc__law_program.nd rfl (Or.inl rfl)) (pgs_cons (pg_name (i := 7) sc__law_program.nd rfl (Or.inl rfl)) pgs_nil))))
      (pss_cons (ps_set (i := 8) sc__law_program.nd rfl (Or.inl rfl) (pe_call G__law_draw (hr.mono (by first | decide | omega)) rfl T.m__law_draw T.F__law_draw.kp T.b__law_draw .nil pass0 (pa_cons (pv 0) (pa_cons pe_int pa_nil))))
      (pss_cons (ps_set (i := 2) sc__law_program.nd rfl (Or.inl rfl) (pe_op op_add_str (pe_op op_add_str (pe_op op_add_str (pe_op op_add_str (pv 2) pe_str) (pv 6)) pe_str) (pe_callTy call_str_int (by rfl) T.z_str (by decide +kernel) (pa_cons (pv 8) pa_nil))))
      (pss_one (ps_set (i := 3) sc__law_program.nd rfl (Or.inl rfl) (pe_op op_add_str (pv 3) (pe_op op_rep_str (pv 7) (pv 8)))))))) pss_nil)))))
      (pss_one (ps_ret (pe_tup (pa_cons (pv 2) (pa_cons (pv 3) pa_nil))))))), ?_⟩
      have hst : start ["_law_draws_here", "_law_depth", "_law_text", "_law_full", "_law_turn", "_law_stretch", "_law_inner", "_law_spelled", "_law_count"] [.ref p, .int m] = [some (.ref p), some (.int m), none, none, none, none, none, none, none] := rfl
      rw [hst]
      walk_at "rd"
      refine ⟨by walk_at "sz", fun t0 ht0 => ⟨[.str "", .str ""], SqT.of upd_same, rfl, ?_⟩⟩
      simp only [gCons, gNil]
      walk_at "rd"
      have hp0 : upd H t0 (.tup [.str "", .str ""]) p = some (dw d) := by rw [upd_ne (ne_of_none hp ht0)]; exact hp
      have B0 : But p H (upd H t0 (.tup [.str "", .str ""])) := (But.refl p H).new ht0 _
      generalize upd H t0 (.tup [.str "", .str ""]) = H0 at hp0 B0 ⊢
      refine forR fun R kR => ?_
      walk_at "rd"
      simp only [sp_draw]
      refine ⟨p, d, 3, rfl, hp0, hd, by decide, by decide, fun nn d1 H1 n0 n1 hd1 hp1 k1 => ?_⟩
      have hb : Lt m ≤ 234 ∧ Lf m ≤ 1413 := by
        have hm4 : m < 4 := by omega
        rcases (by omega : m = 0 ∨ m = 1 ∨ m = 2 ∨ m = 3) with rfl | rfl | rfl | rfl <;> decide
      obtain ⟨hb1, hb2⟩ := hb
      refine ⟨nn, rfl, ?_⟩
      refine kR (1 + nn) (fun i σ H' => ∃ (zt zf : Str) (dd : Int × Int) (x4 x5 x6 x7 x8 : Option V), σ = [some (.ref p), some (.int m), some (.str zt), some (.str zf), x4, x5, x6, x7, x8] ∧ Pr m (tl zt) (tl zf) ∧
        zt.length ≤ i * (6 + Lt m) ∧ zf.length ≤ i * (3 + 4 * Lf m) ∧ okD dd ∧ H' p = some (dw dd) ∧ But p H H')
        H1 (by omega) (by omega) ⟨"", "", d1, _, _, _, _, _, rfl, .nil m, by rw [show (Str.ofString "").length = 0 from rfl]; exact Nat.zero_le _, by rw [show (Str.ofString "").length = 0 from rfl]; exact Nat.zero_le _, hd1, hp1, B0.trans k1⟩ ?_ ?_
      · rintro i σ H' hi ⟨zt, zf, dd, x4, x5, x6, x7, x8, rfl, hPr, hlt, hlf, hdd, hpp, BB⟩
        have hi3 : i ≤ 2 := by omega
        have hi1 : i * (6 + Lt m) ≤ 2 * (6 + Lt m) := Nat.mul_le_mul_right _ hi3
        have hi2 : i * (3 + 4 * Lf m) ≤ 2 * (3 + 4 * Lf m) := Nat.mul_le_mul_right _ hi3
        rw [Nat.succ_mul, Nat.succ_mul]
        walk_at "rd"
        simp only [sp_seq]
        refine ⟨p, dd, 3, rfl, hpp, hdd, by decide, fun z d2 H2 hz hz3 hd2 hp2 k2 => ?_⟩
        walk_at "rd"
        have la : ∀ x y : Str, (x ++ y).length = x.length + y.length := fun x y => by rw [← tl_len, ← tl_len, ← tl_len, tl_app, List.length_append]
        have hPr2 : Pr m (tl (zt ++ z)) (tl (zf ++ z)) := by rw [tl_app, tl_app]; exact hPr.app (.steps hz)
        have hl1 := la zt z
        have hl2 := la zf z
        have big : ∀ k : Nat, k ≤ 100000 → k ≤ sizeLine := fun k h => sz_of h
        refine ⟨big _ (by omega), big _ (by omega), ?_⟩
        have B2 := BB.trans k2
        have done : ∀ (dd' : Int × Int) (H3 : Hp), okD dd' → H3 p = some (dw dd') → But p H H3 → (∃ x, some (V.int (0 + ↑i)) = x) ∧ (∃ x, some (V.str z) = x) ∧ (∃ x, x6 = x) ∧ (∃ x, x7 = x) ∧ (∃ x, x8 = x) ∧
            Pr m (tl (zt ++ z)) (tl (zf ++ z)) ∧ (zt ++ z).length ≤ i * (6 + Lt m) + (6 + Lt m) ∧ (zf ++ z).length ≤ i * (3 + 4 * Lf m) + (3 + 4 * Lf m) ∧ ∃ x, okD x ∧ H3 p = some (dw x) ∧ But p H H3 :=
          fun dd' H3 a1 a2 a3 => ⟨⟨_, rfl⟩, ⟨_, rfl⟩, ⟨_, rfl⟩, ⟨_, rfl⟩, ⟨_, rfl⟩, hPr2, by omega, by omega, dd', a1, a2, a3⟩
        by_cases hm0 : (0 : Int) < (m : Int)
        · rw [decide_eq_true hm0, if_pos rfl]
          simp only [sp_draw]
          refine ⟨p, d2, 2, rfl, hp2, hd2, by decide, by decide, fun v d3 H3 v0 v1 hd3 hp3 k3 => ⟨trivial, ?_⟩⟩
          by_cases hv : v = 0
          · subst hv
            rw [decide_eq_true rfl, if_pos rfl]
            obtain ⟨m', rfl⟩ : ∃ m', m = m' + 1 := ⟨m - 1, by omega⟩
            simp only [sp_prog]
            refine ⟨p, d3, m', by simp, hp3, hd3, by omega, by omega, fun r zt2 zf2 d4 H4 hPr3 hlt3 hlf3 hd4 hp4 k4 hr3 hr4 => ⟨r, rfl, [.str zt2, .str zf2], SqT.of hr4, rfl, ?_⟩⟩
            simp only [gCons, gNil]
            walk_at "rd"
            simp only [sp_draw]
            refine ⟨p, d4, 5, rfl, hp4, hd4, by decide, by decide, fun c d5 H5 c0 c1 hd5 hp5 k5 => ?_⟩
            walk_at "rd"
            obtain ⟨k, rfl⟩ : ∃ k : Nat, c = k := ⟨c.toNat, by omega⟩
            have hk5 : k < 5 := by omega
            have hdg : tl (Str.ofString (toString (k : Int))) = digs k := PySem.W.KIN.signs_num k
            have hdl : (Str.ofString (toString (k : Int))).length ≤ 1 := by
              rw [← tl_len, hdg]; exact digs_lt (by decide) (by omega)
            have hop : (Str.ofString "(").length = 1 := by decide +kernel
            have hcl : (Str.ofString ")").length = 1 := by decide +kernel
            have hto : tl (Str.ofString "(") = [40] := by decide +kernel
            have htc : tl (Str.ofString ")") = [41] := by decide +kernel
            have B5 := (B2.trans k3).trans (k4.trans k5)
            have hrep : (srep zf2 k).length = k * zf2.length := by rw [← tl_len, tl_srep, len_flat_rep, tl_len]
            have hrl : k * zf2.length ≤ 4 * zf2.length := Nat.mul_le_mul_right _ (by omega)
            have e1 : tl (zt ++ z ++ Str.ofString "(" ++ zt2 ++ Str.ofString ")" ++ Str.ofString (toString (k : Int))) = tl (zt ++ z) ++ 40 :: (tl zt2 ++ 41 :: digs k) := by
              rw [tl_app, tl_app, tl_app, tl_app, hdg, hto, htc]; simp
            have e2 : tl (zf ++ z ++ srep zf2 k) = tl (zf ++ z) ++ (List.replicate k (tl zf2)).flatten := by rw [tl_app, tl_srep]
            have ez : (k : Int).toNat = k := Int.toNat_natCast k
            refine ⟨big _ (by omega), big _ (by rw [la]; omega), big _ (by rw [la, la]; omega), ?_, big _ (by rw [la, la, la]; omega), zf2, k, rfl, rfl, by omega, by omega, by rw [ez, Nat.mul_comm]; omega, ?_⟩
            · rw [Int.natAbs_natCast]
              by_cases hk0 : k = 0
              · rw [hk0]; decide
              · exact (Nat.log2_lt hk0).mpr (Nat.lt_of_lt_of_le hk5 (Nat.le_trans (by decide : 5 ≤ 2 ^ 3) (Nat.pow_le_pow_right (by decide) (by decide))))
            · rw [ez]
              refine ⟨_, rfl, big _ (by rw [hrep]; omega), ⟨_, rfl⟩, ⟨_, rfl⟩, ⟨_, rfl⟩, ⟨_, rfl⟩, ⟨_, rfl⟩, ?_, ?_, ?_, d5, hd5, hp5, B5⟩
              · rw [e1, e2]
                exact hPr2.app (Pr.one hPr3 (by omega))
              · rw [la, la, la, la]; omega
              · rw [la, hrep]; omega
          · rw [decide_eq_false (fun e => hv (by injection e)), if_neg (by decide)]
            exact done d3 H3 hd3 hp3 (B2.trans k3)
        · rw [decide_eq_false hm0, if_neg (by decide)]
          exact done d2 H2 hd2 hp2 B2
      · rintro σ H' ⟨zt, zf, dd, x4, x5, x6, x7, x8, rfl, hPr, hlt, hlf, hdd, hpp, BB⟩
        have hi3 : (1 + nn).toNat ≤ 3 := by omega
        have hi1 : (1 + nn).toNat * (6 + Lt m) ≤ 3 * (6 + Lt m) := Nat.mul_le_mul_right _ hi3
        have hi2 : (1 + nn).toNat * (3 + 4 * Lf m) ≤ 3 * (3 + 4 * Lf m) := Nat.mul_le_mul_right _ hi3
        walk_at "rd"
        refine ⟨by walk_at "sz", fun r hr => q r zt zf dd _ hPr (by rw [Lt]; omega) (by rw [Lf]; omega) hdd ?_ (BB.new hr _) ?_ upd_same⟩
        · rw [upd_ne (ne_of_none hpp hr)]; exact hpp
        · cases e : H r with
          | none => rfl
          | some u =>
            have := BB r u (ne_of_none hpp hr |>.symm) e
            rw [hr] at this; cases this
theorem ok__law_program (T : Top K mg) : FnOk P w K mg base CX0 8 T.a__law_program T.d__law_program ["_law_draws_here", "_law_depth"] (sp_prog 4) := rec_prog T 4

/-! ### the law's own words -/
def sp_rejl (K : PySem.W.Frag) : Sp := fun vs H Q _ => ∃ y : V, vs = [y] ∧ Kd K H y ∧ isPutsN y = false ∧ ∀ H1, Same H H1 → Q (.bl true) H1
def sp_last_bad (K : PySem.W.Frag) (CI : Addr) : Sp := fun vs H Q E => ∃ (t : Str) (ps : Parts) (y : V), vs = [.str t, y] ∧ t.length ≤ 100000 ∧ rpt (tl t) = some ps ∧ Kd K H y ∧ isPutsN y = false ∧ ∀ H1, Same H H1 → E (.ref CI) none H1
theorem ok_last_puts_bad (T : Top K mg) : FnOk P w K mg base (L2.CX P w) 44 T.a_last_puts T.d_last_puts ["program", "count"] (sp_last_bad K T.x_InvalidInteger) := by
  have G_parts_of := ok_parts_of (w := w) (base := base) T
  have G_last_letters := ok_last_letters (w := w) (base := base) T
  have G_is_int_between := ok_is_int_between (w := w) (base := base) T
  refine T.F_last_puts.okX sc_last_puts (fun vs H Q E h => ?_) (fun cdv A outer s H vs Q E hr h => ?_)
  · obtain ⟨t, ps, y, rfl, _⟩ := h
    rfl
  · obtain ⟨t, ps, y, rfl, ht, hps, ky, hy, qe⟩ := h
    refine ⟨_, (pss_cons (ps_set (i := 2) sc_last_puts.nd rfl (Or.inl rfl) (pe_callS G_parts_of (hr.mono (by first | decide | omega)) rfl T.m_parts_of T.F_parts_of.kp T.b_parts_of (fun σ => passAt (takes_of rfl rfl rfl rfl) σ) (pa_cons (pv 0) pa_nil)))
      (pss_cons (ps_if (pt_not (pt_val (pe_call G_is_int_between (hr.mono (by first | decide | omega)) rfl T.m_is_int_between T.F_is_int_between.kp T.b_is_int_between .nil pass0 (pa_cons (pv 1) (pa_cons pe_int (pa_cons (pe_glob (v := .int 4000) (by rfl) T.c_MOST_STEPS ⟨_, rfl⟩) pa_nil)))))) (pss_one (ps_raise rfl (takes_of rfl rfl rfl rfl) (pmk_own PySem.F.excBase_ValueError T.q_InvalidInteger T.g_InvalidInteger T.k_InvalidInteger (raises_own T.b_InvalidInteger T.t_InvalidInteger) rfl))) pss_nil)
      (pss_one ps_never))), ?_⟩
    have hst : start ["program", "count", "parts"] [.str t, y] = [some (.str t), some y, none] := rfl
    rw [hst]
    walk_at "rd"
    simp only [tCallS, sp_parts_of]
    walk_at "rd"
    refine ⟨.str _ ht, fun e => absurd (hps.symm.trans e) (by simp), fun ps' e p H1 s1 hn hp => ?_⟩
    cases hps.symm.trans e
    walk_at "rd"
    simp only [sp_is_int_between]
    refine ⟨y, 0, 4000, rfl, kd_mono s1 ky, _, rfl, ?_⟩
    change if (!isPutsN y) = true then _ else _
    rw [hy]
    exact qe H1 s1
theorem ok__law_rejected (T : Top K mg) : FnOk P w K mg base CX0 45 T.a__law_rejected T.d__law_rejected ["_law_value"] (sp_rejl K) := by
  have G_last_puts := ok_last_puts_bad (w := w) (base := base) T
  refine T.F__law_rejected.ok sc__law_rejected (fun vs H Q E h => ?_) (fun cdv A outer s H vs Q E hr h => ?_)
  · obtain ⟨y, rfl, _⟩ := h
    rfl
  · obtain ⟨y, rfl, ky, hy, q⟩ := h
    refine ⟨_, (pss_cons (ps_try_mix (tb := fun W => tDrop (tCall (sp_last_bad K T.x_InvalidInteger) [] (WA W) (tCons (tC (.str "ab")) (tCons (tVar 0) tNil)))) (l := [⟨.ref T.x_InvalidInteger, none, fun _ _ _ => tRet (tC (.bl true))⟩]) rfl rfl sc__law_rejected.nd (by simp) (fun W pn xe tk _ => by exact (pss_one (ps_expr (pe_call G_last_puts (hr.mono (by first | decide | omega)) rfl T.m_last_puts T.F_last_puts.kp T.b_last_puts .nil (passAll tk) (pa_cons pe_str (pa_cons (pv 0) pa_nil)))))) (.plain ⟨rfl, by decide, .inl T.g_InvalidInteger⟩ (fun a oe cls d pn _ _ => pss_one (ps_ret pe_bl)) .nil))
      (pss_one (ps_ret pe_bl))), ?_⟩
    have hst : start ["_law_value"] [y] = [some y] := rfl
    rw [hst]
    walk_at "rd"
    obtain ⟨ps, e1, _⟩ := rpt_of (Pr.steps (d := 0) (s := tl (Str.ofString "ab")) (by decide +kernel)) (by decide)
    simp only [tCallS, WA, sp_last_bad]
    walk_at "rd"
    refine ⟨by decide +kernel, ⟨_, e1⟩, ky, hy, fun H1 s1 σ => ?_⟩
    simp only [wMix]
    refine ⟨true, T.e_InvalidInteger, fun _ a ha => ?_, fun h => by cases h⟩
    exact q H1 s1
theorem ok__law_end (T : Top K mg) : FnOk P w K mg base CX0 1 T.a__law_end T.d__law_end ["_law_letters", "_law_count"] (fun vs H Q _ => ∃ (x : Str) (n : Int), vs = [.str x, .int n] ∧ x.length ≤ 100000 ∧ Q (.str (endS x n)) H) := by

  refine T.F__law_end.ok sc__law_end (fun vs H Q E h => ?_) (fun cdv A outer s H vs Q E hr h => ?_)
  · obtain ⟨x, n, rfl, _⟩ := h
    rfl
  · obtain ⟨x, n, rfl, hx, q⟩ := h
    refine ⟨_, (pss_one (ps_ret (pe_slice sl_str (pv 0) (po_some (pe_callB (call_max2 rfl) (by rfl) T.z_max (by decide +kernel) (pa_cons pe_int (pa_cons (pe_op op_sub (pe_callB call_len_str (by rfl) T.z_len (by decide +kernel) (pa_cons (pv 0) pa_nil)) (pv 1)) pa_nil)))) po_none))), ?_⟩
    have hst : start ["_law_letters", "_law_count"] [.str x, .int n] = [some (.str x), some (.int n)] := rfl
    rw [hst]
    walk_at "rd"
    have e : (if (x.length : Int) - n > 0 then (x.length : Int) - n else 0) = max 0 ((x.length : Int) - n) := by split <;> omega
    rw [e]
    exact ⟨sz_of hx, x, rfl, sz_of hx, q⟩
def spLaw (K : PySem.W.Frag) : Sp := fun vs H Q _ => ∃ (a : Addr) (ns : List Int), vs = [.ref a] ∧ SqL K H a (ns.map V.int) ∧ ns.length ≤ 63 ∧ ∀ H', Q (.bl true) H'
theorem lastN_one {m n x : Nat} (h : m ≤ n) (hx : x ≠ 45) : lastN m (puts (List.replicate n [x]).flatten) = (List.replicate m [x]).flatten := by
  rw [puts_rep, show puts [x] = [x] from by unfold puts; simp [hx], ← lastN_rep h (.inr (by rw [List.length_singleton, Nat.mul_one]; exact Nat.le_refl _))]
  exact lastN_all (by rw [flat_rep_len]; simp)
theorem puts_one {c : Nat} (h : c ≠ 45) : puts [c] = [c] := by unfold puts; simp [h]
theorem puts_dash : puts [45] = [] := by unfold puts; simp
theorem five_a {A X : List Nat} {N C r : Nat} (hr : r ≤ N) (hC : C ≤ r * (puts X).length) : lastN C (puts (A ++ ((List.replicate N X).flatten ++ [45]))) = lastN C (List.replicate r (puts X)).flatten := by
  rw [puts_app, puts_app, puts_rep, puts_dash, List.append_nil, lastN_pre, ← lastN_rep hr (.inr hC)]
  rw [flat_rep_len]
  exact Nat.le_trans hC (Nat.mul_le_mul_right _ hr)
theorem rep_nils (N : Nat) : (List.replicate N ([] : List Nat)).flatten = [] := by simp
theorem five_a0 {A X : List Nat} {N C : Nat} (h : puts X = []) : lastN C (puts (A ++ ((List.replicate N X).flatten ++ [45]))) = lastN C (puts A) := by
  rw [puts_app, puts_app, puts_rep, puts_dash, h, rep_nils, List.append_nil, List.append_nil]
theorem five_b {X : List Nat} {N C c : Nat} (hc : c ≠ 45) (h : puts X = []) (hN : 200 ≤ N) (hC : C ≤ 200) : lastN C (puts (List.replicate (N + 1) ((List.replicate N X).flatten ++ [c, 45])).flatten) = lastN C (List.replicate 200 [c]).flatten := by
  rw [puts_rep, puts_app, puts_rep, h, rep_nils, List.nil_append, show puts [c, 45] = [c] from by unfold puts; simp [hc]]
  exact (lastN_rep (by omega) (.inr (by rw [List.length_singleton]; omega))).symm
theorem five_b1 {X : List Nat} {N C c r : Nat} (hc : c ≠ 45) (hr : r ≤ N) (hC : C ≤ r * (puts X).length) : lastN C (puts (List.replicate (N + 1) ((List.replicate N X).flatten ++ [c, 45])).flatten) = lastN C ((List.replicate r (puts X)).flatten ++ [c]) := by
  have h1 : r * (puts X).length ≤ N * (puts X).length := Nat.mul_le_mul_right _ hr
  rw [puts_rep, puts_app, puts_rep, show puts [c, 45] = [c] from by unfold puts; simp [hc]]
  rw [← lastN_rep (r := 1) (n := N + 1) (by omega) (.inr (by rw [List.length_append, flat_rep_len, List.length_singleton]; omega)), List.replicate_one, List.flatten_singleton, lastN_app, lastN_app]
  congr 1
  exact (lastN_rep hr (.inr (by rw [List.length_singleton]; omega))).symm
theorem r_len {L : Nat} (h : 0 < L) : 200 ≤ (200 / max 1 L + 1) * L := by
  rw [Nat.max_eq_right (by omega), Nat.mul_comm]
  exact Nat.le_of_lt (Nat.lt_mul_div_succ 200 h)
theorem r_int (L : Nat) : (200 / (if (L : Int) > 1 then (L : Int) else 1)) + 1 = ((200 / max 1 L + 1 : Nat) : Int) := by
  have e : (if (L : Int) > 1 then (L : Int) else 1) = ((max 1 L : Nat) : Int) := by split <;> omega
  rw [e, Int.natCast_add, Int.natCast_ediv]; rfl
theorem cdiv_pos {L : Nat} (h0 : 0 < L) (h : L ≤ 1000) : CDiv 200 (L : Int) := by
  first | (constructor <;> omega) | (unfold CDiv; refine ⟨?_, ?_⟩ <;> omega) | (unfold CDiv; omega)
theorem cdiv_max {L : Nat} (h : L ≤ 1000) : CDiv 200 (if (L : Int) > 1 then (L : Int) else 1) := by
  first | (constructor <;> (split <;> omega)) | (unfold CDiv; refine ⟨?_, ?_⟩ <;> (split <;> omega)) | (unfold CDiv; split <;> omega)
theorem lp_of {K : PySem.W.Frag} {CI : Addr} {H : Hp} {Q : VK} {E : XK} {d m : Nat} {z : Str} {f : List Nat} (h : Pr d (tl z) f) (hd : d ≤ 20) (hz : z.length ≤ 100000) (hm : m ≤ 4000) (q : ∀ H1, Same H H1 → Q (.str ⟨(lastN m (puts f)).toArray⟩) H1) : sp_last_puts K CI [.str z, .int (m : Int)] H Q E := by
  obtain ⟨ps, e1, e2, e3, e4, e5⟩ := rpt_of h hd
  refine ⟨z, ps, _, rfl, hz, e1, .int _, fun hy => ?_, fun m' e hm' H1 s1 => ?_⟩
  · simp only [isPutsN, Bool.and_eq_false_iff, decide_eq_false_iff_not] at hy
    omega
  · have : m' = m := by injection e with e; omega
    subst this
    rw [e2]
    exact q H1 s1
theorem ok_law (T : Top K mg) : FnOkN 273 P w K mg base CX0 46 T.a_law T.d_law ["_law_script"] (spLaw K) := by
  have G__law_draws := ok__law_draws (w := w) (base := base) T
  have G__law_program := ok__law_program (w := w) (base := base) T
  have G__law_rejected := ok__law_rejected (w := w) (base := base) T
  have G_last_puts := ok_last_puts (w := w) (base := base) T
  have G__law_draw := ok__law_draw (w := w) (base := base) T
  have G__law_end := ok__law_end (w := w) (base := base) T
  refine funN T.F_law sc_law (fun vs H Q E h => ?_) (fun cdv A outer s H vs Q E hr h => ?_)
  · obtain ⟨a, ns, rfl, _⟩ := h
    rfl
  · obtain ⟨a, ns, rfl, hS, hl, q⟩ := h
    refine ⟨_, (pssn_cons (psn_of (ps_if (pt_cmpR (op_neD hr.units) (pe_lc (own := [("_law_value", 15)]) (g := (gName 15)) (tt := tYes) (by rfl) sc_law.nd (pi_list (pe_lst (pa_cons (pe_un un_neg pe_int) (pa_cons pe_int (pa_cons pe_non (pa_cons pe_bl (pa_cons pe_str (pa_cons (pe_tup (pa_cons pe_int pa_nil)) pa_nil)))))))) (blkOk_by (own := [("_law_value", 15)]) (N := ["_law_script", "_law_k", "_law_draws_here", "_law_program_here", "_law_full", "_law_letters", "_law_count", "_law_large", "_law_inner", "_law_spelled", "_law_whole", "_law_put", "_law_near", "_law_tail", "_law_nest", "_law_value"]) (sc := defScope s_law) (by decide +kernel)) (fun _ _ _ _ _ => pg_name (i := 15) sc_law.nd rfl (Or.inl rfl)) (fun _ _ _ _ _ => pts_nil) (fun _ _ _ _ _ => (pe_call G__law_rejected (hr.mono (by first | decide | omega)) rfl T.m__law_rejected T.F__law_rejected.kp T.b__law_rejected .nil pass0 (pa_cons (pv 15) pa_nil)))) (pe_op op_rep (pe_lst (pa_cons pe_bl pa_nil)) pe_int) (nomark _)) (pss_one (ps_ret pe_bl)) pss_nil)) (pssn_cons (psn_if (ptn_w (pwn_or (ptn_cmpR op_ne (pen_call G_last_puts (hr.mono (by first | decide | omega)) rfl T.m_last_puts T.F_last_puts.kp T.b_last_puts .nil passN (pan_of (pa_cons pe_str (pa_cons pe_int pa_nil)))) (pen_of (pe_op op_rep_str pe_str pe_int)) (nomark _)) (pwn_or1 (ptn_cmpR op_ne (pen_call G_last_puts (hr.mono (by first | decide | omega)) rfl T.m_last_puts T.F_last_puts.kp T.b_last_puts .nil passN (pan_of (pa_cons pe_str (pa_cons pe_int pa_nil)))) (pen_of pe_str) (nomark _))))) (pssn_of (pss_one (ps_ret pe_bl))) (pssn_of pss_nil)) (pssn_cons (psn_for PassesOwn.never rfl (pi_range1 (by rfl) T.z_range (pa_cons (pe_callB (call_max2 rfl) (by rfl) T.z_max (by decide +kernel) (pa_cons pe_int (pa_cons (pe_callB (call_min2 rfl) (by rfl) T.z_min (by decide +kernel) (pa_cons pe_int (pa_cons (pe_callB call_len_seq (by rfl) T.z_len (by decide +kernel) (pa_cons (pv 0) pa_nil)) pa_nil))) pa_nil))) pa_nil)) (pg_name (i := 1) sc_law.nd rfl (Or.inl rfl)) (pssn_cons (psn_of (ps_set (i := 2) sc_law.nd rfl (Or.inl rfl) (pe_call G__law_draws (hr.mono (by first | decide | omega)) rfl T.m__law_draws T.F__law_draws.kp T.b__law_draws .nil pass0 (pa_cons (pv 0) (pa_cons (pv 1) pa_nil))))) (pssn_cons (psn_of (ps_asg (pe_call G__law_program (hr.mono (by first | decide | omega)) rfl T.m__law_program T.F__law_program.kp T.b__law_program .nil pass0 (pa_cons (pv 2) (pa_cons pe_int pa_nil))) (pg_tup (by rfl) (pgs_cons (pg_name (i := 3) sc_law.nd rfl (Or.inl rfl)) (pgs_cons (pg_name (i := 4) sc_law.nd rfl (Or.inl rfl)) pgs_nil))))) (pssn_cons (psn_set (i := 5) sc_law.nd rfl (Or.inl rfl) (pen_replC (by decide) (pv 4))) (pssn_cons (psn_for PassesOwn.never rfl (pi_list (pe_lst (pa_cons pe_int (pa_cons pe_int (pa_cons pe_int (pa_cons (pe_call G__law_draw (hr.mono (by first | decide | omega)) rfl T.m__law_draw T.F__law_draw.kp T.b__law_draw .nil pass0 (pa_cons (pv 2) (pa_cons pe_int pa_nil))) (pa_cons (pe_call G__law_draw (hr.mono (by first | decide | omega)) rfl T.m__law_draw T.F__law_draw.kp T.b__law_draw .nil pass0 (pa_cons (pv 2) (pa_cons pe_int pa_nil))) (pa_cons (pe_callB call_len_str (by rfl) T.z_len (by decide +kernel) (pa_cons (pv 5) pa_nil)) (pa_cons (pe_op op_add (pe_callB call_len_str (by rfl) T.z_len (by decide +kernel) (pa_cons (pv 5) pa_nil)) pe_int) pa_nil))))))))) (pg_name (i := 6) sc_law.nd rfl (Or.inl rfl)) (pssn_one (psn_if (ptn_cmpR op_ne (pen_call G_last_puts (hr.mono (by first | decide | omega)) rfl T.m_last_puts T.F_last_puts.kp T.b_last_puts .nil passN (pan_of (pa_cons (pv 3) (pa_cons (pe_callB (call_min2 rfl) (by rfl) T.z_min (by decide +kernel) (pa_cons pe_int (pa_cons (pv 6) pa_nil))) pa_nil)))) (pen_of (pe_call G__law_end (hr.mono (by first | decide | omega)) rfl T.m__law_end T.F__law_end.kp T.b__law_end .nil pass0 (pa_cons (pv 5) (pa_cons (pe_callB (call_min2 rfl) (by rfl) T.z_min (by decide +kernel) (pa_cons pe_int (pa_cons (pv 6) pa_nil))) pa_nil)))) (nomark _)) (pssn_of (pss_one (ps_ret pe_bl))) (pssn_of pss_nil)))) (pssn_cons (psn_of (ps_set (i := 7) sc_law.nd rfl (Or.inl rfl) (pe_op op_add (pe_op op_pow pe_int pe_int) (pe_call G__law_draw (hr.mono (by first | decide | omega)) rfl T.m__law_draw T.F__law_draw.kp T.b__law_draw .nil pass0 (pa_cons (pv 2) (pa_cons (pe_op op_pow pe_int pe_int) pa_nil)))))) (pssn_cons (psn_of (ps_asg (pe_call G__law_program (hr.mono (by first | decide | omega)) rfl T.m__law_program T.F__law_program.kp T.b__law_program .nil pass0 (pa_cons (pv 2) (pa_cons pe_int pa_nil))) (pg_tup (by rfl) (pgs_cons (pg_name (i := 8) sc_law.nd rfl (Or.inl rfl)) (pgs_cons (pg_name (i := 9) sc_law.nd rfl (Or.inl rfl)) pgs_nil))))) (pssn_cons (psn_of (ps_set (i := 6) sc_law.nd rfl (Or.inl rfl) (pe_op op_add pe_int (pe_call G__law_draw (hr.mono (by first | decide | omega)) rfl T.m__law_draw T.F__law_draw.kp T.b__law_draw .nil pass0 (pa_cons (pv 2) (pa_cons pe_int pa_nil)))))) (pssn_cons (psn_of (ps_set (i := 10) sc_law.nd rfl (Or.inl rfl) (pe_op op_add_str (pe_op op_add_str (pe_op op_add_str (pe_op op_add_str (pe_op op_add_str (pv 3) pe_str) (pv 8)) pe_str) (pe_callTy call_str_int (by rfl) T.z_str (by decide +kernel) (pa_cons (pv 7) pa_nil))) pe_str))) (pssn_cons (psn_set (i := 11) sc_law.nd rfl (Or.inl rfl) (pen_replC (by decide) (pv 9))) (pssn_cons (psn_of (ps_set (i := 12) sc_law.nd rfl (Or.inl rfl) (pe_op op_rep_str (pv 11) (pe_op op_add (pe_op op_fdiv pe_int (pe_callB (call_max2 rfl) (by rfl) T.z_max (by decide +kernel) (pa_cons pe_int (pa_cons (pe_callB call_len_str (by rfl) T.z_len (by decide +kernel) (pa_cons (pv 11) pa_nil)) pa_nil)))) pe_int)))) (pssn_cons (psn_of (ps_if (pt_cmpR op_eq (pv 11) pe_str (nomark _)) (pss_one (ps_set (i := 12) sc_law.nd rfl (Or.inl rfl) (pv 5))) pss_nil)) (pssn_cons (psn_if (ptn_cmpR op_ne (pen_call G_last_puts (hr.mono (by first | decide | omega)) rfl T.m_last_puts T.F_last_puts.kp T.b_last_puts .nil passN (pan_of (pa_cons (pv 10) (pa_cons (pv 6) pa_nil)))) (pen_of (pe_call G__law_end (hr.mono (by first | decide | omega)) rfl T.m__law_end T.F__law_end.kp T.b__law_end .nil pass0 (pa_cons (pv 12) (pa_cons (pv 6) pa_nil)))) (nomark _)) (pssn_of (pss_one (ps_ret pe_bl))) (pssn_of pss_nil)) (pssn_cons (psn_of (ps_set (i := 13) sc_law.nd rfl (Or.inl rfl) (pe_ix ix_str pe_str (pe_call G__law_draw (hr.mono (by first | decide | omega)) rfl T.m__law_draw T.F__law_draw.kp T.b__law_draw .nil pass0 (pa_cons (pv 2) (pa_cons pe_int pa_nil))) (fun _ _ => rfl)))) (pssn_cons (psn_of (ps_set (i := 14) sc_law.nd rfl (Or.inl rfl) (pe_op op_add_str (pe_op op_add_str (pe_op op_add_str (pe_op op_add_str (pe_op op_add_str (pe_op op_add_str pe_str (pv 8)) pe_str) (pe_callTy call_str_int (by rfl) T.z_str (by decide +kernel) (pa_cons (pv 7) pa_nil))) (pv 13)) pe_str) (pe_callTy call_str_int (by rfl) T.z_str (by decide +kernel) (pa_cons (pe_op op_add (pv 7) pe_int) pa_nil))))) (pssn_cons (psn_of (ps_if (pt_cmpR op_eq (pv 11) pe_str (nomark _)) (pss_one (ps_set (i := 12) sc_law.nd rfl (Or.inl rfl) (pe_op op_rep_str (pv 13) pe_int))) (pss_one (ps_set (i := 12) sc_law.nd rfl (Or.inl rfl) (pe_op op_add_str (pe_op op_rep_str (pv 11) (pe_op op_add (pe_op op_fdiv pe_int (pe_callB call_len_str (by rfl) T.z_len (by decide +kernel) (pa_cons (pv 11) pa_nil))) pe_int)) (pv 13)))))) (pssn_cons (psn_if (ptn_cmpR op_ne (pen_call G_last_puts (hr.mono (by first | decide | omega)) rfl T.m_last_puts T.F_last_puts.kp T.b_last_puts .nil passN (pan_of (pa_cons (pv 14) (pa_cons (pv 6) pa_nil)))) (pen_of (pe_call G__law_end (hr.mono (by first | decide | omega)) rfl T.m__law_end T.F__law_end.kp T.b__law_end .nil pass0 (pa_cons (pv 12) (pa_cons (pv 6) pa_nil)))) (nomark _)) (pssn_of (pss_one (ps_ret pe_bl))) (pssn_of pss_nil)) (pssn_one (psn_if (ptn_cmpR op_ne (pen_call G_last_puts (hr.mono (by first | decide | omega)) rfl T.m_last_puts T.F_last_puts.kp T.b_last_puts .nil passN (pan_of (pa_cons (pe_op op_add_str (pe_op op_add_str (pe_op op_add_str (pe_op op_add_str pe_str (pv 14)) pe_str) (pv 14)) pe_str) (pa_cons pe_int pa_nil)))) (pen_of pe_str) (nomark _)) (pssn_of (pss_one (ps_ret pe_bl))) (pssn_of pss_nil)))))))))))))))))))) (pssn_of (pss_one (ps_ret pe_bl)))))), ?_⟩
    have hst : start ["_law_script", "_law_k", "_law_draws_here", "_law_program_here", "_law_full", "_law_letters", "_law_count", "_law_large", "_law_inner", "_law_spelled", "_law_whole", "_law_put", "_law_near", "_law_tail", "_law_nest", "_law_value"] [.ref a] = [some (.ref a), none, none, none, none, none, none, none, none, none, none, none, none, none, none, none] := rfl
    rw [hst]
    walk_at "rd"
    refine lcL fun R kR => ?_
    walk_at "rd"
    refine ⟨by walk_at "sz", fun pt hpt => ⟨by walk_at "sz", fun pl hpl => ?_⟩⟩
    have s0 : Same H (upd (upd H pt (.tup [.int 1])) pl (.lst [.int (-1), .int 4001, .non, .bl true, .str (Str.ofString "3"), .ref pt])) := (same_new hpt _).trans (same_new hpl _)
    have hpt1 := same_new hpl (.lst [.int (-1), .int 4001, .non, .bl true, .str (Str.ofString "3"), .ref pt]) _ _ upd_same
    have hpl1 := upd_same (H := upd H pt (.tup [.int 1])) (a := pl) (o := .lst [.int (-1), .int 4001, .non, .bl true, .str (Str.ofString "3"), .ref pt])
    generalize upd (upd H pt (.tup [.int 1])) pl _ = H1 at s0 hpt1 hpl1 ⊢
    clear hpt hpl
    refine kR pl _ _ (SqL.of hpl1) fun D hD => ⟨fun j H' => Same H1 H' ∧ H' D = some (.lst ((List.replicate j true).map V.bl)), ⟨same_new hD _, upd_same⟩, fun j H' _ h => SqL.of (h.1 _ _ hpl1), ?_, ?_⟩
    · rintro j y H' hy ⟨s1, hD1⟩
      have hj : j < 6 := (List.getElem?_eq_some_iff.mp hy).1
      walk_at "wp"
      walk_at "rd"
      simp only [sp_rejl]
      have ky : Kd K H' y ∧ isPutsN y = false := by
        rcases (by omega : j = 0 ∨ j = 1 ∨ j = 2 ∨ j = 3 ∨ j = 4 ∨ j = 5) with rfl | rfl | rfl | rfl | rfl | rfl <;> cases hy
        · exact ⟨.int _, by decide⟩
        · exact ⟨.int _, by decide⟩
        · exact ⟨.non, by decide⟩
        · exact ⟨.bl _, by decide⟩
        · exact ⟨.str _ (by decide +kernel), by decide +kernel⟩
        · exact ⟨kd_tup (s1 _ _ hpt1), rfl⟩
      refine ⟨y, rfl, ky.1, ky.2, fun H2 s2 => ⟨_, s2 _ _ hD1, ?_, same_mut (s1.trans s2) hD, ?_⟩⟩
      · rw [List.length_map, List.length_replicate]
        exact Nat.lt_of_le_of_lt (by omega : j ≤ 100000) (by decide)
      · rw [upd_same, List.replicate_succ', List.map_append]; rfl
    · rintro H' ⟨s1, hD1⟩
      refine ⟨by walk_at "sz", fun p1 h1 => ⟨_, _, _, rfl, rfl, upd_same, by decide, by decide, by decide, fun p2 h2 => ?_⟩⟩
      have s2 := (s0.trans s1).trans ((same_new h1 _).trans (same_new h2 (.lst (List.replicate (Int.toNat 6) [V.bl true]).flatten)))
      have hD2 := same_new h2 (.lst (List.replicate (Int.toNat 6) [V.bl true]).flatten) _ _ (same_new h1 (.lst [.bl true]) _ _ hD1)
      have hp2 := upd_same (H := upd H' p1 (.lst [.bl true])) (a := p2) (o := .lst (List.replicate (Int.toNat 6) [V.bl true]).flatten)
      refine ne_bools (bs := List.replicate 6 true) (cs := List.replicate 6 true) (SqL.of hD2) (SqL.of hp2) ⟨_, rfl, ?_⟩
      rw [decide_eq_true rfl, if_neg (by decide)]
      generalize upd (upd H' p1 (.lst [.bl true])) p2 _ = H2 at s2 ⊢
      clear hD2 hp2 h2 h1 hD1 s1 s0 hpt1 hpl1
      obtain ⟨N, hN, P1⟩ : ∃ N : Nat, 4000 ≤ N ∧ Pr 1 (tl (Str.ofString "(a)1000000000000000000000000000000")) (List.replicate N [97]).flatten := ⟨10 ^ 30, by decide, Pr.one (d := 0) (n := 10 ^ 30) (Pr.steps (s := [97]) (by decide)) (Nat.le_refl _)⟩
      refine lp_of (m := 4000) P1 (by decide) (by decide +kernel) (by decide) fun H3 s3 => ?_
      have e1 : (⟨(lastN 4000 (puts (List.replicate N [97]).flatten)).toArray⟩ : Str) = srep (Str.ofString "a") (Int.toNat 4000) := tl_inj (by
        rw [tl_srep, show tl (Str.ofString "a") = [97] from by decide +kernel]
        exact lastN_one hN (by decide))
      rw [e1]
      refine ⟨_, _, rfl, rfl, by decide, by decide, by decide +kernel, rfl, ?_⟩
      rw [decide_eq_true rfl, if_neg (by decide)]
      refine lp_of (m := 5) (f := []) (Pr.nil 0) (by decide) (by decide +kernel) (by decide) fun H4 s4 => ⟨rfl, ?_⟩
      rw [show (⟨(lastN 5 (puts [])).toArray⟩ : Str) = Str.ofString "" from by unfold puts lastN; decide +kernel, decide_eq_true rfl, if_neg (by decide)]
      have s5 : Same H H4 := (s2.trans s3).trans s4
      clear e1 P1 s2 s3 s4 H2 H3
      refine forR fun R kR => ?_
      walk_at "rd"
      refine ⟨_, .inl (s5.seq hS), ?_⟩
      rw [List.length_map]
      refine kR _ (fun i σ H' => Same H H' ∧ ∃ x1 x2 x3 x4 x5 x6 x7 x8 x9 x10 x11 x12 x13 x14 x15 : Option V, σ = [some (.ref a), x1, x2, x3, x4, x5, x6, x7, x8, x9, x10, x11, x12, x13, x14, x15]) H4 (by split <;> split <;> omega) (by split <;> split <;> omega) ⟨s5, _, _, _, _, _, _, _, _, _, _, _, _, _, _, _, rfl⟩ ?_ ?_
      · rintro i σ H5 hi ⟨s6, x1, x2, x3, x4, x5, x6, x7, x8, x9, x10, x11, x12, x13, x14, x15, rfl⟩
        have hi40 : i < 64 := by
          revert hi
          split <;> split <;> omega
        clear hi s5 H4
        walk_at "rd"
        simp only [sp_draws]
        refine ⟨a, ns, 0 + (i : Int), rfl, s6.seq hS, hl, by omega, by omega, fun p d H6 s7 hp7 hd hp8 => ?_⟩
        walk_at "rd"
        simp only [sp_prog]
        refine ⟨p, d, 2, rfl, hp8, hd, by decide, by decide, fun r zt zf d1 H7 hPr hlt hlf hd1 hp9 k1 hr1 hr2 => ⟨r, rfl, [.str zt, .str zf], SqT.of hr2, rfl, ?_⟩⟩
        simp only [gCons, gNil]
        walk_at "rd"
        simp only [CwR.tReplC]
        walk_at "rd"
        have hb1 : Lt (2 + 1) ≤ 720 := by decide
        have hb2 : Lf (2 + 1) ≤ 16965 := by decide
        have e0 : (Str.ofString "").length = 0 := by decide +kernel
        have tlf : (tl zf).length = zf.length := tl_len zf
        refine ⟨by rw [e0]; omega, ?_⟩
        have er : tl (Txt.replace zf (Str.ofString "-") (Str.ofString "")) = puts (tl zf) := replace_one zf
        have lr : (Txt.replace zf (Str.ofString "-") (Str.ofString "")).length ≤ 16965 := by
          rw [← tl_len, er]
          exact Nat.le_trans (List.length_filter_le _ _) (by omega)
        generalize Txt.replace zf (Str.ofString "-") (Str.ofString "") = ls at er lr ⊢
        have S1 : Same H H7 := same_but (s6.trans s7) (s6.free hp7) k1
        refine forL fun R kR2 => ?_
        walk_at "rd"
        simp only [sp_draw]
        refine ⟨p, d1, 30, rfl, hp9, hd1, by decide, by decide, fun v1 d2 H8 v10 v11 hd2 hp10 k2 => ⟨p, d2, 4001, rfl, hp10, hd2, by decide, by decide, fun v2 d3 H9 v20 v21 hd3 hp11 k3 => ?_⟩⟩
        refine ⟨sz_of (by omega), sz_of (by omega), by walk_at "sz", fun pl hpl => ?_⟩
        have hpn := s6.free hp7
        have S2 : Same H H9 := same_but (same_but S1 hpn k2) hpn k3
        obtain ⟨vs, hvs⟩ : ∃ vs : List V, vs = [.int 0, .int 1, .int 2, .int v1, .int v2, .int (ls.length : Int), .int ((ls.length : Int) + 1)] := ⟨_, rfl⟩
        rw [← hvs]
        have S3 : Same H (upd H9 pl (.lst vs)) := S2.trans (same_new hpl _)
        have hp12 : upd H9 pl (.lst vs) p = some (dw d3) := same_new hpl _ _ _ hp11
        have hpl2 := upd_same (H := H9) (a := pl) (o := .lst vs)
        generalize upd H9 pl (.lst vs) = H10 at S3 hp12 hpl2 ⊢
        clear hp8 hp9 hp10 hp11 hr1 hr2 hpl S2 S1 k1 k2 k3 s7
        refine kR2 pl vs (fun j σ H' => Same H10 H' ∧ ∃ y6 : Option V, σ = [some (.ref a), some (.int (0 + (i : Int))), some (.ref p), some (.str zt), some (.str zf), some (.str ls), y6, x7, x8, x9, x10, x11, x12, x13, x14, x15]) H10 (SqL.of hpl2) ⟨Same.refl _, _, rfl⟩ (fun j σ H' _ h => SqL.of (h.1 _ _ hpl2)) ?_ ?_
        · rintro j y σ H11 hy ⟨s11, y6, rfl⟩
          obtain ⟨c, rfl⟩ : ∃ c : Nat, y = .int (c : Int) := by
            have hm := List.mem_of_getElem? hy
            rw [hvs] at hm
            simp only [List.mem_cons, List.not_mem_nil, or_false] at hm
            rcases hm with h | h | h | h | h | h | h <;> subst h
            · exact ⟨0, rfl⟩
            · exact ⟨1, rfl⟩
            · exact ⟨2, rfl⟩
            · exact ⟨v1.toNat, by rw [Int.toNat_of_nonneg v10]⟩
            · exact ⟨v2.toNat, by rw [Int.toNat_of_nonneg v20]⟩
            · exact ⟨ls.length, rfl⟩
            · exact ⟨ls.length + 1, rfl⟩
          walk_at "rd"
          have em : (if (c : Int) < 4000 then (c : Int) else 4000) = ((min 4000 c : Nat) : Int) := by split <;> omega
          simp only [em]
          refine lp_of hPr (by decide) (by omega) (by omega) fun H12 s12 => ⟨by omega, ?_⟩
          have ee : endS ls ((min 4000 c : Nat) : Int) = ⟨(lastN (min 4000 c) (puts (tl zf))).toArray⟩ := tl_inj (by rw [tl_end, er]; rfl)
          rw [ee]
          refine ⟨rfl, ?_⟩
          rw [decide_eq_true rfl, if_neg (by decide)]
          exact ⟨s11.trans s12, _, rfl⟩
        · rintro σ H11 ⟨s11, y6, rfl⟩
          have S4 : Same H H11 := S3.trans s11
          have hp13 := s11 _ _ hp12
          clear s11 S3 hp12 hpl2 hvs kR2
          walk_at "rd"
          have c20 : (10 : Int) ^ Int.toNat 20 = 100000000000000000000 := by decide
          have c9 : (10 : Int) ^ Int.toNat 9 = 1000000000 := by decide
          simp only [c20, c9]
          refine ⟨⟨by decide, by decide, by decide⟩, ⟨by decide, by decide, by decide⟩, ?_⟩
          simp only [sp_draw]
          refine ⟨p, d3, 1000000000, rfl, hp13, hd3, by decide, by decide, fun w1 d4 H12 w10 w11 hd4 hp14 k4 => ⟨_, rfl, ?_⟩⟩
          simp only [sp_prog]
          refine ⟨p, d4, 1, rfl, hp14, hd4, by decide, by decide, fun r2 zi zs d5 H13 hPi hli hls hd5 hp15 k5 hr3 hr4 => ⟨r2, rfl, [.str zi, .str zs], SqT.of hr4, rfl, ?_⟩⟩
          simp only [gCons, gNil]
          walk_at "rd"
          simp only [sp_draw]
          refine ⟨p, d5, 200, rfl, hp15, hd5, by decide, by decide, fun w2 d6 H14 w20 w21 hd6 hp16 k6 => ⟨_, rfl, ?_⟩⟩
          have S5 : Same H H14 := same_but (same_but (same_but S4 hpn k4) hpn k5) hpn k6
          clear hp13 hp14 hp15 hr3 hr4 S4 k4 k5 k6
          obtain ⟨N, eN⟩ : ∃ N : Nat, (100000000000000000000 + w1 : Int) = N := ⟨(100000000000000000000 + w1).toNat, by omega⟩
          obtain ⟨C, eC⟩ : ∃ C : Nat, (1 + w2 : Int) = C := ⟨(1 + w2).toNat, by omega⟩
          simp only [eN, eC]
          have hN0 : 100000000000000000000 ≤ N := by omega
          have hN1 : N < 1000000000000000000000 := by omega
          have hC1 : C ≤ 200 := by omega
          clear eN eC w10 w11 w20 w21 c20 c9
          have lg : ∀ k : Nat, 0 < k → k < 2 ^ 70 → (k : Int).natAbs.log2 < 1920 := fun k h0 h => by
            rw [Int.natAbs_natCast]
            exact Nat.lt_of_lt_of_le ((Nat.log2_lt (by omega)).mpr h) (by decide)
          have nN : N < 2 ^ 70 := Nat.lt_of_lt_of_le hN1 (by decide)
          have nM : N + 1 < 2 ^ 70 := Nat.lt_of_le_of_lt hN1 (by decide)
          have hN30 : N ≤ 10 ^ 30 := Nat.le_trans (Nat.le_of_lt hN1) (by decide)
          have hM30 : N + 1 ≤ 10 ^ 30 := Nat.le_trans hN1 (by decide)
          have la : ∀ x y : Str, (x ++ y).length = x.length + y.length := fun x y => by rw [← tl_len, ← tl_len, ← tl_len, tl_app, List.length_append]
          have tN : tl (Str.ofString (toString (N : Int))) = digs N := PySem.W.KIN.signs_num N
          have lN : (Str.ofString (toString (N : Int))).length ≤ 21 := by rw [← tl_len, tN]; exact digs_lt (by decide) (Nat.lt_of_lt_of_le hN1 (by decide))
          have eM : (N : Int) + 1 = ((N + 1 : Nat) : Int) := rfl
          have tM : tl (Str.ofString (toString ((N : Int) + 1))) = digs (N + 1) := PySem.W.KIN.signs_num (N + 1)
          have lM : (Str.ofString (toString ((N : Int) + 1))).length ≤ 22 := by rw [← tl_len, tM]; exact digs_lt (by decide) (Nat.lt_of_le_of_lt hN1 (by decide))
          have lgM : ((N : Int) + 1).natAbs.log2 < 1920 := lg (N + 1) (by omega) nM
          generalize Str.ofString (toString (N : Int)) = sN at tN lN ⊢
          generalize Str.ofString (toString ((N : Int) + 1)) = sM at tM lM ⊢
          have gA : (Str.ofString "(").length = 1 := by decide +kernel
          have gB : (Str.ofString ")").length = 1 := by decide +kernel
          have gC : (Str.ofString "-").length = 1 := by decide +kernel
          have gD : (Str.ofString "((").length = 2 := by decide +kernel
          have gE : (Str.ofString "-)").length = 2 := by decide +kernel
          have gF : (Str.ofString ")0q(").length = 4 := by decide +kernel
          have gG : (Str.ofString ")0").length = 2 := by decide +kernel
          have hA : tl (Str.ofString "(") = [40] := by decide +kernel
          have hB : tl (Str.ofString ")") = [41] := by decide +kernel
          have hC : tl (Str.ofString "-") = [45] := by decide +kernel
          have hD : tl (Str.ofString "((") = [40, 40] := by decide +kernel
          have hE : tl (Str.ofString "-)") = [45, 41] := by decide +kernel
          have hF : tl (Str.ofString ")0q(") = 41 :: (digs 0 ++ [113, 40]) := by decide +kernel
          have hG : tl (Str.ofString ")0") = 41 :: digs 0 := by decide +kernel
          have hb3 : Lt (1 + 1) ≤ 720 := by decide
          have hb4 : Lf (1 + 1) ≤ 120 := by decide
          refine ⟨sz_of (by omega), sz_of (by rw [la]; omega), sz_of (by rw [la, la]; omega), lg N (by omega) nN, sz_of (by rw [la, la, la]; omega), sz_of (by rw [la, la, la, la]; omega), ?_⟩
          have P2 : Pr 2 (tl (zt ++ Str.ofString "(" ++ zi ++ Str.ofString ")" ++ sN ++ Str.ofString "-")) (tl zf ++ ((List.replicate N (tl zs)).flatten ++ [45])) := by
            have := Pr.app hPr (Pr.app (Pr.one (d := 1) hPi hN30) (Pr.steps (s := [45]) (by decide)))
            rw [tl_app, tl_app, tl_app, tl_app, tl_app, tN, hA, hB, hC]
            simpa only [List.cons_append, List.nil_append, List.append_assoc] using this
          have lz2 : (zt ++ Str.ofString "(" ++ zi ++ Str.ofString ")" ++ sN ++ Str.ofString "-").length ≤ 2000 := by rw [la, la, la, la, la]; omega
          generalize zt ++ Str.ofString "(" ++ zi ++ Str.ofString ")" ++ sN ++ Str.ofString "-" = z2 at P2 lz2 ⊢
          simp only [CwR.tReplC]
          walk_at "rd"
          have tls : (tl zs).length = zs.length := tl_len zs
          refine ⟨by rw [e0]; omega, ?_⟩
          have ep : tl (Txt.replace zs (Str.ofString "-") (Str.ofString "")) = puts (tl zs) := replace_one zs
          have lp : (Txt.replace zs (Str.ofString "-") (Str.ofString "")).length ≤ 120 := by
            rw [← tl_len, ep]
            exact Nat.le_trans (List.length_filter_le _ _) (by omega)
          generalize Txt.replace zs (Str.ofString "-") (Str.ofString "") = pt at ep lp ⊢
          have lpt : (puts (tl zs)).length = pt.length := by rw [← ep, tl_len]
          refine ⟨sz_of (by omega), cdiv_max (by omega), ?_⟩
          simp only [r_int]
          have hr1 : 200 / max 1 pt.length + 1 ≤ 201 := by have := Nat.div_le_self 200 (max 1 pt.length); omega
          have hmu : pt.length * (200 / max 1 pt.length + 1) ≤ 120 * 201 := Nat.mul_le_mul lp hr1
          have hrl := r_len (L := pt.length)
          generalize hrr : 200 / max 1 pt.length + 1 = r at hr1 hmu hrl ⊢
          refine ⟨pt, (r : Int), rfl, rfl, by omega, by omega, by rw [Int.toNat_natCast]; omega, ?_⟩
          rw [Int.toNat_natCast]
          dsimp only
          by_cases he : pt = Str.ofString ""
          · have hX : puts (tl zs) = [] := by rw [← ep, he]; decide +kernel
            rw [decide_eq_true he, if_pos rfl]
            refine lp_of P2 (by decide) (by omega) (by omega) fun H15 s15 => ⟨by omega, ?_⟩
            have ee : endS ls (C : Int) = ⟨(lastN C (puts (tl zf ++ ((List.replicate N (tl zs)).flatten ++ [45])))).toArray⟩ := tl_inj (by rw [tl_end, er, five_a0 hX]; rfl)
            rw [ee]
            refine ⟨rfl, ?_⟩
            rw [decide_eq_true rfl, if_neg (by decide)]
            refine ⟨d6, s15 _ _ hp16, hd6, by decide, by decide, fun w3 d7 H16 w30 w31 hd7 hp17 k7 => ?_⟩
            have S6 : Same H H16 := same_but (S5.trans s15) hpn k7
            obtain ⟨c, hc⟩ : ∃ c : Nat, c = 100 + w3.toNat := ⟨_, rfl⟩
            have hcc : (Str.ofString "defghijklmnopqrstuvw").cps.toList[w3.toNat]? = some c := by
              have h20 : ∀ k : Nat, k < 20 → (Str.ofString "defghijklmnopqrstuvw").cps.toList[k]? = some (100 + k) := by decide +kernel
              rw [hc]; exact h20 _ (by omega)
            have hc1 : 100 ≤ c := by omega
            have hc2 : c < 120 := by omega
            refine ix_str_at (by decide +kernel) w30 hcc ?_
            have gT : (⟨#[c]⟩ : Str).length = 1 := rfl
            have hT : tl (⟨#[c]⟩ : Str) = [c] := rfl
            generalize (⟨#[c]⟩ : Str) = sT at gT hT ⊢
            refine ⟨sz_of (by omega), sz_of (by rw [la]; omega), lg N (by omega) nN, sz_of (by rw [la, la]; omega), _, rfl, sz_of (by rw [la, la, la]; omega), sz_of (by rw [la, la, la, la]; omega), lgM, sz_of (by rw [la, la, la, la, la]; omega), ?_⟩
            have hcs : isStep c = true := by simp only [isStep, isLet, Bool.or_eq_true, Bool.and_eq_true, decide_eq_true_eq]; omega
            have P3 : Pr 3 (tl (Str.ofString "((" ++ zi ++ Str.ofString ")" ++ sN ++ sT ++ Str.ofString "-)" ++ sM)) (List.replicate (N + 1) ((List.replicate N (tl zs)).flatten ++ [c, 45])).flatten := by
              have := Pr.one (d := 2) (n := N + 1) (Pr.app (Pr.one (d := 1) hPi hN30) (Pr.steps (s := [c, 45]) (by simp only [List.all_cons, List.all_nil, hcs]; decide))) hM30
              rw [tl_app, tl_app, tl_app, tl_app, tl_app, tl_app, tN, tM, hB, hD, hE, hT]
              simpa only [List.cons_append, List.nil_append, List.append_assoc] using this
            have lz3 : (Str.ofString "((" ++ zi ++ Str.ofString ")" ++ sN ++ sT ++ Str.ofString "-)" ++ sM).length ≤ 2000 := by rw [la, la, la, la, la, la]; omega
            generalize Str.ofString "((" ++ zi ++ Str.ofString ")" ++ sN ++ sT ++ Str.ofString "-)" ++ sM = z3 at P3 lz3 ⊢
            rw [if_pos rfl]
            refine ⟨sT, 200, rfl, rfl, by decide, by decide, by rw [gT]; decide, ?_⟩
            have l2 : (srep sT (Int.toNat 200)).length ≤ 200 := by rw [← tl_len, tl_srep, len_flat_rep, hT, List.length_singleton]; decide
            refine lp_of P3 (by decide) (by omega) (by omega) fun H17 s17 => ⟨_, rfl, by omega, ?_⟩
            have ee2 : endS (srep sT (Int.toNat 200)) (C : Int) = ⟨(lastN C (puts (List.replicate (N + 1) ((List.replicate N (tl zs)).flatten ++ [c, 45])).flatten)).toArray⟩ := tl_inj (by rw [tl_end, tl_srep, hT, five_b (by omega) hX (by omega) hC1]; rfl)
            rw [ee2]
            refine ⟨rfl, ?_⟩
            rw [decide_eq_true rfl, if_neg (by decide)]
            refine ⟨sz_of (by omega), sz_of (by rw [la]; omega), sz_of (by rw [la, la]; omega), sz_of (by rw [la, la, la]; omega), ?_⟩
            have P4 : Pr 4 (tl (Str.ofString "(" ++ z3 ++ Str.ofString ")0q(" ++ z3 ++ Str.ofString ")0")) [113] := by
              have := Pr.app (Pr.one P3 (n := 0) (by decide)) (Pr.app (Pr.steps (s := [113]) (by decide)) (Pr.one P3 (n := 0) (by decide)))
              rw [tl_app, tl_app, tl_app, tl_app, hA, hF, hG]
              simpa only [List.replicate_zero, List.flatten_nil, List.cons_append, List.nil_append, List.append_nil, List.append_assoc] using this
            refine lp_of (m := 9) P4 (by decide) (by rw [la, la, la, la]; omega) (by decide) fun H18 s18 => ⟨rfl, ?_⟩
            rw [show (⟨(lastN 9 (puts [113])).toArray⟩ : Str) = Str.ofString "q" from by unfold puts lastN; decide +kernel, decide_eq_true rfl, if_neg (by decide)]
            exact ⟨(S6.trans s17).trans s18, ⟨_, rfl⟩, ⟨_, rfl⟩, ⟨_, rfl⟩, ⟨_, rfl⟩, ⟨_, rfl⟩, ⟨_, rfl⟩, ⟨_, rfl⟩, ⟨_, rfl⟩, ⟨_, rfl⟩, ⟨_, rfl⟩, ⟨_, rfl⟩, ⟨_, rfl⟩, ⟨_, rfl⟩, ⟨_, rfl⟩, ⟨_, rfl⟩⟩
          · have hL : 0 < pt.length := Nat.pos_of_ne_zero fun z => he (tl_inj (by rw [List.eq_nil_of_length_eq_zero (by rw [tl_len, z] : (tl pt).length = 0)]; decide +kernel))
            have hX := hrl hL
            rw [decide_eq_false he, if_neg Bool.false_ne_true]
            have lsr : (srep pt r).length ≤ 24120 := by rw [← tl_len, tl_srep, len_flat_rep, tl_len, Nat.mul_comm]; omega
            refine lp_of P2 (by decide) (by omega) (by omega) fun H15 s15 => ⟨_, rfl, by omega, ?_⟩
            have ee : endS (srep pt r) (C : Int) = ⟨(lastN C (puts (tl zf ++ ((List.replicate N (tl zs)).flatten ++ [45])))).toArray⟩ := tl_inj (by rw [tl_end, tl_srep, ep, five_a (r := r) (by omega) (by rw [lpt]; omega)]; rfl)
            rw [ee]
            refine ⟨rfl, ?_⟩
            rw [decide_eq_true rfl, if_neg (by decide)]
            refine ⟨d6, s15 _ _ hp16, hd6, by decide, by decide, fun w3 d7 H16 w30 w31 hd7 hp17 k7 => ?_⟩
            have S6 : Same H H16 := same_but (S5.trans s15) hpn k7
            obtain ⟨c, hc⟩ : ∃ c : Nat, c = 100 + w3.toNat := ⟨_, rfl⟩
            have hcc : (Str.ofString "defghijklmnopqrstuvw").cps.toList[w3.toNat]? = some c := by
              have h20 : ∀ k : Nat, k < 20 → (Str.ofString "defghijklmnopqrstuvw").cps.toList[k]? = some (100 + k) := by decide +kernel
              rw [hc]; exact h20 _ (by omega)
            have hc1 : 100 ≤ c := by omega
            have hc2 : c < 120 := by omega
            refine ix_str_at (by decide +kernel) w30 hcc ?_
            have gT : (⟨#[c]⟩ : Str).length = 1 := rfl
            have hT : tl (⟨#[c]⟩ : Str) = [c] := rfl
            generalize (⟨#[c]⟩ : Str) = sT at gT hT ⊢
            refine ⟨sz_of (by omega), sz_of (by rw [la]; omega), lg N (by omega) nN, sz_of (by rw [la, la]; omega), _, rfl, sz_of (by rw [la, la, la]; omega), sz_of (by rw [la, la, la, la]; omega), lgM, sz_of (by rw [la, la, la, la, la]; omega), ?_⟩
            have hcs : isStep c = true := by simp only [isStep, isLet, Bool.or_eq_true, Bool.and_eq_true, decide_eq_true_eq]; omega
            have P3 : Pr 3 (tl (Str.ofString "((" ++ zi ++ Str.ofString ")" ++ sN ++ sT ++ Str.ofString "-)" ++ sM)) (List.replicate (N + 1) ((List.replicate N (tl zs)).flatten ++ [c, 45])).flatten := by
              have := Pr.one (d := 2) (n := N + 1) (Pr.app (Pr.one (d := 1) hPi hN30) (Pr.steps (s := [c, 45]) (by simp only [List.all_cons, List.all_nil, hcs]; decide))) hM30
              rw [tl_app, tl_app, tl_app, tl_app, tl_app, tl_app, tN, tM, hB, hD, hE, hT]
              simpa only [List.cons_append, List.nil_append, List.append_assoc] using this
            have lz3 : (Str.ofString "((" ++ zi ++ Str.ofString ")" ++ sN ++ sT ++ Str.ofString "-)" ++ sM).length ≤ 2000 := by rw [la, la, la, la, la, la]; omega
            generalize Str.ofString "((" ++ zi ++ Str.ofString ")" ++ sN ++ sT ++ Str.ofString "-)" ++ sM = z3 at P3 lz3 ⊢
            rw [if_neg Bool.false_ne_true]
            have er2 : (200 / (pt.length : Int) + 1) = (r : Int) := by rw [← hrr, Nat.max_eq_right (by omega), Int.natCast_add, Int.natCast_ediv]; rfl
            rw [er2]
            refine ⟨sz_of (by omega), cdiv_pos hL (by omega), pt, (r : Int), rfl, rfl, by omega, by omega, by rw [Int.toNat_natCast]; omega, _, rfl, _, rfl, sz_of (by rw [Int.toNat_natCast]; omega), ?_⟩
            rw [Int.toNat_natCast]
            refine lp_of P3 (by decide) (by omega) (by omega) fun H17 s17 => ⟨by rw [la]; omega, ?_⟩
            have ee2 : endS (srep pt r ++ sT) (C : Int) = ⟨(lastN C (puts (List.replicate (N + 1) ((List.replicate N (tl zs)).flatten ++ [c, 45])).flatten)).toArray⟩ := tl_inj (by rw [tl_end, tl_app, tl_srep, ep, hT, five_b1 (r := r) (by omega) (by omega) (by rw [lpt]; omega)]; rfl)
            rw [ee2]
            refine ⟨rfl, ?_⟩
            rw [decide_eq_true rfl, if_neg (by decide)]
            refine ⟨sz_of (by omega), sz_of (by rw [la]; omega), sz_of (by rw [la, la]; omega), sz_of (by rw [la, la, la]; omega), ?_⟩
            have P4 : Pr 4 (tl (Str.ofString "(" ++ z3 ++ Str.ofString ")0q(" ++ z3 ++ Str.ofString ")0")) [113] := by
              have := Pr.app (Pr.one P3 (n := 0) (by decide)) (Pr.app (Pr.steps (s := [113]) (by decide)) (Pr.one P3 (n := 0) (by decide)))
              rw [tl_app, tl_app, tl_app, tl_app, hA, hF, hG]
              simpa only [List.replicate_zero, List.flatten_nil, List.cons_append, List.nil_append, List.append_nil, List.append_assoc] using this
            refine lp_of (m := 9) P4 (by decide) (by rw [la, la, la, la]; omega) (by decide) fun H18 s18 => ⟨rfl, ?_⟩
            rw [show (⟨(lastN 9 (puts [113])).toArray⟩ : Str) = Str.ofString "q" from by unfold puts lastN; decide +kernel, decide_eq_true rfl, if_neg (by decide)]
            exact ⟨(S6.trans s17).trans s18, ⟨_, rfl⟩, ⟨_, rfl⟩, ⟨_, rfl⟩, ⟨_, rfl⟩, ⟨_, rfl⟩, ⟨_, rfl⟩, ⟨_, rfl⟩, ⟨_, rfl⟩, ⟨_, rfl⟩, ⟨_, rfl⟩, ⟨_, rfl⟩, ⟨_, rfl⟩, ⟨_, rfl⟩, ⟨_, rfl⟩, ⟨_, rfl⟩⟩
      · rintro σ H5 ⟨s6, x1, x2, x3, x4, x5, x6, x7, x8, x9, x10, x11, x12, x13, x14, x15, rfl⟩
        walk_at "rd"
        exact q H5

end
theorem all_mk {w : World} {K : PySem.W.Frag} {h : Heap} {mg : Str → Option Value} {fa : Addr} (X : K.In h) (G : h.Ns mainGlobals mg) (hfa : mg "law" = some (.ref fa))
    {f_is_int : Addr} {oc_is_int kV_is_int dc_is_int pm_is_int cd_is_int ct_is_int : Value} {od_is_int an_is_int : Option Addr} {sl_is_int : Array (Option Value)}
    {f_is_int_between : Addr} {oc_is_int_between kV_is_int_between dc_is_int_between pm_is_int_between cd_is_int_between ct_is_int_between : Value} {od_is_int_between an_is_int_between : Option Addr} {sl_is_int_between : Array (Option Value)}
    {f_read_integer : Addr} {oc_read_integer kV_read_integer dc_read_integer pm_read_integer cd_read_integer ct_read_integer : Value} {od_read_integer an_read_integer : Option Addr} {sl_read_integer : Array (Option Value)}
    {f_is_count : Addr} {oc_is_count kV_is_count dc_is_count pm_is_count cd_is_count ct_is_count : Value} {od_is_count an_is_count : Option Addr} {sl_is_count : Array (Option Value)}
    {f_last_puts : Addr} {oc_last_puts kV_last_puts dc_last_puts pm_last_puts cd_last_puts ct_last_puts : Value} {od_last_puts an_last_puts : Option Addr} {sl_last_puts : Array (Option Value)}
    {f_parts_of : Addr} {oc_parts_of kV_parts_of dc_parts_of pm_parts_of cd_parts_of ct_parts_of : Value} {od_parts_of an_parts_of : Option Addr} {sl_parts_of : Array (Option Value)}
    {f_read_parts : Addr} {oc_read_parts kV_read_parts dc_read_parts pm_read_parts cd_read_parts ct_read_parts : Value} {od_read_parts an_read_parts : Option Addr} {sl_read_parts : Array (Option Value)}
    {f_end_of_run : Addr} {oc_end_of_run kV_end_of_run dc_end_of_run pm_end_of_run cd_end_of_run ct_end_of_run : Value} {od_end_of_run an_end_of_run : Option Addr} {sl_end_of_run : Array (Option Value)}
    {f_last_letters : Addr} {oc_last_letters kV_last_letters dc_last_letters pm_last_letters cd_last_letters ct_last_letters : Value} {od_last_letters an_last_letters : Option Addr} {sl_last_letters : Array (Option Value)}
    {f_last_letters_of_part : Addr} {oc_last_letters_of_part kV_last_letters_of_part dc_last_letters_of_part pm_last_letters_of_part cd_last_letters_of_part ct_last_letters_of_part : Value} {od_last_letters_of_part an_last_letters_of_part : Option Addr} {sl_last_letters_of_part : Array (Option Value)}
    {f_ending : Addr} {oc_ending kV_ending dc_ending pm_ending cd_ending ct_ending : Value} {od_ending an_ending : Option Addr} {sl_ending : Array (Option Value)}
    {f__law_draws : Addr} {oc__law_draws kV__law_draws dc__law_draws pm__law_draws cd__law_draws ct__law_draws : Value} {od__law_draws an__law_draws : Option Addr} {sl__law_draws : Array (Option Value)}
    {f__law_draw : Addr} {oc__law_draw kV__law_draw dc__law_draw pm__law_draw cd__law_draw ct__law_draw : Value} {od__law_draw an__law_draw : Option Addr} {sl__law_draw : Array (Option Value)}
    {f__law_letter : Addr} {oc__law_letter kV__law_letter dc__law_letter pm__law_letter cd__law_letter ct__law_letter : Value} {od__law_letter an__law_letter : Option Addr} {sl__law_letter : Array (Option Value)}
    {f__law_sequence : Addr} {oc__law_sequence kV__law_sequence dc__law_sequence pm__law_sequence cd__law_sequence ct__law_sequence : Value} {od__law_sequence an__law_sequence : Option Addr} {sl__law_sequence : Array (Option Value)}
    {f__law_program : Addr} {oc__law_program kV__law_program dc__law_program pm__law_program cd__law_program ct__law_program : Value} {od__law_program an__law_program : Option Addr} {sl__law_program : Array (Option Value)}
    {f__law_rejected : Addr} {oc__law_rejected kV__law_rejected dc__law_rejected pm__law_rejected cd__law_rejected ct__law_rejected : Value} {od__law_rejected an__law_rejected : Option Addr} {sl__law_rejected : Array (Option Value)}
    {f__law_end : Addr} {oc__law_end kV__law_end dc__law_end pm__law_end cd__law_end ct__law_end : Value} {od__law_end an__law_end : Option Addr} {sl__law_end : Array (Option Value)}
    {f_law : Addr} {oc_law kV_law dc_law pm_law cd_law ct_law : Value} {od_law an_law : Option Addr} {sl_law : Array (Option Value)}
    {u_DIGITS : Tok}
    {u_MOST_DIGITS : Tok}
    {u_TAKE : Tok}
    {u_STEPS : Tok}
    {u_MOST_COUNT : Tok}
    {u_MOST_DEPTH : Tok}
    {u_MOST_STEPS : Tok}
    {x_InvalidProgram : Addr}
    {x_InvalidInteger : Addr}
    (a_is_int : PySem.W.nsIn K mainGlobals "is_int" = some (some (.ref f_is_int)))
    (l_is_int : K.lookup f_is_int = some ⟨oc_is_int, od_is_int, .func (PySem.W.fnOf "is_int" "is_int" (defArgs s_is_int) (defBody s_is_int) (defScope s_is_int) .none kV_is_int dc_is_int pm_is_int an_is_int cd_is_int ct_is_int), sl_is_int⟩)
    (c_is_int : PySem.W.codeIn K cd_is_int "is_int" = true)
    (k_is_int : PySem.W.keepIn K (.ref f_is_int) = true)
    (a_is_int_between : PySem.W.nsIn K mainGlobals "is_int_between" = some (some (.ref f_is_int_between)))
    (l_is_int_between : K.lookup f_is_int_between = some ⟨oc_is_int_between, od_is_int_between, .func (PySem.W.fnOf "is_int_between" "is_int_between" (defArgs s_is_int_between) (defBody s_is_int_between) (defScope s_is_int_between) .none kV_is_int_between dc_is_int_between pm_is_int_between an_is_int_between cd_is_int_between ct_is_int_between), sl_is_int_between⟩)
    (c_is_int_between : PySem.W.codeIn K cd_is_int_between "is_int_between" = true)
    (k_is_int_between : PySem.W.keepIn K (.ref f_is_int_between) = true)
    (a_read_integer : PySem.W.nsIn K mainGlobals "read_integer" = some (some (.ref f_read_integer)))
    (l_read_integer : K.lookup f_read_integer = some ⟨oc_read_integer, od_read_integer, .func (PySem.W.fnOf "read_integer" "read_integer" (defArgs s_read_integer) (defBody s_read_integer) (defScope s_read_integer) .none kV_read_integer dc_read_integer pm_read_integer an_read_integer cd_read_integer ct_read_integer), sl_read_integer⟩)
    (c_read_integer : PySem.W.codeIn K cd_read_integer "read_integer" = true)
    (k_read_integer : PySem.W.keepIn K (.ref f_read_integer) = true)
    (a_is_count : PySem.W.nsIn K mainGlobals "is_count" = some (some (.ref f_is_count)))
    (l_is_count : K.lookup f_is_count = some ⟨oc_is_count, od_is_count, .func (PySem.W.fnOf "is_count" "is_count" (defArgs s_is_count) (defBody s_is_count) (defScope s_is_count) .none kV_is_count dc_is_count pm_is_count an_is_count cd_is_count ct_is_count), sl_is_count⟩)
    (c_is_count : PySem.W.codeIn K cd_is_count "is_count" = true)
    (k_is_count : PySem.W.keepIn K (.ref f_is_count) = true)
    (a_last_puts : PySem.W.nsIn K mainGlobals "last_puts" = some (some (.ref f_last_puts)))
    (l_last_puts : K.lookup f_last_puts = some ⟨oc_last_puts, od_last_puts, .func (PySem.W.fnOf "last_puts" "last_puts" (defArgs s_last_puts) (defBody s_last_puts) (defScope s_last_puts) .none kV_last_puts dc_last_puts pm_last_puts an_last_puts cd_last_puts ct_last_puts), sl_last_puts⟩)
    (c_last_puts : PySem.W.codeIn K cd_last_puts "last_puts" = true)
    (k_last_puts : PySem.W.keepIn K (.ref f_last_puts) = true)
    (a_parts_of : PySem.W.nsIn K mainGlobals "parts_of" = some (some (.ref f_parts_of)))
    (l_parts_of : K.lookup f_parts_of = some ⟨oc_parts_of, od_parts_of, .func (PySem.W.fnOf "parts_of" "parts_of" (defArgs s_parts_of) (defBody s_parts_of) (defScope s_parts_of) .none kV_parts_of dc_parts_of pm_parts_of an_parts_of cd_parts_of ct_parts_of), sl_parts_of⟩)
    (c_parts_of : PySem.W.codeIn K cd_parts_of "parts_of" = true)
    (k_parts_of : PySem.W.keepIn K (.ref f_parts_of) = true)
    (a_read_parts : PySem.W.nsIn K mainGlobals "read_parts" = some (some (.ref f_read_parts)))
    (l_read_parts : K.lookup f_read_parts = some ⟨oc_read_parts, od_read_parts, .func (PySem.W.fnOf "read_parts" "read_parts" (defArgs s_read_parts) (defBody s_read_parts) (defScope s_read_parts) .none kV_read_parts dc_read_parts pm_read_parts an_read_parts cd_read_parts ct_read_parts), sl_read_parts⟩)
    (c_read_parts : PySem.W.codeIn K cd_read_parts "read_parts" = true)
    (k_read_parts : PySem.W.keepIn K (.ref f_read_parts) = true)
    (a_end_of_run : PySem.W.nsIn K mainGlobals "end_of_run" = some (some (.ref f_end_of_run)))
    (l_end_of_run : K.lookup f_end_of_run = some ⟨oc_end_of_run, od_end_of_run, .func (PySem.W.fnOf "end_of_run" "end_of_run" (defArgs s_end_of_run) (defBody s_end_of_run) (defScope s_end_of_run) .none kV_end_of_run dc_end_of_run pm_end_of_run an_end_of_run cd_end_of_run ct_end_of_run), sl_end_of_run⟩)
    (c_end_of_run : PySem.W.codeIn K cd_end_of_run "end_of_run" = true)
    (k_end_of_run : PySem.W.keepIn K (.ref f_end_of_run) = true)
    (a_last_letters : PySem.W.nsIn K mainGlobals "last_letters" = some (some (.ref f_last_letters)))
    (l_last_letters : K.lookup f_last_letters = some ⟨oc_last_letters, od_last_letters, .func (PySem.W.fnOf "last_letters" "last_letters" (defArgs s_last_letters) (defBody s_last_letters) (defScope s_last_letters) .none kV_last_letters dc_last_letters pm_last_letters an_last_letters cd_last_letters ct_last_letters), sl_last_letters⟩)
    (c_last_letters : PySem.W.codeIn K cd_last_letters "last_letters" = true)
    (k_last_letters : PySem.W.keepIn K (.ref f_last_letters) = true)
    (a_last_letters_of_part : PySem.W.nsIn K mainGlobals "last_letters_of_part" = some (some (.ref f_last_letters_of_part)))
    (l_last_letters_of_part : K.lookup f_last_letters_of_part = some ⟨oc_last_letters_of_part, od_last_letters_of_part, .func (PySem.W.fnOf "last_letters_of_part" "last_letters_of_part" (defArgs s_last_letters_of_part) (defBody s_last_letters_of_part) (defScope s_last_letters_of_part) .none kV_last_letters_of_part dc_last_letters_of_part pm_last_letters_of_part an_last_letters_of_part cd_last_letters_of_part ct_last_letters_of_part), sl_last_letters_of_part⟩)
    (c_last_letters_of_part : PySem.W.codeIn K cd_last_letters_of_part "last_letters_of_part" = true)
    (k_last_letters_of_part : PySem.W.keepIn K (.ref f_last_letters_of_part) = true)
    (a_ending : PySem.W.nsIn K mainGlobals "ending" = some (some (.ref f_ending)))
    (l_ending : K.lookup f_ending = some ⟨oc_ending, od_ending, .func (PySem.W.fnOf "ending" "ending" (defArgs s_ending) (defBody s_ending) (defScope s_ending) .none kV_ending dc_ending pm_ending an_ending cd_ending ct_ending), sl_ending⟩)
    (c_ending : PySem.W.codeIn K cd_ending "ending" = true)
    (k_ending : PySem.W.keepIn K (.ref f_ending) = true)
    (a__law_draws : PySem.W.nsIn K mainGlobals "_law_draws" = some (some (.ref f__law_draws)))
    (l__law_draws : K.lookup f__law_draws = some ⟨oc__law_draws, od__law_draws, .func (PySem.W.fnOf "_law_draws" "_law_draws" (defArgs s__law_draws) (defBody s__law_draws) (defScope s__law_draws) .none kV__law_draws dc__law_draws pm__law_draws an__law_draws cd__law_draws ct__law_draws), sl__law_draws⟩)
    (c__law_draws : PySem.W.codeIn K cd__law_draws "_law_draws" = true)
    (k__law_draws : PySem.W.keepIn K (.ref f__law_draws) = true)
    (a__law_draw : PySem.W.nsIn K mainGlobals "_law_draw" = some (some (.ref f__law_draw)))
    (l__law_draw : K.lookup f__law_draw = some ⟨oc__law_draw, od__law_draw, .func (PySem.W.fnOf "_law_draw" "_law_draw" (defArgs s__law_draw) (defBody s__law_draw) (defScope s__law_draw) .none kV__law_draw dc__law_draw pm__law_draw an__law_draw cd__law_draw ct__law_draw), sl__law_draw⟩)
    (c__law_draw : PySem.W.codeIn K cd__law_draw "_law_draw" = true)
    (k__law_draw : PySem.W.keepIn K (.ref f__law_draw) = true)
    (a__law_letter : PySem.W.nsIn K mainGlobals "_law_letter" = some (some (.ref f__law_letter)))
    (l__law_letter : K.lookup f__law_letter = some ⟨oc__law_letter, od__law_letter, .func (PySem.W.fnOf "_law_letter" "_law_letter" (defArgs s__law_letter) (defBody s__law_letter) (defScope s__law_letter) .none kV__law_letter dc__law_letter pm__law_letter an__law_letter cd__law_letter ct__law_letter), sl__law_letter⟩)
    (c__law_letter : PySem.W.codeIn K cd__law_letter "_law_letter" = true)
    (k__law_letter : PySem.W.keepIn K (.ref f__law_letter) = true)
    (a__law_sequence : PySem.W.nsIn K mainGlobals "_law_sequence" = some (some (.ref f__law_sequence)))
    (l__law_sequence : K.lookup f__law_sequence = some ⟨oc__law_sequence, od__law_sequence, .func (PySem.W.fnOf "_law_sequence" "_law_sequence" (defArgs s__law_sequence) (defBody s__law_sequence) (defScope s__law_sequence) .none kV__law_sequence dc__law_sequence pm__law_sequence an__law_sequence cd__law_sequence ct__law_sequence), sl__law_sequence⟩)
    (c__law_sequence : PySem.W.codeIn K cd__law_sequence "_law_sequence" = true)
    (k__law_sequence : PySem.W.keepIn K (.ref f__law_sequence) = true)
    (a__law_program : PySem.W.nsIn K mainGlobals "_law_program" = some (some (.ref f__law_program)))
    (l__law_program : K.lookup f__law_program = some ⟨oc__law_program, od__law_program, .func (PySem.W.fnOf "_law_program" "_law_program" (defArgs s__law_program) (defBody s__law_program) (defScope s__law_program) .none kV__law_program dc__law_program pm__law_program an__law_program cd__law_program ct__law_program), sl__law_program⟩)
    (c__law_program : PySem.W.codeIn K cd__law_program "_law_program" = true)
    (k__law_program : PySem.W.keepIn K (.ref f__law_program) = true)
    (a__law_rejected : PySem.W.nsIn K mainGlobals "_law_rejected" = some (some (.ref f__law_rejected)))
    (l__law_rejected : K.lookup f__law_rejected = some ⟨oc__law_rejected, od__law_rejected, .func (PySem.W.fnOf "_law_rejected" "_law_rejected" (defArgs s__law_rejected) (defBody s__law_rejected) (defScope s__law_rejected) .none kV__law_rejected dc__law_rejected pm__law_rejected an__law_rejected cd__law_rejected ct__law_rejected), sl__law_rejected⟩)
    (c__law_rejected : PySem.W.codeIn K cd__law_rejected "_law_rejected" = true)
    (k__law_rejected : PySem.W.keepIn K (.ref f__law_rejected) = true)
    (a__law_end : PySem.W.nsIn K mainGlobals "_law_end" = some (some (.ref f__law_end)))
    (l__law_end : K.lookup f__law_end = some ⟨oc__law_end, od__law_end, .func (PySem.W.fnOf "_law_end" "_law_end" (defArgs s__law_end) (defBody s__law_end) (defScope s__law_end) .none kV__law_end dc__law_end pm__law_end an__law_end cd__law_end ct__law_end), sl__law_end⟩)
    (c__law_end : PySem.W.codeIn K cd__law_end "_law_end" = true)
    (k__law_end : PySem.W.keepIn K (.ref f__law_end) = true)
    (a_law : PySem.W.nsIn K mainGlobals "law" = some (some (.ref f_law)))
    (l_law : K.lookup f_law = some ⟨oc_law, od_law, .func (PySem.W.fnOf "law" "law" (defArgs s_law) (defBody s_law) (defScope s_law) .none kV_law dc_law pm_law an_law cd_law ct_law), sl_law⟩)
    (c_law : PySem.W.codeIn K cd_law "law" = true)
    (k_law : PySem.W.keepIn K (.ref f_law) = true)
    (z_bool : PySem.W.nsIn K mainGlobals "bool" = some none)
    (z_int : PySem.W.nsIn K mainGlobals "int" = some none)
    (z_isinstance : PySem.W.nsIn K mainGlobals "isinstance" = some none)
    (z_len : PySem.W.nsIn K mainGlobals "len" = some none)
    (z_max : PySem.W.nsIn K mainGlobals "max" = some none)
    (z_min : PySem.W.nsIn K mainGlobals "min" = some none)
    (z_range : PySem.W.nsIn K mainGlobals "range" = some none)
    (z_str : PySem.W.nsIn K mainGlobals "str" = some none)
    (n_DIGITS : PySem.W.nsIn K mainGlobals "DIGITS" = some (some (.str "0123456789" u_DIGITS)))
    (n_MOST_DIGITS : PySem.W.nsIn K mainGlobals "MOST_DIGITS" = some (some (.int 60 u_MOST_DIGITS)))
    (n_TAKE : PySem.W.nsIn K mainGlobals "TAKE" = some (some (.str "-" u_TAKE)))
    (w_TAKE : 0 < u_TAKE ∧ u_TAKE < 273)
    (n_STEPS : PySem.W.nsIn K mainGlobals "STEPS" = some (some (.str "abcdefghijklmnopqrstuvwxyz-" u_STEPS)))
    (n_MOST_COUNT : PySem.W.nsIn K mainGlobals "MOST_COUNT" = some (some (.int 1000000000000000000000000000000 u_MOST_COUNT)))
    (n_MOST_DEPTH : PySem.W.nsIn K mainGlobals "MOST_DEPTH" = some (some (.int 20 u_MOST_DEPTH)))
    (n_MOST_STEPS : PySem.W.nsIn K mainGlobals "MOST_STEPS" = some (some (.int 4000 u_MOST_STEPS)))
    (gx_InvalidProgram : PySem.W.nsIn K mainGlobals "InvalidProgram" = some (some (.ref x_InvalidProgram)))
    (q_InvalidProgram : PySem.W.excIn K x_InvalidProgram [.type "ValueError", .type "Exception", .type "BaseException", .type "object"] "ValueError.__new__" = true)
    (k_InvalidProgram : PySem.W.keepIn K (.ref x_InvalidProgram) = true)
    (b_InvalidProgram : PySem.W.subIn K (.ref x_InvalidProgram) (.type "BaseException") = some true)
    (t_InvalidProgram : PySem.W.typeIn K (.ref x_InvalidProgram) = some (.type "type"))
    (i_InvalidProgram : PySem.W.isClsIn K x_InvalidProgram = true)
    (s_InvalidProgram : PySem.W.subIn K (.ref x_InvalidProgram) (.ref x_InvalidProgram) = some true)
    (gx_InvalidInteger : PySem.W.nsIn K mainGlobals "InvalidInteger" = some (some (.ref x_InvalidInteger)))
    (q_InvalidInteger : PySem.W.excIn K x_InvalidInteger [.type "ValueError", .type "Exception", .type "BaseException", .type "object"] "ValueError.__new__" = true)
    (k_InvalidInteger : PySem.W.keepIn K (.ref x_InvalidInteger) = true)
    (b_InvalidInteger : PySem.W.subIn K (.ref x_InvalidInteger) (.type "BaseException") = some true)
    (t_InvalidInteger : PySem.W.typeIn K (.ref x_InvalidInteger) = some (.type "type"))
    (i_InvalidInteger : PySem.W.isClsIn K x_InvalidInteger = true)
    (s_InvalidInteger : PySem.W.subIn K (.ref x_InvalidInteger) (.ref x_InvalidInteger) = some true)
    (ne_InvalidInteger_InvalidProgram : PySem.W.subIn K (.ref x_InvalidInteger) (.ref x_InvalidProgram) = some false)
    : ∃ fd : FuncData, (∀ (s : Shared) (v : Value), BindsTo s fd ⟨[v], []⟩ [("_law_script", v)]) ∧ ∀ base : Heap, K.In base → base.Ns mainGlobals mg → FnOkN 273 P w K mg base CX0 46 fa fd ["_law_script"] (spLaw K) := by
  have e := hfa.symm.trans (PySem.W.mg_of X G a_law)
  cases e
  have F_is_int := fun_mk (st := s_is_int) l_is_int c_is_int k_is_int
  have b_is_int := F_is_int.binds (ps := ["value"]) fun _ _ _ _ _ _ us hl => match us, hl with | [_], _ => rfl
  have F_is_int_between := fun_mk (st := s_is_int_between) l_is_int_between c_is_int_between k_is_int_between
  have b_is_int_between := F_is_int_between.binds (ps := ["value", "least", "most"]) fun _ _ _ _ _ _ us hl => match us, hl with | [_, _, _], _ => rfl
  have F_read_integer := fun_mk (st := s_read_integer) l_read_integer c_read_integer k_read_integer
  have b_read_integer := F_read_integer.binds (ps := ["text"]) fun _ _ _ _ _ _ us hl => match us, hl with | [_], _ => rfl
  have F_is_count := fun_mk (st := s_is_count) l_is_count c_is_count k_is_count
  have b_is_count := F_is_count.binds (ps := ["value"]) fun _ _ _ _ _ _ us hl => match us, hl with | [_], _ => rfl
  have F_last_puts := fun_mk (st := s_last_puts) l_last_puts c_last_puts k_last_puts
  have b_last_puts := F_last_puts.binds (ps := ["program", "count"]) fun _ _ _ _ _ _ us hl => match us, hl with | [_, _], _ => rfl
  have F_parts_of := fun_mk (st := s_parts_of) l_parts_of c_parts_of k_parts_of
  have b_parts_of := F_parts_of.binds (ps := ["program"]) fun _ _ _ _ _ _ us hl => match us, hl with | [_], _ => rfl
  have F_read_parts := fun_mk (st := s_read_parts) l_read_parts c_read_parts k_read_parts
  have b_read_parts := F_read_parts.binds (ps := ["text"]) fun _ _ _ _ _ _ us hl => match us, hl with | [_], _ => rfl
  have F_end_of_run := fun_mk (st := s_end_of_run) l_end_of_run c_end_of_run k_end_of_run
  have b_end_of_run := F_end_of_run.binds (ps := ["text", "start", "signs"]) fun _ _ _ _ _ _ us hl => match us, hl with | [_, _, _], _ => rfl
  have F_last_letters := fun_mk (st := s_last_letters) l_last_letters c_last_letters k_last_letters
  have b_last_letters := F_last_letters.binds (ps := ["parts", "most"]) fun _ _ _ _ _ _ us hl => match us, hl with | [_, _], _ => rfl
  have F_last_letters_of_part := fun_mk (st := s_last_letters_of_part) l_last_letters_of_part c_last_letters_of_part k_last_letters_of_part
  have b_last_letters_of_part := F_last_letters_of_part.binds (ps := ["part", "most"]) fun _ _ _ _ _ _ us hl => match us, hl with | [_, _], _ => rfl
  have F_ending := fun_mk (st := s_ending) l_ending c_ending k_ending
  have b_ending := F_ending.binds (ps := ["text", "most"]) fun _ _ _ _ _ _ us hl => match us, hl with | [_, _], _ => rfl
  have F__law_draws := fun_mk (st := s__law_draws) l__law_draws c__law_draws k__law_draws
  have b__law_draws := F__law_draws.binds (ps := ["_law_script", "_law_k"]) fun _ _ _ _ _ _ us hl => match us, hl with | [_, _], _ => rfl
  have F__law_draw := fun_mk (st := s__law_draw) l__law_draw c__law_draw k__law_draw
  have b__law_draw := F__law_draw.binds (ps := ["_law_draws_here", "_law_upto"]) fun _ _ _ _ _ _ us hl => match us, hl with | [_, _], _ => rfl
  have F__law_letter := fun_mk (st := s__law_letter) l__law_letter c__law_letter k__law_letter
  have b__law_letter := F__law_letter.binds (ps := ["_law_draws_here"]) fun _ _ _ _ _ _ us hl => match us, hl with | [_], _ => rfl
  have F__law_sequence := fun_mk (st := s__law_sequence) l__law_sequence c__law_sequence k__law_sequence
  have b__law_sequence := F__law_sequence.binds (ps := ["_law_draws_here", "_law_most"]) fun _ _ _ _ _ _ us hl => match us, hl with | [_, _], _ => rfl
  have F__law_program := fun_mk (st := s__law_program) l__law_program c__law_program k__law_program
  have b__law_program := F__law_program.binds (ps := ["_law_draws_here", "_law_depth"]) fun _ _ _ _ _ _ us hl => match us, hl with | [_, _], _ => rfl
  have F__law_rejected := fun_mk (st := s__law_rejected) l__law_rejected c__law_rejected k__law_rejected
  have b__law_rejected := F__law_rejected.binds (ps := ["_law_value"]) fun _ _ _ _ _ _ us hl => match us, hl with | [_], _ => rfl
  have F__law_end := fun_mk (st := s__law_end) l__law_end c__law_end k__law_end
  have b__law_end := F__law_end.binds (ps := ["_law_letters", "_law_count"]) fun _ _ _ _ _ _ us hl => match us, hl with | [_, _], _ => rfl
  have F_law := fun_mk (st := s_law) l_law c_law k_law
  have b_law := F_law.binds (ps := ["_law_script"]) fun _ _ _ _ _ _ us hl => match us, hl with | [_], _ => rfl
  let T : Top K mg := { a_is_int := f_is_int, d_is_int := _, F_is_int := F_is_int, b_is_int := b_is_int, m_is_int := PySem.W.mg_of X G a_is_int, a_is_int_between := f_is_int_between, d_is_int_between := _, F_is_int_between := F_is_int_between, b_is_int_between := b_is_int_between, m_is_int_between := PySem.W.mg_of X G a_is_int_between, a_read_integer := f_read_integer, d_read_integer := _, F_read_integer := F_read_integer, b_read_integer := b_read_integer, m_read_integer := PySem.W.mg_of X G a_read_integer, a_is_count := f_is_count, d_is_count := _, F_is_count := F_is_count, b_is_count := b_is_count, m_is_count := PySem.W.mg_of X G a_is_count, a_last_puts := f_last_puts, d_last_puts := _, F_last_puts := F_last_puts, b_last_puts := b_last_puts, m_last_puts := PySem.W.mg_of X G a_last_puts, a_parts_of := f_parts_of, d_parts_of := _, F_parts_of := F_parts_of, b_parts_of := b_parts_of, m_parts_of := PySem.W.mg_of X G a_parts_of, a_read_parts := f_read_parts, d_read_parts := _, F_read_parts := F_read_parts, b_read_parts := b_read_parts, m_read_parts := PySem.W.mg_of X G a_read_parts, a_end_of_run := f_end_of_run, d_end_of_run := _, F_end_of_run := F_end_of_run, b_end_of_run := b_end_of_run, m_end_of_run := PySem.W.mg_of X G a_end_of_run, a_last_letters := f_last_letters, d_last_letters := _, F_last_letters := F_last_letters, b_last_letters := b_last_letters, m_last_letters := PySem.W.mg_of X G a_last_letters, a_last_letters_of_part := f_last_letters_of_part, d_last_letters_of_part := _, F_last_letters_of_part := F_last_letters_of_part, b_last_letters_of_part := b_last_letters_of_part, m_last_letters_of_part := PySem.W.mg_of X G a_last_letters_of_part, a_ending := f_ending, d_ending := _, F_ending := F_ending, b_ending := b_ending, m_ending := PySem.W.mg_of X G a_ending, a__law_draws := f__law_draws, d__law_draws := _, F__law_draws := F__law_draws, b__law_draws := b__law_draws, m__law_draws := PySem.W.mg_of X G a__law_draws, a__law_draw := f__law_draw, d__law_draw := _, F__law_draw := F__law_draw, b__law_draw := b__law_draw, m__law_draw := PySem.W.mg_of X G a__law_draw, a__law_letter := f__law_letter, d__law_letter := _, F__law_letter := F__law_letter, b__law_letter := b__law_letter, m__law_letter := PySem.W.mg_of X G a__law_letter, a__law_sequence := f__law_sequence, d__law_sequence := _, F__law_sequence := F__law_sequence, b__law_sequence := b__law_sequence, m__law_sequence := PySem.W.mg_of X G a__law_sequence, a__law_program := f__law_program, d__law_program := _, F__law_program := F__law_program, b__law_program := b__law_program, m__law_program := PySem.W.mg_of X G a__law_program, a__law_rejected := f__law_rejected, d__law_rejected := _, F__law_rejected := F__law_rejected, b__law_rejected := b__law_rejected, m__law_rejected := PySem.W.mg_of X G a__law_rejected, a__law_end := f__law_end, d__law_end := _, F__law_end := F__law_end, b__law_end := b__law_end, m__law_end := PySem.W.mg_of X G a__law_end, a_law := fa, d_law := _, F_law := F_law, b_law := b_law, m_law := PySem.W.mg_of X G a_law, z_bool := PySem.W.mg_none_of X G z_bool, z_int := PySem.W.mg_none_of X G z_int, z_isinstance := PySem.W.mg_none_of X G z_isinstance, z_len := PySem.W.mg_none_of X G z_len, z_max := PySem.W.mg_none_of X G z_max, z_min := PySem.W.mg_none_of X G z_min, z_range := PySem.W.mg_none_of X G z_range, z_str := PySem.W.mg_none_of X G z_str, u_DIGITS := u_DIGITS, c_DIGITS := PySem.W.mg_of X G n_DIGITS, u_MOST_DIGITS := u_MOST_DIGITS, c_MOST_DIGITS := PySem.W.mg_of X G n_MOST_DIGITS, u_TAKE := u_TAKE, c_TAKE := PySem.W.mg_of X G n_TAKE, w_TAKE := w_TAKE, u_STEPS := u_STEPS, c_STEPS := PySem.W.mg_of X G n_STEPS, u_MOST_COUNT := u_MOST_COUNT, c_MOST_COUNT := PySem.W.mg_of X G n_MOST_COUNT, u_MOST_DEPTH := u_MOST_DEPTH, c_MOST_DEPTH := PySem.W.mg_of X G n_MOST_DEPTH, u_MOST_STEPS := u_MOST_STEPS, c_MOST_STEPS := PySem.W.mg_of X G n_MOST_STEPS, x_InvalidProgram := x_InvalidProgram, g_InvalidProgram := PySem.W.mg_of X G gx_InvalidProgram, q_InvalidProgram := q_InvalidProgram, k_InvalidProgram := k_InvalidProgram, b_InvalidProgram := b_InvalidProgram, t_InvalidProgram := t_InvalidProgram, e_InvalidProgram := exm_self b_InvalidProgram i_InvalidProgram t_InvalidProgram s_InvalidProgram, x_InvalidInteger := x_InvalidInteger, g_InvalidInteger := PySem.W.mg_of X G gx_InvalidInteger, q_InvalidInteger := q_InvalidInteger, k_InvalidInteger := k_InvalidInteger, b_InvalidInteger := b_InvalidInteger, t_InvalidInteger := t_InvalidInteger, e_InvalidInteger := exm_self b_InvalidInteger i_InvalidInteger t_InvalidInteger s_InvalidInteger, ne_InvalidInteger_InvalidProgram := exm_of b_InvalidProgram i_InvalidProgram t_InvalidProgram ne_InvalidInteger_InvalidProgram }
  exact ⟨T.d_law, fun s v => .of_eq rfl, fun base _ _ => ok_law (w := w) (base := base) T⟩
theorem walkT {l : PySem.W.OpenLaw} {q : Program} {loose : List Str} {XP : (Str → Option Value) → Heap → Prop} {YP : World → Heap → Prop} {d : DefRec} {K : Params → PySem.W.Frag}
    (hY : ∀ (w : World) (h : Heap), YP w h → (K w.params).In h)
    (F : ∀ (w : World) (mg : Str → Option Value) (fa : Addr) (h : Heap), (K w.params).In h → h.Ns mainGlobals mg → mg d.name = some (.ref fa) →
      ∃ fd : FuncData, (∀ (s : Shared) (u : Value), BindsTo s fd ⟨[u], []⟩ [("_law_script", u)]) ∧ ∀ base : Heap, (K w.params).In base → base.Ns mainGlobals mg → FnOkN 273 l.prog w (K w.params) mg base CX0 46 fa fd ["_law_script"] (spLaw (K w.params))) :
    WalkN 273 63 l q loose XP YP d :=
  walkN_of (k := 46) (x := "_law_script") (CX := fun _ => CX0) (sp := fun w => spLaw (K w.params)) (by decide) ⟨rfl, by decide, by decide⟩ hY (fun w mg fa h a b c => by
    obtain ⟨fd, e1, e2⟩ := F w mg fa h a b c
    exact ⟨fd, e1, fun base x y => e2 base x y⟩) (fun _ _ a ns hl _ hS => ⟨a, ns, rfl, hS, hl, fun _ => rfl⟩) fun _ _ _ _ _ z => z
end My
open PySem PySem.W PyProof.Rows
set_option maxRecDepth 100000 in
set_option maxHeartbeats 0 in
theorem PySem.Challenge.cw_fullqueue_k05_last_letters_put_holds : PySem.Challenge.rw_fullqueue_k05_last_letters_put.Holds := by
  w_on; o_law
  refine My.holds_lawT (l := PySem.Challenge.rw_fullqueue_k05_last_letters_put) (n := 273) (m := 63) (q := My.aux.view_1) (loose := [Str.ofString "MOST_COUNT"]) (XP := XL My.aux.view_1 [(Str.ofString "MOST_COUNT", WData.int 1000000000000000000000000000000)]) (YP := My.hook.says) rfl ?hdf My.left My.hook.of My.hook.keeps (fun s e => xl_of s (Bool.and_eq_true_iff.mp e).1) XL.keeps (by rfl) (by rfl) (by rfl) (fun s _ => My.recFacts_nil _) rfl (by assumption) (by decide +kernel) ⟨rfl, rfl, rfl, rfl, rfl, by decide +kernel⟩ ?hw ?hc
  case hdf => rfl
  case hw => w_witness2
  case hc =>
    refine My.walkT (l := PySem.Challenge.rw_fullqueue_k05_last_letters_put) (K := My.K) (fun w h Y => PySem.W.kIn_of Y) ?F
    case F =>
      intro w mg fa h KX G hmg
      refine' My.all_mk KX G hmg ?a_is_int ?l_is_int ?c_is_int ?k_is_int ?a_is_int_between ?l_is_int_between ?c_is_int_between ?k_is_int_between ?a_read_integer ?l_read_integer ?c_read_integer ?k_read_integer ?a_is_count ?l_is_count ?c_is_count ?k_is_count ?a_last_puts ?l_last_puts ?c_last_puts ?k_last_puts ?a_parts_of ?l_parts_of ?c_parts_of ?k_parts_of ?a_read_parts ?l_read_parts ?c_read_parts ?k_read_parts ?a_end_of_run ?l_end_of_run ?c_end_of_run ?k_end_of_run ?a_last_letters ?l_last_letters ?c_last_letters ?k_last_letters ?a_last_letters_of_part ?l_last_letters_of_part ?c_last_letters_of_part ?k_last_letters_of_part ?a_ending ?l_ending ?c_ending ?k_ending ?a__law_draws ?l__law_draws ?c__law_draws ?k__law_draws ?a__law_draw ?l__law_draw ?c__law_draw ?k__law_draw ?a__law_letter ?l__law_letter ?c__law_letter ?k__law_letter ?a__law_sequence ?l__law_sequence ?c__law_sequence ?k__law_sequence ?a__law_program ?l__law_program ?c__law_program ?k__law_program ?a__law_rejected ?l__law_rejected ?c__law_rejected ?k__law_rejected ?a__law_end ?l__law_end ?c__law_end ?k__law_end ?a_law ?l_law ?c_law ?k_law ?z_bool ?z_int ?z_isinstance ?z_len ?z_max ?z_min ?z_range ?z_str ?n_DIGITS ?n_MOST_DIGITS ?n_TAKE ?w_TAKE ?n_STEPS ?n_MOST_COUNT ?n_MOST_DEPTH ?n_MOST_STEPS ?gx_InvalidProgram ?q_InvalidProgram ?k_InvalidProgram ?b_InvalidProgram ?t_InvalidProgram ?i_InvalidProgram ?s_InvalidProgram ?gx_InvalidInteger ?q_InvalidInteger ?k_InvalidInteger ?b_InvalidInteger ?t_InvalidInteger ?i_InvalidInteger ?s_InvalidInteger ?ne_InvalidInteger_InvalidProgram
      (case a_is_int => first | rfl | with_unfolding_all rfl | kernel_rfl)
      (case l_is_int => first | rfl | with_unfolding_all rfl | kernel_rfl)
      (case c_is_int => first | rfl | with_unfolding_all rfl | kernel_rfl)
      (case k_is_int => first | rfl | with_unfolding_all rfl | kernel_rfl)
      (case a_is_int_between => first | rfl | with_unfolding_all rfl | kernel_rfl)
      (case l_is_int_between => first | rfl | with_unfolding_all rfl | kernel_rfl)
      (case c_is_int_between => first | rfl | with_unfolding_all rfl | kernel_rfl)
      (case k_is_int_between => first | rfl | with_unfolding_all rfl | kernel_rfl)
      (case a_read_integer => first | rfl | with_unfolding_all rfl | kernel_rfl)
      (case l_read_integer => first | rfl | with_unfolding_all rfl | kernel_rfl)
      (case c_read_integer => first | rfl | with_unfolding_all rfl | kernel_rfl)
      (case k_read_integer => first | rfl | with_unfolding_all rfl | kernel_rfl)
      (case a_is_count => first | rfl | with_unfolding_all rfl | kernel_rfl)
      (case l_is_count => first | rfl | with_unfolding_all rfl | kernel_rfl)
      (case c_is_count => first | rfl | with_unfolding_all rfl | kernel_rfl)
      (case k_is_count => first | rfl | with_unfolding_all rfl | kernel_rfl)
      (case a_last_puts => first | rfl | with_unfolding_all rfl | kernel_rfl)
      (case l_last_puts => first | rfl | with_unfolding_all rfl | kernel_rfl)
      (case c_last_puts => first | rfl | with_unfolding_all rfl | kernel_rfl)
      (case k_last_puts => first | rfl | with_unfolding_all rfl | kernel_rfl)
      (case a_parts_of => first | rfl | with_unfolding_all rfl | kernel_rfl)
      (case l_parts_of => first | rfl | with_unfolding_all rfl | kernel_rfl)
      (case c_parts_of => first | rfl | with_unfolding_all rfl | kernel_rfl)
      (case k_parts_of => first | rfl | with_unfolding_all rfl | kernel_rfl)
      (case a_read_parts => first | rfl | with_unfolding_all rfl | kernel_rfl)
      (case l_read_parts => first | rfl | with_unfolding_all rfl | kernel_rfl)
      (case c_read_parts => first | rfl | with_unfolding_all rfl | kernel_rfl)
      (case k_read_parts => first | rfl | with_unfolding_all rfl | kernel_rfl)
      (case a_end_of_run => first | rfl | with_unfolding_all rfl | kernel_rfl)
      (case l_end_of_run => first | rfl | with_unfolding_all rfl | kernel_rfl)
      (case c_end_of_run => first | rfl | with_unfolding_all rfl | kernel_rfl)
      (case k_end_of_run => first | rfl | with_unfolding_all rfl | kernel_rfl)
      (case a_last_letters => first | rfl | with_unfolding_all rfl | kernel_rfl)
      (case l_last_letters => first | rfl | with_unfolding_all rfl | kernel_rfl)
      (case c_last_letters => first | rfl | with_unfolding_all rfl | kernel_rfl)
      (case k_last_letters => first | rfl | with_unfolding_all rfl | kernel_rfl)
      (case a_last_letters_of_part => first | rfl | with_unfolding_all rfl | kernel_rfl)
      (case l_last_letters_of_part => first | rfl | with_unfolding_all rfl | kernel_rfl)
      (case c_last_letters_of_part => first | rfl | with_unfolding_all rfl | kernel_rfl)
      (case k_last_letters_of_part => first | rfl | with_unfolding_all rfl | kernel_rfl)
      (case a_ending => first | rfl | with_unfolding_all rfl | kernel_rfl)
      (case l_ending => first | rfl | with_unfolding_all rfl | kernel_rfl)
      (case c_ending => first | rfl | with_unfolding_all rfl | kernel_rfl)
      (case k_ending => first | rfl | with_unfolding_all rfl | kernel_rfl)
      (case a__law_draws => first | rfl | with_unfolding_all rfl | kernel_rfl)
      (case l__law_draws => first | rfl | with_unfolding_all rfl | kernel_rfl)
      (case c__law_draws => first | rfl | with_unfolding_all rfl | kernel_rfl)
      (case k__law_draws => first | rfl | with_unfolding_all rfl | kernel_rfl)
      (case a__law_draw => first | rfl | with_unfolding_all rfl | kernel_rfl)
      (case l__law_draw => first | rfl | with_unfolding_all rfl | kernel_rfl)
      (case c__law_draw => first | rfl | with_unfolding_all rfl | kernel_rfl)
      (case k__law_draw => first | rfl | with_unfolding_all rfl | kernel_rfl)
      (case a__law_letter => first | rfl | with_unfolding_all rfl | kernel_rfl)
      (case l__law_letter => first | rfl | with_unfolding_all rfl | kernel_rfl)
      (case c__law_letter => first | rfl | with_unfolding_all rfl | kernel_rfl)
      (case k__law_letter => first | rfl | with_unfolding_all rfl | kernel_rfl)
      (case a__law_sequence => first | rfl | with_unfolding_all rfl | kernel_rfl)
      (case l__law_sequence => first | rfl | with_unfolding_all rfl | kernel_rfl)
      (case c__law_sequence => first | rfl | with_unfolding_all rfl | kernel_rfl)
      (case k__law_sequence => first | rfl | with_unfolding_all rfl | kernel_rfl)
      (case a__law_program => first | rfl | with_unfolding_all rfl | kernel_rfl)
      (case l__law_program => first | rfl | with_unfolding_all rfl | kernel_rfl)
      (case c__law_program => first | rfl | with_unfolding_all rfl | kernel_rfl)
      (case k__law_program => first | rfl | with_unfolding_all rfl | kernel_rfl)
      (case a__law_rejected => first | rfl | with_unfolding_all rfl | kernel_rfl)
      (case l__law_rejected => first | rfl | with_unfolding_all rfl | kernel_rfl)
      (case c__law_rejected => first | rfl | with_unfolding_all rfl | kernel_rfl)
      (case k__law_rejected => first | rfl | with_unfolding_all rfl | kernel_rfl)
      (case a__law_end => first | rfl | with_unfolding_all rfl | kernel_rfl)
      (case l__law_end => first | rfl | with_unfolding_all rfl | kernel_rfl)
      (case c__law_end => first | rfl | with_unfolding_all rfl | kernel_rfl)
      (case k__law_end => first | rfl | with_unfolding_all rfl | kernel_rfl)
      (case a_law => first | rfl | with_unfolding_all rfl | kernel_rfl)
      (case l_law => first | rfl | with_unfolding_all rfl | kernel_rfl)
      (case c_law => first | rfl | with_unfolding_all rfl | kernel_rfl)
      (case k_law => first | rfl | with_unfolding_all rfl | kernel_rfl)
      (case z_bool => first | rfl | with_unfolding_all rfl | kernel_rfl)
      (case z_int => first | rfl | with_unfolding_all rfl | kernel_rfl)
      (case z_isinstance => first | rfl | with_unfolding_all rfl | kernel_rfl)
      (case z_len => first | rfl | with_unfolding_all rfl | kernel_rfl)
      (case z_max => first | rfl | with_unfolding_all rfl | kernel_rfl)
      (case z_min => first | rfl | with_unfolding_all rfl | kernel_rfl)
      (case z_range => first | rfl | with_unfolding_all rfl | kernel_rfl)
      (case z_str => first | rfl | with_unfolding_all rfl | kernel_rfl)
      (case n_DIGITS => first | rfl | with_unfolding_all rfl | kernel_rfl)
      (case n_MOST_DIGITS => first | rfl | with_unfolding_all rfl | kernel_rfl)
      (case n_TAKE => first | rfl | with_unfolding_all rfl | kernel_rfl)
      (case w_TAKE => decide)
      (case n_STEPS => first | rfl | with_unfolding_all rfl | kernel_rfl)
      (case n_MOST_COUNT => first | rfl | with_unfolding_all rfl | kernel_rfl)
      (case n_MOST_DEPTH => first | rfl | with_unfolding_all rfl | kernel_rfl)
      (case n_MOST_STEPS => first | rfl | with_unfolding_all rfl | kernel_rfl)
      (case gx_InvalidProgram => first | rfl | with_unfolding_all rfl | kernel_rfl)
      (case q_InvalidProgram => first | rfl | with_unfolding_all rfl | kernel_rfl)
      (case k_InvalidProgram => first | rfl | with_unfolding_all rfl | kernel_rfl)
      (case b_InvalidProgram => first | rfl | with_unfolding_all rfl | kernel_rfl)
      (case t_InvalidProgram => first | rfl | with_unfolding_all rfl | kernel_rfl)
      (case i_InvalidProgram => first | rfl | with_unfolding_all rfl | kernel_rfl)
      (case s_InvalidProgram => first | rfl | with_unfolding_all rfl | kernel_rfl)
      (case gx_InvalidInteger => first | rfl | with_unfolding_all rfl | kernel_rfl)
      (case q_InvalidInteger => first | rfl | with_unfolding_all rfl | kernel_rfl)
      (case k_InvalidInteger => first | rfl | with_unfolding_all rfl | kernel_rfl)
      (case b_InvalidInteger => first | rfl | with_unfolding_all rfl | kernel_rfl)
      (case t_InvalidInteger => first | rfl | with_unfolding_all rfl | kernel_rfl)
      (case i_InvalidInteger => first | rfl | with_unfolding_all rfl | kernel_rfl)
      (case s_InvalidInteger => first | rfl | with_unfolding_all rfl | kernel_rfl)
      (case ne_InvalidInteger_InvalidProgram => first | rfl | with_unfolding_all rfl | kernel_rfl)


