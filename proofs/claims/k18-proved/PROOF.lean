import PyProof.Rows.All
import Wide.All
import OpenK.AllK
import Wide.FinOn
import HandS.ForMost
import HandS.More
import HandS.Exc
import HandS.ExcOwn
import HandS.TryOnly
import HandS.WordsExc
import HandS.Flow
import PyProof.Draws
import PyProof.EnumMake
import HandS.Iter
import HandS.AnyAll
import HandS.Lambda
import HandS.TupAny
import HandS.GenList
import PyProof.GenCompD
import PyProof.TupleOfGen
import HandS.Conv
import HandS.HeadHook4
import HandS.HeadWalk
import HandS.HeadNt
import HandS.NestedK
import HandS.Head2
import HandS.DictComp
import HandS.ListItems
import HandS.IsInst
import HandS.SetFor
import HandS.Small
import KE.DataEq
import PySem.Challenge.RW_pagestack_k18_values_that_go_in_time
section
set_option Elab.async false
set_option linter.all false
set_option maxRecDepth 100000
set_option maxHeartbeats 4000000
/-! rules by what the abstract heap holds, one name a built-in; small facts of heaps -/
namespace Vc
open PySem PySem.Spec PyProof.Rows L2
/-! ### heaps -/
theorem same_new {H : Hp} {p : Addr} {o : HO} (hp : H p = none) : Same H (upd H p o) := fun b u hb => by rw [upd_ne (ne_of_none hb hp)]; exact hb
theorem upd_free {H : Hp} {a b : Addr} {o : HO} (h : upd H a o b = none) : b ≠ a ∧ H b = none := by
  by_cases e : b = a
  · subst e; rw [upd_same] at h; cases h
  · exact ⟨e, by rw [upd_ne e] at h; exact h⟩
theorem new_ne {H : Hp} {a b : Addr} {o : HO} (h : H a = some o) (h' : H b = none) : b ≠ a := (ne_of_none h h').symm
theorem len_le {α : Type} {xs : List α} (h : Nat.ble xs.length 1000 = true) : xs.length ≤ sizeLine := Nat.le_trans (Nat.le_of_ble_eq_true h) (by decide)
/-! ### ways -/
theorem itB {c : Prop} [Decidable c] {A B : Prop} (h1 : c → A) (h2 : ¬ c → B) : if decide c = true then A else B := by
  by_cases h : c
  · rw [if_pos (by simpa using h)]; exact h1 h
  · rw [if_neg (by simpa using h)]; exact h2 h
theorem itNB {c : Prop} [Decidable c] {A B : Prop} (h1 : ¬ c → A) (h2 : c → B) : if (!decide c) = true then A else B := by
  by_cases h : c
  · rw [if_neg (by simpa using h)]; exact h2 h
  · rw [if_pos (by simpa using h)]; exact h1 h
theorem itBi {i j : Int} {A B : Prop} (h1 : i = j → A) (h2 : ¬ i = j → B) : if decide (V.int i = V.int j) = true then A else B :=
  itB (fun h => h1 (by cases h; rfl)) (fun h => h2 fun e => h (by rw [e]))
theorem itNBi {i j : Int} {A B : Prop} (h1 : ¬ i = j → A) (h2 : i = j → B) : if (!decide (V.int i = V.int j)) = true then A else B :=
  itNB (fun h => h1 fun e => h (by rw [e])) (fun h => h2 (by cases h; rfl))
theorem itBs {i j : Str} {A B : Prop} (h1 : i = j → A) (h2 : ¬ i = j → B) : if decide (V.str i = V.str j) = true then A else B :=
  itB (fun h => h1 (by cases h; rfl)) (fun h => h2 fun e => h (by rw [e]))
theorem itNBs {i j : Str} {A B : Prop} (h1 : ¬ i = j → A) (h2 : i = j → B) : if (!decide (V.str i = V.str j)) = true then A else B :=
  itNB (fun h => h1 fun e => h (by rw [e])) (fun h => h2 (by cases h; rfl))
theorem itb {c : Bool} {A B : Prop} (h1 : c = true → A) (h2 : c = false → B) : if c = true then A else B := by
  cases c
  · exact iteF (h2 rfl)
  · exact iteT (h1 rfl)
theorem int_eq {i j : Int} (h : V.int i = V.int j) : i = j := by cases h; rfl
theorem str_eq {i j : Str} (h : V.str i = V.str j) : i = j := by cases h; rfl
section
variable {X : Cx} {a b e : Expr} {es : List Expr} {pos p : Pos} {ta tb : TE} {t : TA}
/-! ### a choice of rules -/
theorem pe_either {t u : TE} (h1 : PE X e t) (h2 : PE X e u) : PE X e (fun σ H Q => t σ H Q ∨ u σ H Q) :=
  ⟨fun pins s σ H Q I h => h.elim (fun h => h1.run pins s σ H Q I h) (fun h => h2.run pins s σ H Q I h)⟩
theorem op_either {f : Value → Value → Sem Value} {r r' : R2} (h1 : OpR X f r) (h2 : OpR X f r') : OpR X f (fun x y H Q => r x y H Q ∨ r' x y H Q) := by
  intro pins s σ H x y v u Q I rx ry h
  rcases h with h | h
  · exact h1 pins s σ H x y v u Q I rx ry h
  · exact h2 pins s σ H x y v u Q I rx ry h
/-! ### items of what is held -/
theorem ix_l : IxR X (fun x y H Q => ∃ i, y = .int i ∧ ∃ p xs v, x = .ref p ∧ H p = some (.lst xs) ∧ atI xs i = some v ∧ Q v H) := by
  intro value slice pins s σ H x y v u Q I rx ry h hs
  obtain ⟨i, rfl, p, xs, v', rfl, hp, hv, q⟩ := h
  exact ix_list value slice pins s σ H _ _ v u Q I rx ry ⟨p, xs, i, v', rfl, rfl, SqL.of hp, hv, q⟩ hs
theorem ix_t : IxR X (fun x y H Q => ∃ i, y = .int i ∧ ∃ p xs v, x = .ref p ∧ H p = some (.tup xs) ∧ atI xs i = some v ∧ Q v H) := by
  intro value slice pins s σ H x y v u Q I rx ry h hs
  obtain ⟨i, rfl, p, xs, v', rfl, hp, hv, q⟩ := h
  exact ix_tup value slice pins s σ H _ _ v u Q I rx ry ⟨p, xs, i, v', rfl, rfl, SqT.of hp, hv, q⟩ hs
theorem ix_s : IxR X (fun x y H Q => ∃ i, y = .int i ∧ ∃ z c, x = .str z ∧ z.length ≤ sizeLine ∧ atI z.cps.toList i = some c ∧ Q (.str ⟨#[c]⟩) H) := by
  intro value slice pins s σ H x y v u Q I rx ry h hs
  obtain ⟨i, rfl, z, c, rfl, hz, hc, q⟩ := h
  exact ix_str value slice pins s σ H _ _ v u Q I rx ry ⟨z, i, c, rfl, rfl, hz, hc, q⟩ hs
end

/-! ### rules that tell the written part by a name of its own (within a comprehension) -/
section
variable {X : Cx} {K : PySem.W.Frag} {tg l e o value : Expr} {f : Str} {pos : Pos} {ta tl to : TE} {t : TA}
theorem pi_listK (hK : X.K = K) (hl : PE X l tl) : PI X tg l (iList K tl) := by subst hK; exact pi_list hl
theorem pi_tupK (hK : X.K = K) (hl : PE X l tl) : PI X tg l (iTup K tl) := by subst hK; exact pi_tup hl
theorem pe_fldK (hK : X.K = K) (he : PE X e ta) (hb : attributeBase e f X.env (eval e X.env) = eval e X.env) : PE X (.Attribute e f pos) (tFld K ta f) := by subst hK; exact pe_fld he hb
theorem sl_listK (hK : X.K = K) : SlR X (rSlL K) := by subst hK; exact sl_list
theorem sl_tupK (hK : X.K = K) : SlR X (rSlT K) := by subst hK; exact sl_tup
theorem call_tupleK (hK : X.K = K) : CallR X (.type "tuple") (fun xs H Q => ∃ p ys, xs = [.ref p] ∧ ((SqL K H p ys ∧ ∀ l, H l = none → Q (.ref l) (upd H l (.tup ys))) ∨ (SqT K H p ys ∧ Q (.ref p) H))) := by subst hK; exact call_tuple_of
theorem call_listK (hK : X.K = K) : CallR X (.type "list") (fun xs H Q => ∃ p ys, xs = [.ref p] ∧ (SqL K H p ys ∨ SqT K H p ys) ∧ ∀ l, H l = none → Q (.ref l) (upd H l (.lst ys))) := by subst hK; exact call_list_of
theorem call_lenK (hK : X.K = K) : CallR X (.builtin "len") (fun xs H Q => ∃ p ys, xs = [.ref p] ∧ (SqL K H p ys ∨ SqT K H p ys) ∧ Q (.int ys.length) H) := by subst hK; exact call_len_seq
theorem op_eqK (hK : X.K = K) (hu : X.A.units + 64 < cLine) : OpR X (compareOp .Eq) (rEqD K) := by subst hK; exact op_eqD hu
theorem op_neK (hK : X.K = K) (hu : X.A.units + 64 < cLine) : OpR X (compareOp .NotEq) (rNeD K) := by subst hK; exact op_neD hu
theorem op_inK (hK : X.K = K) : OpR X (compareOp .In) (rIn K false) := by subst hK; exact op_in_seq
theorem op_notInK (hK : X.K = K) : OpR X (compareOp .NotIn) (rIn K true) := by subst hK; exact op_notIn_seq
theorem pe_joinK {e : Expr} {te : TE} {apos : Pos} (hK : X.K = K) (ho : PE X o to) (he : PE X e te) (hs : starEach [e] X.env = [(false, eval e X.env)] := by rfl) (hbase : attributeBase o "join" X.env (eval o X.env) = eval o X.env := by rfl) (hline : (apos.endLine == pos.line) = true := by rfl) :
    PE X (.Call (.Attribute o "join" apos) [e] [] pos) (tM1 (fun x xs H Q => ∃ a p, ∃ ys : List Str, x = .str a ∧ xs = [.ref p] ∧ (SqL K H p (ys.map V.str) ∨ SqT K H p (ys.map V.str)) ∧
      (ys.map (·.length)).sum + ys.length * a.length ≤ 16777216 ∧ Q (.str (Txt.join a ys)) H) to te) := by subst hK; exact pe_join ho he hs hbase hline
end
/-! ### names of built-ins -/
/-- no name of the module hides a built-in that the text calls -/
structure BIs (mg : Str → Option Value) : Prop where
  abs : mg "abs" = none
  int : mg "int" = none
  len : mg "len" = none
  min : mg "min" = none
  max : mg "max" = none
  sorted : mg "sorted" = none
  tuple : mg "tuple" = none
  list : mg "list" = none
  dict : mg "dict" = none
  str : mg "str" = none
  range : mg "range" = none
  zip : mg "zip" = none
  enumerate : mg "enumerate" = none
  sum : mg "sum" = none
  any : mg "any" = none
  all : mg "all" = none
  isinstance : mg "isinstance" = none
  reversed : mg "reversed" = none
  bool : mg "bool" = none
theorem b_abs : bootBuiltins "abs" = some (.builtin "abs") := by decide +kernel
theorem b_int : bootBuiltins "int" = some (.type "int") := by decide +kernel
theorem b_len : bootBuiltins "len" = some (.builtin "len") := by decide +kernel
theorem b_min : bootBuiltins "min" = some (.builtin "min") := by decide +kernel
theorem b_max : bootBuiltins "max" = some (.builtin "max") := by decide +kernel
theorem b_sorted : bootBuiltins "sorted" = some (.builtin "sorted") := by decide +kernel
theorem b_tuple : bootBuiltins "tuple" = some (.type "tuple") := by decide +kernel
theorem b_list : bootBuiltins "list" = some (.type "list") := by decide +kernel
theorem b_dict : bootBuiltins "dict" = some (.type "dict") := by decide +kernel
theorem b_str : bootBuiltins "str" = some (.type "str") := by decide +kernel
theorem b_range : bootBuiltins "range" = some (.type "range") := by decide +kernel
theorem b_zip : bootBuiltins "zip" = some (.type "zip") := by decide +kernel
theorem b_enumerate : bootBuiltins "enumerate" = some (.type "enumerate") := by decide +kernel
end Vc
end
section
set_option Elab.async false
set_option linter.all false
set_option maxRecDepth 100000
set_option maxHeartbeats 4000000
namespace My
open PySem L2
/-! ### the reader of terms -/
local macro_rules | `(tactic| tm_at "ne") => `(tactic| first | assumption | (apply Ne.symm; assumption) | exact Vc.new_ne (by assumption) (by assumption) | exact ne_of_none (by assumption) (by assumption))
local macro_rules | `(tactic| tm_at "hp") => `(tactic| first | assumption | exact upd_same | (rw [upd_ne (by tm_at "ne")]; tm_at "hp"))
local macro_rules | `(tactic| tm_at "sd") => `(tactic| first | assumption | rfl | decide | exact ⟨by assumption, by assumption⟩ | exact Or.inl ⟨by omega, by omega⟩ | exact ⟨by decide, by decide, by decide⟩ | exact Or.inr ⟨by decide, by decide⟩ | exact Or.inl ⟨by decide, by decide⟩ | exact ⟨by decide, by decide⟩ | omega)
local macro_rules | `(tactic| tm_at "rN") => `(tactic| (intro pN hN; repeat (with_reducible (have hq := Vc.upd_free hN); obtain ⟨_, hN⟩ := hq)))
local macro_rules | `(tactic| tm_at "r1") => `(tactic| first
  | tm_at "rX"
  | refine ⟨_, _, rfl, rfl, ?_⟩
  | refine ⟨_, _, _, rfl, (by tm_at "hp"), (by tm_at "lk"), ?_⟩
  | refine ⟨_, _, rfl, ?_⟩
  | refine And.intro (rfl : ([] : List V) = []) ?_
  | refine ⟨_, _, rfl, SqT.of (by tm_at "hp"), (by rfl), ?_⟩
  | refine ⟨_, rfl, _, _, _, rfl, (by tm_at "hp"), (by rfl), ?_⟩
  | refine ⟨_, _, _, _, rfl, rfl, (by tm_at "hp"), (by rfl), ?_⟩
  | refine ⟨_, rfl, ?_⟩
  | refine ⟨_, _, _, _, _, rfl, (by tm_at "hp"), (by assumption), (by assumption), (by tm_at "lk"), ?_⟩
  | refine And.intro (rfl : scal _ _ = true) ?_
  | refine And.intro (Vc.len_le (by rfl)) ?_
  | refine And.intro (by tm_at "sd") ?_
  | refine Or.inl ⟨_, rfl, ?_⟩
  | refine Or.inr ⟨_, rfl, ?_⟩
  | refine Vc.itBi (fun _ => ?_) (fun _ => ?_) | refine Vc.itNBi (fun _ => ?_) (fun _ => ?_) | refine Vc.itBs (fun _ => ?_) (fun _ => ?_) | refine Vc.itNBs (fun _ => ?_) (fun _ => ?_)
  | refine Vc.itB (fun _ => ?_) (fun _ => ?_)
  | refine Vc.itNB (fun _ => ?_) (fun _ => ?_)
  | refine iteT ?_ | refine iteF ?_
  | tm_at "rN")
local macro_rules | `(tactic| tm_at "lk") => `(tactic| first | rfl | decide)
/-! ### data held by the abstract heap -/
section
variable {K : PySem.W.Frag} {H H' : Hp}
theorem Same.sqT {a : Addr} {xs : List V} (e : Same H H') (h : SqT K H a xs) : SqT K H' a xs := by
  rcases h with (h | ⟨o, h⟩) | h
  · exact .inl (.inl (e _ _ h))
  · exact .inl (.inr ⟨o, e _ _ h⟩)
  · exact .inr h
mutual
theorem dp_same (e : Same H H') : ∀ {v : V} {d : PyData}, Dp K H v d → Dp K H' v d
  | _, _, .non => .non
  | _, _, .bl b => .bl b
  | _, _, .int i => .int i
  | _, _, .str x => .str x
  | _, _, .lst h r => .lst (e.seq h) (dpAll_same e r)
  | _, _, .tup h r => .tup (Same.sqT e h) (dpAll_same e r)
theorem dpAll_same (e : Same H H') : ∀ {vs : List V} {ds : List PyData}, DpAll K H vs ds → DpAll K H' vs ds
  | _, _, .nil => .nil
  | _, _, .cons h r => .cons (dp_same e h) (dpAll_same e r)
end
theorem dp_list {v : V} {ds : List PyData} (h : Dp K H v (.list ds)) : ∃ a xs, v = .ref a ∧ SqL K H a xs ∧ DpAll K H xs ds := by
  cases h with
  | lst h r => exact ⟨_, _, rfl, h, r⟩
theorem dp_tup {v : V} {ds : List PyData} (h : Dp K H v (.tuple ds)) : ∃ a xs, v = .ref a ∧ SqT K H a xs ∧ DpAll K H xs ds := by
  cases h with
  | tup h r => exact ⟨_, _, rfl, h, r⟩
theorem dp_str {v : V} {x : Str} (h : Dp K H v (.str x)) : v = .str x := by cases h; rfl
theorem dp_int {v : V} {i : Int} (h : Dp K H v (.int i)) : v = .int i := by cases h; rfl
theorem dp_non {v : V} (h : Dp K H v .none) : v = .non := by cases h; rfl
theorem dpAll_len : ∀ {vs : List V} {ds : List PyData}, DpAll K H vs ds → vs.length = ds.length
  | _, _, .nil => rfl
  | _, _, .cons _ r => by rw [List.length_cons, List.length_cons, dpAll_len r]
theorem dpAll_get : ∀ {vs : List V} {ds : List PyData} {i : Nat} {v : V}, DpAll K H vs ds → vs[i]? = some v → ∃ d, ds[i]? = some d ∧ Dp K H v d
  | _, _, _, _, .nil, e => by simp at e
  | _, _, 0, _, .cons h _, e => by simp at e; subst e; exact ⟨_, rfl, h⟩
  | _, _, i + 1, _, .cons _ r, e => by
    obtain ⟨d, h1, h2⟩ := dpAll_get (i := i) r (by simpa using e)
    exact ⟨d, by simpa using h1, h2⟩
theorem dpAll_snoc : ∀ {vs : List V} {ds : List PyData} {v : V} {d : PyData}, DpAll K H vs ds → Dp K H v d → DpAll K H (vs ++ [v]) (ds ++ [d])
  | _, _, _, _, .nil, h => .cons h .nil
  | _, _, _, _, .cons a r, h => .cons a (dpAll_snoc r h)
theorem dpAll_cons {vs : List V} {d : PyData} {ds : List PyData} (h : DpAll K H vs (d :: ds)) : ∃ v r, vs = v :: r ∧ Dp K H v d ∧ DpAll K H r ds := by
  cases h with
  | cons a b => exact ⟨_, _, rfl, a, b⟩
theorem dpAll_nil {vs : List V} (h : DpAll K H vs []) : vs = [] := by cases h; rfl
end
/-- the data of turns of a comprehension -/
def upto (n : Nat) (d : Nat → PyData) : List PyData := (List.range n).map d
theorem upto_succ (n : Nat) (d : Nat → PyData) : upto (n + 1) d = upto n d ++ [d n] := by
  unfold upto
  rw [List.range_succ, List.map_append]
  rfl
theorem upto_len (n : Nat) (d : Nat → PyData) : (upto n d).length = n := by simp [upto]
/-! ### lists that grow: what is held without them -/
def off (S : List Addr) (H : Hp) : Hp := fun b => if b ∈ S then none else H b
/-- each of them is a list -/
def OpenL (S : List Addr) (H : Hp) : Prop := ∀ b, b ∈ S → ∃ l, H b = some (.lst l)
theorem OpenL.same {S : List Addr} {H H' : Hp} (h : OpenL S H) (e : Same H H') : OpenL S H' := fun b hb => by
  obtain ⟨l, q⟩ := h b hb
  exact ⟨l, e _ _ q⟩
theorem off_same {S : List Addr} {H H' : Hp} (e : Same H H') : Same (off S H) (off S H') := fun b o h => by
  unfold off at h ⊢
  by_cases hb : b ∈ S
  · rw [if_pos hb] at h; cases h
  · rw [if_neg hb] at h ⊢; exact e _ _ h
theorem off_cons {S : List Addr} {D : Addr} {H : Hp} : Same (off (D :: S) H) (off S H) := fun b o h => by
  unfold off at h ⊢
  by_cases hb : b ∈ D :: S
  · rw [if_pos hb] at h; cases h
  · rw [if_neg hb] at h; rw [if_neg fun z => hb (List.mem_cons_of_mem _ z)]; exact h
theorem off_upd {S : List Addr} {D : Addr} {H : Hp} {o : HO} : off (D :: S) (upd H D o) = off (D :: S) H := by
  funext b
  unfold off
  by_cases hb : b ∈ D :: S
  · rw [if_pos hb, if_pos hb]
  · rw [if_neg hb, if_neg hb, upd_ne fun z => hb (by rw [z]; exact List.mem_cons_self)]
theorem off_at {S : List Addr} {H : Hp} {b : Addr} {o : HO} (h : H b = some o) (n : b ∉ S) : off S H b = some o := by
  unfold off; rw [if_neg n]; exact h
theorem off_tup {S : List Addr} {H : Hp} {b : Addr} {xs : List V} (hS : OpenL S H) (h : H b = some (.tup xs)) : off S H b = some (.tup xs) := off_at h fun z => by
  obtain ⟨l, q⟩ := hS b z
  rw [h] at q; cases q
theorem off_new {S : List Addr} {H : Hp} {p : Addr} {o : HO} (hS : OpenL S H) (h : H p = none) : off S (upd H p o) p = some o := off_at upd_same fun z => by
  obtain ⟨l, q⟩ := hS p z
  rw [h] at q; cases q
theorem off_nil {H : Hp} : off [] H = H := by funext b; unfold off; rw [if_neg (by simp)]
section
variable {K : PySem.W.Frag}
/-- [elt for x in range(..)], x in the slot k: each turn leaves all as it was and gives the data of its turn -/
theorem lc_rangeD {lo : Int} {n k : Nat} {te : TE} {vs : List Nat} {σ : St} {H1 : Hp} {D : Addr} {Qd : Hp → Prop} (S : List Addr) (d : Nat → PyData) (hn : n ≤ 100000) (hD : H1 D = none) (hS : OpenL S H1)
    (hw : ∀ x, wipe ((wipe σ vs).set k (some x)) vs = wipe σ vs)
    (turn : ∀ (i : Nat) (H : Hp) (Q : VK), i < n → Same H1 H → OpenL (D :: S) H → (∀ y H', Same H H' → Dp K (off (D :: S) H') y (d i) → Q y H') → te ((wipe σ vs).set k (some (.int (lo + i)))) H Q)
    (hd : ∀ H, Same H1 H → Dp K (off S H) (.ref D) (.list (upto n d)) → Qd H) :
    ∃ W : Nat → Nat → Hp → Prop, (∃ m, W 0 m (upd H1 D (.lst []))) ∧ ∀ i m H, W i m H →
      ((Itr lo n).stop i H ∧ Qd H) ∨ ((Itr lo n).go i H ∧ ∃ Nx : Hp → Prop, (∀ H', Nx H' → ∃ m', m' < m ∧ W (i + 1) m' H') ∧ ∀ x H', (Itr lo n).yld i H x H' → gName k x (wipe σ vs) H' fun σ2 H2 => wipe σ2 vs = wipe σ vs ∧ tYes σ2 H2 fun b H3 =>
        if b = true then te σ2 H3 fun y H4 => ∃ acc, H4 D = some (.lst acc) ∧ acc.length < sizeLine ∧ Nx (upd H4 D (.lst (acc ++ [y]))) else Nx H3) := by
  have nS : D ∉ S := fun z => by
    obtain ⟨l, q⟩ := hS D z
    rw [hD] at q; cases q
  have keep : ∀ {H : Hp} {o : HO}, Same H1 H → Same H1 (upd H D o) := fun {H o} e b u hb => by
    rw [upd_ne (ne_of_none hb hD)]
    exact e b u hb
  refine lc_range (fun i H => Same H1 H ∧ ∃ acc, H D = some (.lst acc) ∧ acc.length = i ∧ DpAll K (off (D :: S) H) acc (upto i d)) ⟨keep (Same.refl _), [], upd_same, rfl, .nil⟩ ?_ ?_
  · rintro i H hi ⟨e, acc, ha, hl, hv⟩
    refine ⟨hw _, ?_⟩
    refine turn i H _ hi e (fun b hb => ?_) fun y H' e' dy => ⟨acc, e' _ _ ha, by rw [hl]; exact Nat.lt_of_lt_of_le (Nat.lt_of_lt_of_le hi hn) (by decide), keep (e.trans e'), acc ++ [y], upd_same, by simp [hl], ?_⟩
    · rcases List.mem_cons.mp hb with z | z
      · rw [z]; exact ⟨acc, ha⟩
      · exact hS.same e b z
    · rw [off_upd, upto_succ]
      exact dpAll_snoc (dpAll_same (off_same e') hv) dy
  · rintro H ⟨e, acc, ha, hl, hv⟩
    exact hd H e (.lst (SqL.of (off_at ha nS)) (dpAll_same off_cons hv))
/-- [elt for x in xs], xs a list that stays -/
theorem lc_listD {a : Addr} {xs : List V} {k : Nat} {te : TE} {vs : List Nat} {σ : St} {H1 : Hp} {D : Addr} {Qd : Hp → Prop} (S : List Addr) (d : Nat → PyData) (hn : xs.length ≤ 100000) (hx : SqL K H1 a xs) (hD : H1 D = none) (hS : OpenL S H1)
    (hw : ∀ x, wipe ((wipe σ vs).set k (some x)) vs = wipe σ vs)
    (turn : ∀ (i : Nat) (x : V) (H : Hp) (Q : VK), xs[i]? = some x → Same H1 H → OpenL (D :: S) H → (∀ y H', Same H H' → Dp K (off (D :: S) H') y (d i) → Q y H') → te ((wipe σ vs).set k (some x)) H Q)
    (hd : ∀ H, Same H1 H → Dp K (off S H) (.ref D) (.list (upto xs.length d)) → Qd H) :
    ∃ W : Nat → Nat → Hp → Prop, (∃ m, W 0 m (upd H1 D (.lst []))) ∧ ∀ i m H, W i m H →
      ((Itl K a).stop i H ∧ Qd H) ∨ ((Itl K a).go i H ∧ ∃ Nx : Hp → Prop, (∀ H', Nx H' → ∃ m', m' < m ∧ W (i + 1) m' H') ∧ ∀ x H', (Itl K a).yld i H x H' → gName k x (wipe σ vs) H' fun σ2 H2 => wipe σ2 vs = wipe σ vs ∧ tYes σ2 H2 fun b H3 =>
        if b = true then te σ2 H3 fun y H4 => ∃ acc, H4 D = some (.lst acc) ∧ acc.length < sizeLine ∧ Nx (upd H4 D (.lst (acc ++ [y]))) else Nx H3) := by
  have nS : D ∉ S := fun z => by
    obtain ⟨l, q⟩ := hS D z
    rw [hD] at q; cases q
  have keep : ∀ {H : Hp} {o : HO}, Same H1 H → Same H1 (upd H D o) := fun {H o} e b u hb => by
    rw [upd_ne (ne_of_none hb hD)]
    exact e b u hb
  refine lc_list (K := K) (a := a) (xs := xs) (fun i H => Same H1 H ∧ ∃ acc, H D = some (.lst acc) ∧ acc.length = i ∧ DpAll K (off (D :: S) H) acc (upto i d)) ⟨keep (Same.refl _), [], upd_same, rfl, .nil⟩ (fun i H _ p => p.1.seq hx) ?_ ?_
  · rintro i x H hi ⟨e, acc, ha, hl, hv⟩
    have hil : i < xs.length := (List.getElem?_eq_some_iff.mp hi).1
    refine ⟨hw _, ?_⟩
    refine turn i x H _ hi e (fun b hb => ?_) fun y H' e' dy => ⟨acc, e' _ _ ha, by rw [hl]; exact Nat.lt_of_lt_of_le (Nat.lt_of_lt_of_le hil hn) (by decide), keep (e.trans e'), acc ++ [y], upd_same, by simp [hl], ?_⟩
    · rcases List.mem_cons.mp hb with z | z
      · rw [z]; exact ⟨acc, ha⟩
      · exact hS.same e b z
    · rw [off_upd, upto_succ]
      exact dpAll_snoc (dpAll_same (off_same e') hv) dy
  · rintro H ⟨e, acc, ha, hl, hv⟩
    exact hd H e (.lst (SqL.of (off_at ha nS)) (dpAll_same off_cons hv))
end
/-! ### shapes of data -/
theorem can_upto {n : Nat} {d : Nat → PyData} (h : ∀ i, i < n → (d i).canLay0 = true) : PyData.canLayAll0 (upto n d) = true := by
  have : ∀ l : List Nat, (∀ i ∈ l, (d i).canLay0 = true) → PyData.canLayAll0 (l.map d) = true := by
    intro l
    induction l with
    | nil => intro _; rfl
    | cons a r ih =>
      intro h
      rw [List.map_cons, PyData.canLayAll0, h a List.mem_cons_self, ih fun i hi => h i (List.mem_cons_of_mem _ hi)]
      rfl
  exact this _ fun i hi => h i (List.mem_range.mp hi)
end My
end
section
set_option Elab.async false
set_option linter.all false
set_option maxRecDepth 100000
set_option maxHeartbeats 4000000
namespace My
open PySem L2
/-! ### the reader of terms -/
local macro_rules | `(tactic| tm_at "ne") => `(tactic| first | assumption | (apply Ne.symm; assumption) | exact Vc.new_ne (by assumption) (by assumption) | exact ne_of_none (by assumption) (by assumption))
local macro_rules | `(tactic| tm_at "hp") => `(tactic| first | assumption | exact upd_same | (rw [upd_ne (by tm_at "ne")]; tm_at "hp"))
local macro_rules | `(tactic| tm_at "sd") => `(tactic| first | assumption | rfl | decide | exact ⟨by assumption, by assumption⟩ | exact Or.inl ⟨by omega, by omega⟩ | exact ⟨by decide, by decide, by decide⟩ | exact Or.inr ⟨by decide, by decide⟩ | exact Or.inl ⟨by decide, by decide⟩ | exact ⟨by decide, by decide⟩ | omega)
local macro_rules | `(tactic| tm_at "rN") => `(tactic| first | (refine fun (pN : Addr) (hN : _ = none) => ?_; repeat (with_reducible (have hq := Vc.upd_free hN); clear hN; obtain ⟨_, hN⟩ := hq)) | (refine fun (xN dN : Addr) (hN : _ = none) (hM : _ = none) (hE : dN ≠ xN) => ?_; repeat (with_reducible (have hq := Vc.upd_free hN); clear hN; obtain ⟨_, hN⟩ := hq); repeat (with_reducible (have hq := Vc.upd_free hM); clear hM; obtain ⟨_, hM⟩ := hq)))
local macro_rules | `(tactic| tm_at "r1") => `(tactic| first
  | tm_at "rX"
  | refine ⟨_, _, rfl, rfl, ?_⟩
  | refine ⟨_, _, _, rfl, (by tm_at "hp"), (by tm_at "lk"), ?_⟩
  | refine ⟨_, _, rfl, ?_⟩
  | refine And.intro (rfl : ([] : List V) = []) ?_
  | refine ⟨_, _, rfl, SqT.of (by tm_at "hp"), (by rfl), ?_⟩
  | refine ⟨_, rfl, _, _, _, rfl, (by tm_at "hp"), (by rfl), ?_⟩
  | refine ⟨_, _, _, _, rfl, rfl, (by tm_at "hp"), (by rfl), ?_⟩
  | refine ⟨_, rfl, ?_⟩
  | refine ⟨_, _, _, _, _, rfl, (by tm_at "hp"), (by assumption), (by assumption), (by tm_at "lk"), ?_⟩
  | refine And.intro (rfl : scal _ _ = true) ?_
  | refine And.intro (Vc.len_le (by rfl)) ?_
  | refine And.intro (by tm_at "sd") ?_
  | refine Or.inl ⟨_, rfl, ?_⟩
  | refine Or.inr ⟨_, rfl, ?_⟩
  | refine Vc.itBi (fun _ => ?_) (fun _ => ?_) | refine Vc.itNBi (fun _ => ?_) (fun _ => ?_) | refine Vc.itBs (fun _ => ?_) (fun _ => ?_) | refine Vc.itNBs (fun _ => ?_) (fun _ => ?_)
  | refine Vc.itB (fun _ => ?_) (fun _ => ?_)
  | refine Vc.itNB (fun _ => ?_) (fun _ => ?_)
  | refine iteT ?_ | refine iteF ?_)
local macro_rules | `(tactic| tm_at "lk") => `(tactic| first | rfl | decide)
/-! ### enumerate(text) -/
section
open PySem.Spec PyProof.Rows
/-- the signs of a text, each with its place in a new pair -/
def IteS (x : Str) : It :=
  ⟨fun i _ => i < x.cps.size, fun i H v H' => ∃ T c, v = .ref T ∧ H T = none ∧ H' = upd H T (.tup [.int (i : Nat), .str ⟨#[c]⟩]) ∧ x.cps[i]? = some c, fun i _ => x.cps.size ≤ i⟩
theorem turn_enumS {P : Program} {w : World} {K : PySem.W.Frag} {elts : List Expr} {kk : Nat} {tpos : Pos} {x : Str} {St : Nat → Heap → Prop} (e it : Addr)
    (D : ∀ A : Around, A.handled = none → Draws P w A it [it] x.cps.size (fun i v => ∃ c u, x.cps[i]? = some c ∧ v = .str ⟨#[c]⟩ u) St) (hcell : ∀ i h, St i h → ∃ o, h.get? it = some o ∧ ∀ v, o.data ≠ .cell v) :
    Turn P w K (.Tuple elts kk tpos) (IteS x) [e, it] e (fun i h => (∃ old, IsEnum h e it ((i : Nat) : Int) old) ∧ St i h ∧ i ≤ x.cps.size ∧ e ≠ it) where
  mem := by simp
  obj := fun i h st b hb => by
    obtain ⟨⟨old, he⟩, hs, _, _⟩ := st
    have e' : b = e ∨ b = it := by simpa using hb
    rcases e' with z | z
    · rw [z]; exact ⟨_, he, fun v q => nomatch q⟩
    · rw [z]; exact hcell i h hs
  keep := fun i h h' st k => let ⟨⟨old, he⟩, hi, hl, hne⟩ := st; ⟨⟨old, k e (by simp) _ he⟩, (D {} rfl).frame _ _ _ hi fun b hb o q => k b (List.mem_cons_of_mem _ hb) o q, hl, hne⟩
  item := by
    intro X hP hw hK hc i pins s σ H E I hf st hg
    subst hP hw hK
    obtain ⟨⟨old, he⟩, hit, hle, hne⟩ := st
    have hel : e < s.heap.objs.size := Heap.lt_size he
    have hil : it < s.heap.objs.size := by obtain ⟨_, q, _⟩ := hcell _ _ hit; exact Heap.lt_size q
    refine wpAny_pyNext_enum_itemD (D _ (I.ok.hd hc)) he hit hg hne (by simpa using hne) fun u h' tk hP ho hit' hT hsz hk => ?_
    obtain ⟨c, tu, hcx, rfl⟩ := hP
    refine ⟨_, rfl, wpAny_letOwnedTupleGo_enum (s := { s with heap := h', toks := tk + 1 }) ho fun h'' he' sb => ?_⟩
    have hT2 : h''.get? s.heap.objs.size = some { cls := .type "tuple", data := .seq #[.int i tk, .str ⟨#[c]⟩ tu] } := (sb.2 _ (Nat.ne_of_gt hel)).trans hT
    have new : ObjOk X.prog X.w (upd H s.heap.objs.size (.tup [.int (i : Nat), .str ⟨#[c]⟩])) h'' s.heap.objs.size (.tup [.int (i : Nat), .str ⟨#[c]⟩]) :=
      ⟨by show 2 ≤ sizeLine; decide, [.int i tk, .str ⟨#[c]⟩ tu], .cons ⟨_, rfl⟩ (.cons ⟨_, rfl⟩ .nil), ⟨_, hT2, rfl, _, rfl⟩⟩
    have I1 : Inv X pins σ (upd H s.heap.objs.size (.tup [.int (i : Nat), .str ⟨#[c]⟩])) { s with heap := h'', toks := tk + 1 } :=
      I.turnedNew (ch := [e, it]) (fun b ob hb q => (sb.2 b (fun z => hb (by simp [z]))).trans (hk b ob (fun z => hb (by simp [z])) (fun z => hb (by simp [z])) q)) hf (Nat.le_refl _) new
    refine ⟨.ref s.heap.objs.size, _, I1, rfl, ⟨_, c, rfl, I.hok.fresh (Nat.le_refl _), rfl, hcx⟩, ⟨⟨.str ⟨#[c]⟩ tu, ?_⟩, (D {} rfl).frame _ _ _ hit' (fun b hb o q => (sb.2 b (by rw [List.mem_singleton.mp hb]; exact Ne.symm hne)).trans q), hg, hne⟩, fun b hb => ?_⟩
    · have e1 : ((i + 1 : Nat) : Int) = (i : Int) + 1 := by omega
      rw [e1]; exact he'
    · have hb' : b < s.heap.objs.size := by
        have e' : b = e ∨ b = it := by simpa using hb
        rcases e' with z | z
        · rw [z]; exact hel
        · rw [z]; exact hil
      rw [upd_ne (Nat.ne_of_lt hb')]
      exact (hf b hb).1
  done := by
    intro X hP hw hK hc i pins s σ H E I hf st hg
    subst hP hw hK
    obtain ⟨⟨old, he⟩, hit, hle, hne⟩ := st
    obtain ⟨f0, f1, f2, f3, f4, f5⟩ := hf it (by simp)
    have hi : i = x.cps.size := Nat.le_antisymm hle hg
    subst hi
    exact wpAny_pyNext_enum_endD (D _ (I.ok.hd hc)) he hit fun h' eb => ⟨rfl, I.turned (t' := s.toks) (fun b o hb q => eb b o hb q) f0 f1 f3 f4 f5⟩
  self := fun A i s Q E st h => let ⟨⟨_, he⟩, _⟩ := st; wpAny_pyIter_enum he h
def iEnumS (ta : TA) : TI := fun σ H R => ta σ H fun vs H1 => ∃ x, vs = [.str x] ∧ R (IteS x) H1
theorem pi_enumS {X : Cx} {e : Expr} {ta : TA} {p pos tpos : Pos} {elts : List Expr} {kk : Nat} (hg : Gl X "enumerate") (hm : X.mg "enumerate" = none) (ha : PA X [e] ta) (hs : starEach [e] X.env = [(false, eval e X.env)] := by rfl) :
    PI X (.Tuple elts kk tpos) (.Call (.Name "enumerate" p) [e] [] pos) (iEnumS ta) := by
  refine ⟨fun pins s σ H R I h => ?_⟩
  refine Call_ (ld_blt I hg hm boot_enumerate (PyProof.Rows.callWith_type1 (thn (ha.run pos pins s σ H _ I h) fun us s1 ⟨vs, H1, I1, r1, q1⟩ => ?_) hs rfl))
  obtain ⟨x, ex, q⟩ := q1
  subst ex
  cases r1 with
  | cons r rr =>
    cases rr
    obtain ⟨t, rfl⟩ := r
    refine call_enumerate_str fun h' he hit hsz hk => wpAny_pyIter_enum he ?_
    have I2 : Inv X pins σ H1 { s1 with heap := h' } := I1.kept (t' := s1.toks) hk
    have fp : ∀ b, b ∈ [s1.heap.objs.size + 1, s1.heap.objs.size] → FpOk X pins H1 b := fun b hb => by
      have e' : b = s1.heap.objs.size + 1 ∨ b = s1.heap.objs.size := by simpa using hb
      have hle : s1.heap.objs.size ≤ b := by
        rcases e' with z | z
        · rw [z]; exact Nat.le_add_right _ _
        · rw [z]; exact Nat.le_refl _
      exact I1.fpOk hle (I1.hok.fresh hle)
    cases hx : x.cps.all (· < 128)
    · have ht : strIterType x = "str_iterator" := by unfold strIterType; rw [hx]; rfl
      rw [ht] at hit
      exact ⟨s1.heap.objs.size + 1, [s1.heap.objs.size + 1, s1.heap.objs.size], _, _, H1, rfl, I2, turn_enumS (s1.heap.objs.size + 1) s1.heap.objs.size (fun A hA => Draws.strWide hA _ x t) (fun i h ⟨o, ho, _, hd⟩ => ⟨o, ho, fun v q => by rw [hd] at q; cases q⟩), ⟨⟨.none, he⟩, hit, Nat.zero_le _, Nat.succ_ne_self _⟩, fp, q⟩
    · have ht : strIterType x = "str_ascii_iterator" := by unfold strIterType; rw [hx]; rfl
      rw [ht] at hit
      exact ⟨s1.heap.objs.size + 1, [s1.heap.objs.size + 1, s1.heap.objs.size], _, _, H1, rfl, I2, turn_enumS (s1.heap.objs.size + 1) s1.heap.objs.size (fun A hA => Draws.strAscii hA _ x t) (fun i h ⟨o, ho, _, hd⟩ => ⟨o, ho, fun v q => by rw [hd] at q; cases q⟩), ⟨⟨.none, he⟩, hit, Nat.zero_le _, Nat.succ_ne_self _⟩, fp, q⟩
end
end My
end
section
set_option Elab.async false
set_option linter.all false
set_option maxRecDepth 100000
set_option maxHeartbeats 4000000
/-! Q: values without a heap, few mutable objects by number; what code gives as a function of these -/
namespace Q
open PySem L2

/-- a value: tuples, and lists that nobody changes, are values; what is changed has a number -/
inductive LV where
  | non | bl (b : Bool) | int (i : Int) | str (x : Str) | ref (n : Nat) | tup (xs : List LV) | st (xs : List LV) | fl (xs : List LV) | sl (xs : List LV) | adr (a : Addr) | ty (n : String) | lam (i : Nat)
/-- what has a number -/
inductive LO where
  | lst (xs : List LV) | dK (kvs : List (Key × LV)) | dT (kvs : List (List Key × LV)) | ins (c : Nat) (fs : List (Str × LV)) | lkK (kvs : List (Key × LV)) | dead
abbrev Sl := List (Option LV)
abbrev LH := List LO
inductive Res (α : Type) where
  | ok (a : α) (L : LH) | exc (c : Nat) (L : LH) | no
abbrev M (α : Type) := LH → Res α
def Res.bind {α β : Type} : Res α → (α → LH → Res β) → Res β
  | .ok a L, k => k a L
  | .exc c L, _ => .exc c L
  | .no, _ => .no

/-- the written part, and which class has which number -/
structure Kt where
  K : PySem.W.Frag
  cl : Nat → Addr
  T : List Addr
  TS : List (Addr × Str)
  /-- lambdas that are kept: what is known of the one at an address with its code object; that one's name -/
  lo : Nat → Addr → Addr → HO := fun _ _ _ => .lst []
  lq : Str := ""
/-- where the numbered objects stand; what is never changed again -/
structure Kp where
  ρ : List Addr
  F : Addr → Prop

def StT (K : Kt) (a : Addr) (us : List V) : Prop := ∃ (o : Obj) (its : Array Value) (n : Nat), K.K.lookup a = some o ∧ o.cls = .type "tuple" ∧ o.data = .seq its n ∧ its.size ≤ sizeLine ∧ Vals us its.toList
def StL (K : Kt) (a : Addr) (us : List V) : Prop := ∃ (o : Obj) (its : Array Value) (n : Nat), K.K.lookup a = some o ∧ o.cls = .type "list" ∧ o.dict = none ∧ o.data = .seq its n ∧ its.size ≤ sizeLine ∧ Vals us its.toList
theorem StT.sq {K : Kt} {H : Hp} {a : Addr} {us : List V} (h : StT K a us) : SqT K.K H a us := .inr h
theorem StL.sq {K : Kt} {H : Hp} {a : Addr} {us : List V} (h : StL K a us) : SqL K.K H a us := .inr h

mutual
inductive RV (K : Kt) (κ : Kp) (H : Hp) : LV → V → Prop
  | non : RV K κ H .non .non
  | bl (b : Bool) : RV K κ H (.bl b) (.bl b)
  | int (i : Int) : RV K κ H (.int i) (.int i)
  | str (x : Str) : RV K κ H (.str x) (.str x)
  | ref {n : Nat} {a : Addr} : κ.ρ[n]? = some a → RV K κ H (.ref n) (.ref a)
  | tup {a : Addr} {xs : List LV} {us : List V} : κ.F a ∧ H a = some (.tup us) → RVs K κ H xs us → RV K κ H (.tup xs) (.ref a)
  | st {a : Addr} {xs : List LV} {us : List V} : StT K a us → RVs K κ H xs us → RV K κ H (.st xs) (.ref a)
  | fl {a : Addr} {xs : List LV} {us : List V} : κ.F a ∧ H a = some (.lst us) → RVs K κ H xs us → RV K κ H (.fl xs) (.ref a)
  | sl {a : Addr} {xs : List LV} {us : List V} : (κ.F a ∧ Rd H a (.lst us)) ∨ StL K a us → RVs K κ H xs us → RV K κ H (.sl xs) (.ref a)
  | adr (a : Addr) : RV K κ H (.adr a) (.ref a)
  | ty (n : String) : RV K κ H (.ty n) (.ty n)
  | lam {i : Nat} {a c : Addr} : κ.F a ∧ H a = some (K.lo i c a) ∧ (∃ φ, K.lo i c a = .ext φ) → H c = some (LamX.CodeO c K.lq) ∧ c ∉ κ.ρ → RV K κ H (.lam i) (.ref a)
inductive RVs (K : Kt) (κ : Kp) (H : Hp) : List LV → List V → Prop
  | nil : RVs K κ H [] []
  | cons {x : LV} {xs : List LV} {u : V} {us : List V} : RV K κ H x u → RVs K κ H xs us → RVs K κ H (x :: xs) (u :: us)
end

/-- the state goes on -/
structure Up (K : Kt) (κ : Kp) (H : Hp) (κ' : Kp) (H' : Hp) : Prop where
  pre : ∃ t, κ'.ρ = κ.ρ ++ t
  new : ∀ a, a ∈ κ'.ρ → a ∈ κ.ρ ∨ H a = none
  frz : ∀ a, κ.F a → κ'.F a ∧ H' a = H a
  oth : ∀ b o, H b = some o → b ∉ κ.ρ → (∃ ps, o = .tbl ps) ∨ H' b = some o
  tbl : ∀ b ps, H b = some (.tbl ps) → ∃ more, H' b = some (.tbl (ps ++ more)) ∧ (TriplesOk ps.toList → TriplesOk (ps ++ more).toList)
  fnew : ∀ a, κ'.F a → κ.F a ∨ H a = none ∨ a ∈ κ.ρ
  lam : ∀ p, p ∈ K.TS → LamX.TabS H p.1 p.2 → LamX.TabS H' p.1 p.2

section
variable {K : Kt} {κ κ' κ'' : Kp} {H H' H'' : Hp}
theorem Up.refl : Up K κ H κ H := ⟨⟨[], by simp⟩, fun _ h => .inl h, fun _ h => ⟨h, rfl⟩, fun _ _ h _ => .inr h, fun _ ps h => ⟨#[], by simpa using h, by simp⟩, fun _ h => .inl h, fun _ _ h => h⟩
theorem Up.trans (a : Up K κ H κ' H') (b : Up K κ' H' κ'' H'') : Up K κ H κ'' H'' where
  pre := by
    obtain ⟨t, e⟩ := a.pre
    obtain ⟨t', e'⟩ := b.pre
    exact ⟨t ++ t', by rw [e', e, List.append_assoc]⟩
  new := fun x hx => by
    by_cases hm : x ∈ κ.ρ
    · exact .inl hm
    · rcases b.new x hx with h | h
      · exact a.new x h
      · refine .inr ?_
        cases q : H x with
        | none => rfl
        | some o =>
          rcases a.oth x o q hm with ⟨ps, rfl⟩ | e
          · obtain ⟨m, e, _⟩ := a.tbl x ps q
            rw [h] at e; cases e
          · rw [h] at e; cases e
  frz := fun x hx => by
    obtain ⟨h1, h2⟩ := a.frz x hx
    obtain ⟨h3, h4⟩ := b.frz x h1
    exact ⟨h3, h4.trans h2⟩
  oth := fun x o hx hm => by
    rcases a.oth x o hx hm with h | h
    · exact .inl h
    · refine b.oth x o h fun z => ?_
      rcases a.new x z with w | w
      · exact hm w
      · rw [hx] at w; cases w
  tbl := fun x ps hx => by
    obtain ⟨m, e, k⟩ := a.tbl x ps hx
    obtain ⟨m', e', k'⟩ := b.tbl x _ e
    rw [Array.append_assoc] at e' k'
    exact ⟨m ++ m', e', fun z => k' (k z)⟩
  fnew := fun x hx => by
    rcases b.fnew x hx with h | h | h
    · exact a.fnew x h
    · by_cases hm : x ∈ κ.ρ
      · exact .inr (.inr hm)
      · refine .inr (.inl ?_)
        cases q : H x with
        | none => rfl
        | some o =>
          rcases a.oth x o q hm with ⟨ps, rfl⟩ | e
          · obtain ⟨m, e, _⟩ := a.tbl x ps q
            rw [h] at e; cases e
          · rw [h] at e; cases e
    · rcases a.new x h with z | z
      · exact .inr (.inr z)
      · exact .inr (.inl z)
  lam := fun p hp h => b.lam p hp (a.lam p hp h)
theorem TabS.at {P a : Addr} {q : Str} {o : HO} (t : LamX.TabS H P q) (h : ∀ u, H a = some u → (∀ ps, u ≠ .tbl ps) ∧ ∀ q, u ≠ LamX.CodeO a q) : LamX.TabS (upd H a o) P q := by
  obtain ⟨ps, e, tr, k⟩ := t
  refine ⟨ps, ?_, tr, fun pos cv hc => ?_⟩
  · rw [upd_ne (show P ≠ a from fun z => (h _ (by rw [← z]; exact e)).1 ps rfl)]; exact e
  · obtain ⟨c, e1, e2⟩ := k pos cv hc
    exact ⟨c, e1, by rw [upd_ne (show c ≠ a from fun z => by subst z; exact (h _ e2).2 q rfl)]; exact e2⟩
theorem TabS.new {P a : Addr} {q : Str} {o : HO} (t : LamX.TabS H P q) (hn : H a = none) : LamX.TabS (upd H a o) P q := TabS.at t fun u e => by rw [hn] at e; cases e
theorem Up.code {c : Addr} {q : Str} (u : Up K κ H κ' H') (g : H c = some (LamX.CodeO c q) ∧ c ∉ κ.ρ) : H' c = some (LamX.CodeO c q) ∧ c ∉ κ'.ρ := by
  obtain ⟨e, n⟩ := g
  refine ⟨?_, fun z => ?_⟩
  · rcases u.oth _ _ e n with ⟨ps, w⟩ | w
    · exact absurd w (LamX.codeO_ne ps)
    · exact w
  · rcases u.new _ z with w | w
    · exact n w
    · rw [w] at e; cases e
theorem Up.get (u : Up K κ H κ' H') {n : Nat} {a : Addr} (h : κ.ρ[n]? = some a) : κ'.ρ[n]? = some a := by
  obtain ⟨t, e⟩ := u.pre
  rw [e]
  exact List.getElem?_append_left (by obtain ⟨h1, _⟩ := List.getElem?_eq_some_iff.mp h; exact h1) ▸ h
theorem Rd.same {a : Addr} {o : HO} (h : Rd H a o) (e : H' a = H a) : Rd H' a o := by
  rcases h with h | ⟨ob, h⟩
  · exact .inl (e.trans h)
  · exact .inr ⟨ob, e.trans h⟩
mutual
theorem RV.up (u : Up K κ H κ' H') : ∀ {v : LV} {w : V}, RV K κ H v w → RV K κ' H' v w
  | _, _, .non => .non
  | _, _, .bl b => .bl b
  | _, _, .int i => .int i
  | _, _, .str x => .str x
  | _, _, .ref h => .ref (u.get h)
  | _, _, .tup h r => .tup ⟨(u.frz _ h.1).1, (u.frz _ h.1).2.trans h.2⟩ (RVs.up u r)
  | _, _, .st h r => .st h (RVs.up u r)
  | _, _, .fl h r => .fl ⟨(u.frz _ h.1).1, (u.frz _ h.1).2.trans h.2⟩ (RVs.up u r)
  | _, _, .sl h r => .sl (h.imp (fun ⟨a, b⟩ => ⟨(u.frz _ a).1, Rd.same b (u.frz _ a).2⟩) id) (RVs.up u r)
  | _, _, .adr a => .adr a
  | _, _, .ty n => .ty n
  | _, _, .lam h g => .lam ⟨(u.frz _ h.1).1, (u.frz _ h.1).2.trans h.2.1, h.2.2⟩ (u.code g)
theorem RVs.up (u : Up K κ H κ' H') : ∀ {v : List LV} {w : List V}, RVs K κ H v w → RVs K κ' H' v w
  | _, _, .nil => .nil
  | _, _, .cons h r => .cons (RV.up u h) (RVs.up u r)
end
theorem RVs.length : ∀ {v : List LV} {w : List V}, RVs K κ H v w → v.length = w.length
  | _, _, .nil => rfl
  | _, _, .cons _ r => by rw [List.length_cons, List.length_cons, RVs.length r]
theorem RVs.append : ∀ {v v' : List LV} {w w' : List V}, RVs K κ H v w → RVs K κ H v' w' → RVs K κ H (v ++ v') (w ++ w')
  | _, _, _, _, .nil, h => h
  | _, _, _, _, .cons a r, h => .cons a (RVs.append r h)
theorem RVs.get : ∀ {v : List LV} {w : List V} {i : Nat} {x : LV}, RVs K κ H v w → v[i]? = some x → ∃ u, w[i]? = some u ∧ RV K κ H x u
  | _, _, _, _, .nil, e => by simp at e
  | _, _, 0, _, .cons a _, e => by simp at e; subst e; exact ⟨_, rfl, a⟩
  | _, _, i + 1, _, .cons _ r, e => by
    obtain ⟨u, h1, h2⟩ := RVs.get (i := i) r (by simpa using e)
    exact ⟨u, by simpa using h1, h2⟩
theorem RVs.get' : ∀ {v : List LV} {w : List V} {i : Nat} {u : V}, RVs K κ H v w → w[i]? = some u → ∃ x, v[i]? = some x ∧ RV K κ H x u
  | _, _, _, _, .nil, e => by simp at e
  | _, _, 0, _, .cons a _, e => by simp at e; subst e; exact ⟨_, rfl, a⟩
  | _, _, i + 1, _, .cons _ r, e => by
    obtain ⟨u, h1, h2⟩ := RVs.get' (i := i) r (by simpa using e)
    exact ⟨u, by simpa using h1, h2⟩
theorem RVs.set {x : LV} {u : V} (a : RV K κ H x u) : ∀ {v : List LV} {w : List V} (i : Nat), RVs K κ H v w → RVs K κ H (v.set i x) (w.set i u)
  | _, _, _, .nil => .nil
  | _, _, 0, .cons _ r => .cons a r
  | _, _, i + 1, .cons b r => .cons b (RVs.set a i r)
theorem RVs.take : ∀ {v : List LV} {w : List V} (n : Nat), RVs K κ H v w → RVs K κ H (v.take n) (w.take n)
  | _, _, 0, _ => .nil
  | _, _, _ + 1, .nil => .nil
  | _, _, n + 1, .cons a r => .cons a (RVs.take n r)
theorem RVs.drop : ∀ {v : List LV} {w : List V} (n : Nat), RVs K κ H v w → RVs K κ H (v.drop n) (w.drop n)
  | _, _, 0, r => r
  | _, _, _ + 1, .nil => .nil
  | _, _, n + 1, .cons _ r => RVs.drop n r
theorem RVs.rev : ∀ {v : List LV} {w : List V}, RVs K κ H v w → RVs K κ H v.reverse w.reverse
  | _, _, .nil => .nil
  | _, _, .cons a r => by rw [List.reverse_cons, List.reverse_cons]; exact RVs.append (RVs.rev r) (.cons a .nil)

abbrev Keyed {κ' : Type} (K : Kt) (κ : Kp) (H : Hp) : List (κ' × LV) → List (κ' × V) → Prop := Paired fun p q => p.1 = q.1 ∧ RV K κ H p.2 q.2
theorem Keyed.up {T : Type} (u : Up K κ H κ' H') : ∀ {a : List (T × LV)} {b : List (T × V)}, Keyed K κ H a b → Keyed K κ' H' a b
  | _, _, .nil => .nil
  | _, _, .cons h r => .cons ⟨h.1, h.2.up u⟩ (Keyed.up u r)
/-- an object is what its number says -/
def RO (K : Kt) (κ : Kp) (H : Hp) (a : Addr) : LO → Prop
  | .lst xs => ∃ us, H a = some (.lst us) ∧ RVs K κ H xs us
  | .dK kvs => ∃ us, H a = some (.dK us) ∧ Keyed K κ H kvs us
  | .dT kvs => ∃ us, H a = some (.dT us) ∧ Keyed K κ H kvs us
  | .ins C fs => ∃ dx us, H a = some (.ins (K.cl C) dx us) ∧ Keyed K κ H fs us
  | .lkK kvs => ∃ od us, H a = some (.frz od (.dK us)) ∧ Keyed K κ H kvs us
  | .dead => False
theorem RO.up {a : Addr} {o : LO} (h : RO K κ H a o) (u : Up K κ H κ' H') (e : H' a = H a) : RO K κ' H' a o := by
  cases o with
  | lst xs => obtain ⟨us, h1, h2⟩ := h; exact ⟨us, e.trans h1, h2.up u⟩
  | dK kvs => obtain ⟨us, h1, h2⟩ := h; exact ⟨us, e.trans h1, h2.up u⟩
  | dT kvs => obtain ⟨us, h1, h2⟩ := h; exact ⟨us, e.trans h1, h2.up u⟩
  | ins C fs => obtain ⟨dx, us, h1, h2⟩ := h; exact ⟨dx, us, e.trans h1, h2.up u⟩
  | lkK kvs => obtain ⟨od, us, h1, h2⟩ := h; exact ⟨od, us, e.trans h1, h2.up u⟩
  | dead => exact h
/-- no code object of a lambda -/
def Dd (H : Hp) (a : Addr) : Prop := ∀ q, H a ≠ some (LamX.CodeO a q)
theorem Dd.same {a : Addr} (h : Dd H a) (e : H' a = H a) : Dd H' a := fun q => by rw [e]; exact h q
theorem RO.dd {a : Addr} {o : LO} (h : RO K κ H a o) : Dd H a := fun q e => by
  cases o with
  | lst xs => obtain ⟨us, z, _⟩ := h; rw [z] at e; cases e
  | dK xs => obtain ⟨us, z, _⟩ := h; rw [z] at e; cases e
  | dT xs => obtain ⟨us, z, _⟩ := h; rw [z] at e; cases e
  | ins C xs => obtain ⟨_, us, z, _⟩ := h; rw [z] at e; cases e
  | lkK kvs => obtain ⟨_, us, z, _⟩ := h; rw [z] at e; cases e
  | dead => exact h
/-- a locked dict is not changed meanwhile; what is not locked may be -/
def FOk (κ : Kp) (a : Addr) : LO → Prop
  | .lkK _ => κ.F a
  | _ => ¬ κ.F a
theorem FOk.to {a : Addr} {o : LO} (h : FOk κ a o) (m : κ.F a → κ'.F a) (b : κ'.F a → κ.F a) : FOk κ' a o := by
  cases o <;> first | exact m h | exact fun w => h (b w)
/-- all objects are -/
structure RL (K : Kt) (κ : Kp) (H : Hp) (L : LH) : Prop where
  len : L.length = κ.ρ.length
  nd : κ.ρ.Nodup
  liv : ∀ a, a ∈ κ.ρ → H a ≠ none
  fz : ∀ a, κ.F a → H a ≠ none
  obj : ∀ (n : Nat) (o : LO) (a : Addr), L[n]? = some o → κ.ρ[n]? = some a → (o = .dead ∧ Dd H a) ∨ (FOk κ a o ∧ RO K κ H a o)
  tab : ∀ P, P ∈ K.T → GxR.TabG H P ∧ ¬ κ.F P ∧ P ∉ κ.ρ
  tls : ∀ p, p ∈ K.TS → LamX.TabS H p.1 p.2 ∧ ¬ κ.F p.1 ∧ p.1 ∉ κ.ρ ∧ p.1 ∉ K.T
theorem RL.tabs {L : LH} (r : RL K κ H L) (u : Up K κ H κ' H') : ∀ P, P ∈ K.T → GxR.TabG H' P ∧ ¬ κ'.F P ∧ P ∉ κ'.ρ := fun P hP => by
  obtain ⟨⟨ps, e, t⟩, n1, n2⟩ := r.tab P hP
  obtain ⟨m, e', k⟩ := u.tbl P ps e
  refine ⟨⟨_, e', k t⟩, fun z => ?_, fun z => ?_⟩
  · rcases u.fnew P z with z | z | z
    · exact n1 z
    · rw [e] at z; cases z
    · exact n2 z
  · rcases u.new P z with z | z
    · exact n2 z
    · rw [e] at z; cases z
theorem RL.tlss {L : LH} (r : RL K κ H L) (u : Up K κ H κ' H') : ∀ p, p ∈ K.TS → LamX.TabS H' p.1 p.2 ∧ ¬ κ'.F p.1 ∧ p.1 ∉ κ'.ρ ∧ p.1 ∉ K.T := fun p hp => by
  obtain ⟨t, n1, n2, n3⟩ := r.tls p hp
  have t' := t
  obtain ⟨ps, e, _⟩ := t'
  refine ⟨u.lam p hp t, fun z => ?_, fun z => ?_, n3⟩
  · rcases u.fnew _ z with z | z | z
    · exact n1 z
    · rw [e] at z; cases z
    · exact n2 z
  · rcases u.new _ z with z | z
    · exact n2 z
    · rw [e] at z; cases z
theorem RL.at {L : LH} (r : RL K κ H L) {n : Nat} {o : LO} {v : V} (h : L[n]? = some o) (hv : RV K κ H (.ref n) v) (hd : o ≠ .dead) : ∃ a, v = .ref a ∧ κ.ρ[n]? = some a ∧ FOk κ a o ∧ RO K κ H a o := by
  cases hv with
  | ref e =>
    rcases r.obj n o _ h e with z | z
    · exact absurd z.1 hd
    · exact ⟨_, rfl, e, z.1, z.2⟩
theorem RL.notρ {L : LH} (r : RL K κ H L) {p : Addr} (hp : H p = none) : p ∉ κ.ρ := fun h => r.liv p h hp
theorem RL.notF {L : LH} (r : RL K κ H L) {p : Addr} (hp : H p = none) : ¬ κ.F p := fun h => r.fz p h hp
/-- the state changes, the numbered objects do not -/
theorem RL.up {L : LH} (r : RL K κ H L) (u : Up K κ H κ' H') (hρ : κ'.ρ = κ.ρ) (hs : ∀ a, a ∈ κ.ρ → H' a = H a) (hF : ∀ a, κ'.F a → κ.F a ∨ a ∉ κ.ρ) (hz : ∀ a, κ'.F a → H' a ≠ none) : RL K κ' H' L where
  len := by rw [hρ]; exact r.len
  nd := by rw [hρ]; exact r.nd
  liv := fun a ha => by rw [hρ] at ha; rw [hs a ha]; exact r.liv a ha
  fz := hz
  obj := fun n o a h1 h2 => by
    rw [hρ] at h2
    have hm : a ∈ κ.ρ := List.mem_of_getElem? h2
    rcases r.obj n o a h1 h2 with z | ⟨z1, z2⟩
    · exact .inl ⟨z.1, z.2.same (hs a hm)⟩
    · exact .inr ⟨z1.to (fun w => (u.frz a w).1) fun w => (hF a w).elim id fun q => absurd hm q, z2.up u (hs a hm)⟩
  tab := r.tabs u
  tls := r.tlss u
/-- something new that has no number -/
theorem Up.junk {p : Addr} {o : HO} {L : LH} (r : RL K κ H L) (hp : H p = none) : Up K κ H κ (upd H p o) :=
  ⟨⟨[], by simp⟩, fun _ h => .inl h, fun a h => ⟨h, upd_ne fun z => by subst z; exact r.fz _ h hp⟩, fun b o' h _ => .inr (by rw [upd_ne (ne_of_none h hp)]; exact h), fun b ps h => ⟨#[], by rw [upd_ne (ne_of_none h hp), h]; simp, by simp⟩, fun _ h => .inl h, fun _ _ t => TabS.new t hp⟩
theorem RL.junk {p : Addr} {o : HO} {L : LH} (r : RL K κ H L) (hp : H p = none) : RL K κ (upd H p o) L :=
  r.up (Up.junk r hp) rfl (fun a ha => upd_ne fun z => by subst z; exact r.liv _ ha hp) (fun a h => .inl h) fun a h => by
    rw [upd_ne fun z => by subst z; exact r.fz _ h hp]
    exact r.fz a h
abbrev Kp.more (κ : Kp) (p : Addr) : Kp := ⟨κ.ρ, fun a => κ.F a ∨ a = p⟩
/-- something new that is never changed -/
theorem Up.froz {p : Addr} {o : HO} {L : LH} (r : RL K κ H L) (hp : H p = none) : Up K κ H (κ.more p) (upd H p o) :=
  ⟨⟨[], by simp⟩, fun _ h => .inl h, fun a h => ⟨.inl h, upd_ne fun z => by subst z; exact r.fz _ h hp⟩, fun b o' h _ => .inr (by rw [upd_ne (ne_of_none h hp)]; exact h), fun b ps h => ⟨#[], by rw [upd_ne (ne_of_none h hp), h]; simp, by simp⟩, fun a h => h.imp id fun (z : a = p) => .inl (by rw [z]; exact hp), fun _ _ t => TabS.new t hp⟩
theorem RL.froz {p : Addr} {o : HO} {L : LH} (r : RL K κ H L) (hp : H p = none) : RL K (κ.more p) (upd H p o) L :=
  r.up (Up.froz r hp) rfl (fun a ha => upd_ne fun z => by subst z; exact r.liv _ ha hp) (fun a h => h.imp id fun (z : a = p) => by rw [z]; exact r.notρ hp) fun a h => by
    by_cases e : a = p
    · subst e; rw [upd_same]; exact fun z => nomatch z
    · rw [upd_ne e]; exact r.fz a (h.resolve_right e)
theorem new_tup {p : Addr} {L : LH} {xs : List LV} {us : List V} (r : RL K κ H L) (hp : H p = none) (hv : RVs K κ H xs us) : RV K (κ.more p) (upd H p (.tup us)) (.tup xs) (.ref p) :=
  .tup ⟨.inr rfl, upd_same⟩ (hv.up (Up.froz r hp))
theorem new_fl {p : Addr} {L : LH} {xs : List LV} {us : List V} (r : RL K κ H L) (hp : H p = none) (hv : RVs K κ H xs us) : RV K (κ.more p) (upd H p (.lst us)) (.fl xs) (.ref p) :=
  .fl ⟨.inr rfl, upd_same⟩ (hv.up (Up.froz r hp))
abbrev Kp.num (κ : Kp) (p : Addr) : Kp := ⟨κ.ρ ++ [p], κ.F⟩
theorem Up.numb {p : Addr} {o : HO} {L : LH} (r : RL K κ H L) (hp : H p = none) : Up K κ H (κ.num p) (upd H p o) :=
  ⟨⟨[p], rfl⟩, fun a h => (List.mem_append.mp h).imp id fun z => by rw [List.mem_singleton.mp z]; exact hp, fun a h => ⟨h, upd_ne fun z => by subst z; exact r.fz _ h hp⟩, fun b o' h _ => .inr (by rw [upd_ne (ne_of_none h hp)]; exact h), fun b ps h => ⟨#[], by rw [upd_ne (ne_of_none h hp), h]; simp, by simp⟩, fun _ h => .inl h, fun _ _ t => TabS.new t hp⟩
/-- something new with a number -/
theorem RL.numb {p : Addr} {o : HO} {lo : LO} {L : LH} (r : RL K κ H L) (hp : H p = none) (ho : RO K (κ.num p) (upd H p o) p lo) (hk : ∀ kvs, lo ≠ .lkK kvs := by intro _ z; cases z) : RL K (κ.num p) (upd H p o) (L ++ [lo]) where
  len := by simp [r.len]
  nd := by
    show (κ.ρ ++ [p]).Nodup
    rw [List.nodup_append]
    exact ⟨r.nd, by simp, fun a ha b hb => by rw [List.mem_singleton.mp hb]; rintro rfl; exact r.notρ hp ha⟩
  liv := fun a ha => by
    rcases List.mem_append.mp ha with h | h
    · rw [upd_ne fun z => by subst z; exact r.liv _ h hp]; exact r.liv a h
    · rw [List.mem_singleton.mp h, upd_same]; exact fun z => nomatch z
  fz := fun a h => by
    rw [upd_ne fun z => by subst z; exact r.fz _ h hp]
    exact r.fz a h
  obj := fun n o' a h1 h2 => by
    by_cases hn : n < L.length
    · have h1' : L[n]? = some o' := by rw [List.getElem?_append_left hn] at h1; exact h1
      have h2' : κ.ρ[n]? = some a := by rw [List.getElem?_append_left (by rw [← r.len]; exact hn)] at h2; exact h2
      have hm : a ∈ κ.ρ := List.mem_of_getElem? h2'
      rcases r.obj n o' a h1' h2' with z | ⟨z1, z2⟩
      · exact .inl ⟨z.1, z.2.same (upd_ne fun z => by subst z; exact r.liv _ hm hp)⟩
      · exact .inr ⟨z1, z2.up (Up.numb r hp) (upd_ne fun z => by subst z; exact r.liv _ hm hp)⟩
    · have hn' : n = L.length := by
        have := (List.getElem?_eq_some_iff.mp h1).1
        simp at this; omega
      subst hn'
      have e1 : o' = lo := by simpa using h1.symm
      have e2 : a = p := by
        rw [r.len] at h2
        simpa using h2.symm
      subst e1 e2
      exact .inr ⟨by cases o' <;> first | exact absurd rfl (hk _) | exact fun w => r.fz _ w hp, ho⟩
  tab := r.tabs (Up.numb r hp)
  tls := r.tlss (Up.numb r hp)
theorem new_ref {p : Addr} {H' : Hp} {L : LH} (r : RL K κ H L) : RV K (κ.num p) H' (.ref L.length) (.ref p) := .ref (by rw [r.len]; simp)
/-- an object with a number is changed -/
theorem Up.chg {n : Nat} {a : Addr} {o : LO} {ho : HO} {L : LH} (r : RL K κ H L) (h : L[n]? = some o) (hd : o ≠ .dead) (ha : κ.ρ[n]? = some a) (hk : ∀ kvs, o ≠ .lkK kvs := by intro _ z; cases z) : Up K κ H κ (upd H a ho) := by
  have hm : a ∈ κ.ρ := List.mem_of_getElem? ha
  have nF : ¬ κ.F a := by
    rcases r.obj n o a h ha with z | z
    · exact absurd z.1 hd
    · cases o <;> first | exact absurd rfl (hk _) | exact z.1
  have nt : ∀ ps, H a ≠ some (.tbl ps) := by
    intro ps q
    rcases r.obj n o a h ha with z | ⟨_, z⟩
    · exact hd z.1
    · cases o with
      | lst xs => obtain ⟨us, z, _⟩ := z; rw [z] at q; cases q
      | dK xs => obtain ⟨us, z, _⟩ := z; rw [z] at q; cases q
      | dT xs => obtain ⟨us, z, _⟩ := z; rw [z] at q; cases q
      | ins C xs => obtain ⟨_, us, z, _⟩ := z; rw [z] at q; cases q
      | lkK xs => exact absurd rfl (hk _)
      | dead => exact hd rfl
  have nt2 : ∀ u, H a = some u → (∀ ps, u ≠ .tbl ps) ∧ ∀ q, u ≠ LamX.CodeO a q := by
    intro u e
    rcases r.obj n o a h ha with z | ⟨_, z⟩
    · exact absurd z.1 hd
    · cases o with
      | lst xs => obtain ⟨us, z, _⟩ := z; rw [z] at e; cases e; exact ⟨fun _ q => (nomatch q), fun _ q => (nomatch q)⟩
      | dK xs => obtain ⟨us, z, _⟩ := z; rw [z] at e; cases e; exact ⟨fun _ q => (nomatch q), fun _ q => (nomatch q)⟩
      | dT xs => obtain ⟨us, z, _⟩ := z; rw [z] at e; cases e; exact ⟨fun _ q => (nomatch q), fun _ q => (nomatch q)⟩
      | ins C xs => obtain ⟨_, us, z, _⟩ := z; rw [z] at e; cases e; exact ⟨fun _ q => (nomatch q), fun _ q => (nomatch q)⟩
      | lkK xs => exact absurd rfl (hk _)
      | dead => exact (hd rfl).elim
  exact ⟨⟨[], by simp⟩, fun _ h => .inl h, fun b hb => ⟨hb, upd_ne fun z => nF (z ▸ hb)⟩, fun b o' hb hn => .inr (by rw [upd_ne (show b ≠ a from fun z => hn (by rw [z]; exact hm))]; exact hb), fun b ps hb => ⟨#[], by rw [upd_ne (show b ≠ a from fun z => nt ps (by rw [← z]; exact hb)), hb]; simp, by simp⟩, fun _ h => .inl h, fun _ _ t => TabS.at t nt2⟩
theorem RL.chg {n : Nat} {a : Addr} {o lo : LO} {ho : HO} {L : LH} (r : RL K κ H L) (h : L[n]? = some o) (hd : o ≠ .dead) (ha : κ.ρ[n]? = some a) (hr : RO K κ (upd H a ho) a lo) (hk : ∀ kvs, o ≠ .lkK kvs := by intro _ z; cases z) (hk2 : ∀ kvs, lo ≠ .lkK kvs := by intro _ z; cases z) : RL K κ (upd H a ho) (L.set n lo) where
  len := by rw [List.length_set]; exact r.len
  nd := r.nd
  liv := fun b hb => by
    by_cases e : b = a
    · subst e; rw [upd_same]; exact fun z => nomatch z
    · rw [upd_ne e]; exact r.liv b hb
  fz := fun b hb => by
    by_cases e : b = a
    · subst e; rw [upd_same]; exact fun z => nomatch z
    · rw [upd_ne e]; exact r.fz b hb
  obj := fun m o' b h1 h2 => by
    have nF : ¬ κ.F a := by
      rcases r.obj n o a h ha with z | z
      · exact absurd z.1 hd
      · cases o <;> first | exact absurd rfl (hk _) | exact z.1
    by_cases e : m = n
    · subst e
      rw [ha] at h2; cases h2
      rw [List.getElem?_set_self (List.getElem?_eq_some_iff.mp h).1] at h1
      cases h1
      exact .inr ⟨by cases lo <;> first | exact absurd rfl (hk2 _) | exact nF, hr⟩
    · rw [List.getElem?_set_ne (Ne.symm e)] at h1
      have hba : b ≠ a := fun z => e (L2.nd_ix r.nd h2 (z ▸ ha))
      rcases r.obj m o' b h1 h2 with z | ⟨z1, z2⟩
      · exact .inl ⟨z.1, z.2.same (upd_ne hba)⟩
      · exact .inr ⟨z1, z2.up (Up.chg r h hd ha hk) (upd_ne hba)⟩
  tab := r.tabs (Up.chg r h hd ha hk)
  tls := r.tlss (Up.chg r h hd ha hk)
/-! ### a change of what is no one's -/
mutual
theorem RV.off (k : ∀ a, κ.F a → H' a = H a) (kC : ∀ a q, H a = some (LamX.CodeO a q) → H' a = H a) : ∀ {v : LV} {w : V}, RV K κ H v w → RV K κ H' v w
  | _, _, .non => .non
  | _, _, .bl b => .bl b
  | _, _, .int i => .int i
  | _, _, .str x => .str x
  | _, _, .ref h => .ref h
  | _, _, .tup h r => .tup ⟨h.1, (k _ h.1).trans h.2⟩ (RVs.off k kC r)
  | _, _, .st h r => .st h (RVs.off k kC r)
  | _, _, .fl h r => .fl ⟨h.1, (k _ h.1).trans h.2⟩ (RVs.off k kC r)
  | _, _, .sl h r => .sl (h.imp (fun ⟨a, b⟩ => ⟨a, Rd.same b (k _ a)⟩) id) (RVs.off k kC r)
  | _, _, .adr a => .adr a
  | _, _, .ty n => .ty n
  | _, _, .lam h g => .lam ⟨h.1, (k _ h.1).trans h.2.1, h.2.2⟩ ⟨(kC _ _ g.1).trans g.1, g.2⟩
theorem RVs.off (k : ∀ a, κ.F a → H' a = H a) (kC : ∀ a q, H a = some (LamX.CodeO a q) → H' a = H a) : ∀ {v : List LV} {w : List V}, RVs K κ H v w → RVs K κ H' v w
  | _, _, .nil => .nil
  | _, _, .cons h r => .cons (RV.off k kC h) (RVs.off k kC r)
end
theorem Keyed.off {T : Type} (k : ∀ a, κ.F a → H' a = H a) (kC : ∀ a q, H a = some (LamX.CodeO a q) → H' a = H a) : ∀ {a : List (T × LV)} {b : List (T × V)}, Keyed K κ H a b → Keyed K κ H' a b
  | _, _, .nil => .nil
  | _, _, .cons h r => .cons ⟨h.1, h.2.off k kC⟩ (Keyed.off k kC r)
theorem RL.off {L : LH} (r : RL K κ H L) (k : ∀ a, κ.F a ∨ a ∈ κ.ρ ∨ a ∈ K.T → H' a = H a) (kS : ∀ P q, LamX.TabS H P q → LamX.TabS H' P q) (kC : ∀ a q, H a = some (LamX.CodeO a q) → H' a = H a) : RL K κ H' L where
  len := r.len
  nd := r.nd
  liv := fun a h => by rw [k a (.inr (.inl h))]; exact r.liv a h
  fz := fun a h => by rw [k a (.inl h)]; exact r.fz a h
  obj := fun n o a h1 h2 => by
    have e := k a (.inr (.inl (List.mem_of_getElem? h2)))
    have kF := fun a h => k a (.inl h)
    rcases r.obj n o a h1 h2 with z | ⟨z1, z2⟩
    · exact .inl ⟨z.1, z.2.same e⟩
    · refine .inr ⟨z1, ?_⟩
      cases o with
      | lst xs => obtain ⟨us, q1, q2⟩ := z2; exact ⟨us, e.trans q1, q2.off kF kC⟩
      | dK kvs => obtain ⟨us, q1, q2⟩ := z2; exact ⟨us, e.trans q1, q2.off kF kC⟩
      | dT kvs => obtain ⟨us, q1, q2⟩ := z2; exact ⟨us, e.trans q1, q2.off kF kC⟩
      | ins C fs => obtain ⟨dx, us, q1, q2⟩ := z2; exact ⟨dx, us, e.trans q1, q2.off kF kC⟩
      | lkK kvs => obtain ⟨od, us, q1, q2⟩ := z2; exact ⟨od, us, e.trans q1, q2.off kF kC⟩
      | dead => exact z2
  tab := fun P hP => by
    obtain ⟨⟨ps, e, t⟩, n⟩ := r.tab P hP
    exact ⟨⟨ps, (k P (.inr (.inr hP))).trans e, t⟩, n⟩
  tls := fun p hp => ⟨kS _ _ (r.tls p hp).1, (r.tls p hp).2⟩
/-- a list that was new then and is no one's yet is filled -/
theorem Up.fill {D : Addr} {o : HO} {L : LH} {l : List V} (r : RL K κ H L) (u : Up K κ H κ' H') (hD : H D = none) (hD' : H' D = some (.lst l)) : Up K κ H κ' (upd H' D o) where
  pre := u.pre
  new := u.new
  frz := fun a h => ⟨(u.frz a h).1, by rw [upd_ne (show a ≠ D from fun z => r.fz a h (by rw [z]; exact hD))]; exact (u.frz a h).2⟩
  oth := fun b o' h hn => by rw [upd_ne (ne_of_none h hD)]; exact u.oth b o' h hn
  tbl := fun b ps h => by rw [upd_ne (ne_of_none h hD)]; exact u.tbl b ps h
  fnew := u.fnew
  lam := fun p hp t => TabS.at (u.lam p hp t) fun v e => by rw [hD'] at e; cases e; exact ⟨fun _ q => (nomatch q), fun _ q => (nomatch q)⟩
/-- .. and is never changed again -/
theorem Up.keep {D : Addr} {o : HO} (h : H D = some o) (hn : D ∉ κ.ρ) : Up K κ H κ H := Up.refl
/-- a def's table has grown -/
def Tb (P : Addr) (H H' : Hp) : Prop := ∃ ps more : Array Value, H P = some (.tbl ps) ∧ TriplesOk (ps ++ more).toList ∧ H' = upd H P (.tbl (ps ++ more))
theorem Up.tabbed {P : Addr} {L : LH} (r : RL K κ H L) (hP : P ∈ K.T) (h : Tb P H H') : Up K κ H κ H' := by
  obtain ⟨ps, more, e, t, rfl⟩ := h
  obtain ⟨_, n1, n2⟩ := r.tab P hP
  refine ⟨⟨[], by simp⟩, fun _ h => .inl h, fun a h => ⟨h, upd_ne fun z => n1 (z ▸ h)⟩, fun b o h n => ?_, fun b qs h => ?_, fun _ h => .inl h, fun p hp t => ?_⟩
  · by_cases z : b = P
    · subst z
      rw [e] at h; cases h
      exact .inl ⟨_, rfl⟩
    · exact .inr (by rw [upd_ne z]; exact h)
  · by_cases z : b = P
    · subst z
      rw [e] at h; cases h
      exact ⟨more, upd_same, fun _ => t⟩
    · exact ⟨#[], by rw [upd_ne z, h]; simp, by simp⟩
  · obtain ⟨qs, e1, e2, e3⟩ := t
    refine ⟨qs, by rw [upd_ne (show p.1 ≠ P from fun z => (r.tls p hp).2.2.2 (by rw [z]; exact hP))]; exact e1, e2, fun pos cv hc => ?_⟩
    obtain ⟨c, e4, e5⟩ := e3 pos cv hc
    exact ⟨c, e4, by rw [upd_ne (show c ≠ P from fun z => by rw [z, e] at e5; exact LamX.codeO_ne _ (Option.some.inj e5).symm)]; exact e5⟩
theorem RL.tabbed {P : Addr} {L : LH} (r : RL K κ H L) (hP : P ∈ K.T) (h : Tb P H H') : RL K κ H' L := by
  have u := Up.tabbed r hP h
  obtain ⟨ps, more, e, t, rfl⟩ := h
  obtain ⟨_, n1, n2⟩ := r.tab P hP
  exact r.up u rfl (fun a ha => upd_ne fun z => n2 (z ▸ ha)) (fun a h => .inl h) fun a h => by rw [upd_ne (show a ≠ P from fun z => n1 (z ▸ h))]; exact r.fz a h
end
end Q
end
section
set_option Elab.async false
set_option linter.all false
set_option maxRecDepth 100000
set_option maxHeartbeats 4000000
namespace Q
open PySem L2
/-! ### what a piece of code gives -/
def RS (K : Kt) (κ : Kp) (H : Hp) (s : Sl) (σ : St) : Prop := s.length = σ.length ∧ ∀ (i : Nat) (v : LV), s[i]? = some (some v) → ∃ u, σ[i]? = some (some u) ∧ RV K κ H v u
section
variable {K : Kt} {κ κ' : Kp} {H H' : Hp} {s : Sl} {σ : St} {W : WX}
theorem RS.up (r : RS K κ H s σ) (u : Up K κ H κ' H') : RS K κ' H' s σ := ⟨r.1, fun i v h => let ⟨w, h1, h2⟩ := r.2 i v h; ⟨w, h1, h2.up u⟩⟩
theorem RS.set (r : RS K κ H s σ) {v : LV} {u : V} (h : RV K κ H v u) (i : Nat) : RS K κ H (s.set i (some v)) (σ.set i (some u)) := by
  refine ⟨by rw [List.length_set, List.length_set]; exact r.1, fun j w hj => ?_⟩
  by_cases e : j = i
  · subst e
    have hl : j < s.length := by
      have := (List.getElem?_eq_some_iff.mp hj).1
      rwa [List.length_set] at this
    rw [List.getElem?_set_self hl] at hj
    cases hj
    exact ⟨u, List.getElem?_set_self (by rw [← r.1]; exact hl), h⟩
  · rw [List.getElem?_set_ne (Ne.symm e)] at hj ⊢
    exact r.2 j w hj
/-- what is wanted behind what gives r -/
def HV (K : Kt) (W : WX) (σ : St) (κ : Kp) (H : Hp) {α β : Type} (R : Kp → Hp → α → β → Prop) (r : Res α) (Q : β → Hp → Prop) : Prop :=
  match r with
  | .ok v L' => ∀ κ' H' u, Up K κ H κ' H' → RL K κ' H' L' → R κ' H' v u → Q u H'
  | .exc c L' => ∀ κ' H' d, Up K κ H κ' H' → RL K κ' H' L' → W (.ref (K.cl c)) d σ H'
  | .no => False
theorem HV.up {α β : Type} {R : Kp → Hp → α → β → Prop} {r : Res α} {Q : β → Hp → Prop} (h : HV K W σ κ H R r Q) (u : Up K κ H κ' H') : HV K W σ κ' H' R r Q := by
  cases r with
  | ok v L => exact fun κ2 H2 w a b c => h κ2 H2 w (u.trans a) b c
  | exc c L => exact fun κ2 H2 d a b => h κ2 H2 d (u.trans a) b
  | no => exact h
theorem HV.imp {α β : Type} {R : Kp → Hp → α → β → Prop} {r : Res α} {Q Q' : β → Hp → Prop} (h : HV K W σ κ H R r Q) (k : ∀ u H', Q u H' → Q' u H') : HV K W σ κ H R r Q' := by
  cases r with
  | ok v L => exact fun κ2 H2 w a b c => k _ _ (h κ2 H2 w a b c)
  | exc c L => exact h
  | no => exact h
/-- a step, then the rest -/
theorem HV.bind {α β γ δ : Type} {R : Kp → Hp → α → β → Prop} {S : Kp → Hp → γ → δ → Prop} {r : Res α} {k : α → LH → Res γ} {Q : δ → Hp → Prop} (h : HV K W σ κ H S (r.bind k) Q) :
    HV K W σ κ H R r fun u H1 => ∃ κ1 L1 x, Up K κ H κ1 H1 ∧ RL K κ1 H1 L1 ∧ R κ1 H1 x u ∧ HV K W σ κ1 H1 S (k x L1) Q := by
  cases r with
  | ok v L => exact fun κ2 H2 w a b c => ⟨κ2, L, v, a, b, c, h.up a⟩
  | exc c L => exact h
  | no => exact h
end
section
variable (K : Kt) (W : WX)
abbrev RB : Kp → Hp → Bool → Bool → Prop := fun _ _ a b => a = b
def tE (f : Sl → M LV) : TE := fun σ H Q => ∃ κ s L, RS K κ H s σ ∧ RL K κ H L ∧ HV K W σ κ H (RV K) (f s L) Q
def tT (f : Sl → M Bool) : TT := fun σ H Q => ∃ κ s L, RS K κ H s σ ∧ RL K κ H L ∧ HV K W σ κ H RB (f s L) Q
def tA (f : Sl → M (List LV)) : TA := fun σ H Q => ∃ κ s L, RS K κ H s σ ∧ RL K κ H L ∧ HV K W σ κ H (RVs K) (f s L) Q
end
def QE (X : Cx) (K : Kt) (W : WX) (e : Expr) (f : Sl → M LV) : Prop := PE X e (tE K W f)
def QT (X : Cx) (K : Kt) (W : WX) (e : Expr) (f : Sl → M Bool) : Prop := PT X e (tT K W f)
def QW (X : Cx) (K : Kt) (W : WX) (e : Expr) (f : Sl → M Bool) : Prop := PW X e (tT K W f)
def QA (X : Cx) (K : Kt) (W : WX) (es : List Expr) (f : Sl → M (List LV)) : Prop := PA X es (tA K W f)
theorem PE.weak {X : Cx} {e : Expr} {t u : TE} (h : PE X e t) (k : ∀ σ H Q, u σ H Q → t σ H Q) : PE X e u := ⟨fun pins s σ H Q I q => h.run pins s σ H Q I (k _ _ _ q)⟩
theorem PT.weak {X : Cx} {e : Expr} {t u : TT} (h : PT X e t) (k : ∀ σ H Q, u σ H Q → t σ H Q) : PT X e u := ⟨fun pins s σ H Q I q => h.run pins s σ H Q I (k _ _ _ q)⟩
theorem PW.weak {X : Cx} {e : Expr} {t u : TT} (h : PW X e t) (k : ∀ σ H Q, u σ H Q → t σ H Q) : PW X e u := ⟨fun wh pins s σ H Q I q => h.run wh pins s σ H Q I (k _ _ _ q)⟩
theorem PA.weak {X : Cx} {e : List Expr} {t u : TA} (h : PA X e t) (k : ∀ σ H Q, u σ H Q → t σ H Q) : PA X e u := ⟨fun pos pins s σ H Q I q => h.run pos pins s σ H Q I (k _ _ _ q)⟩

/-! ### the functions of code -/
def mVar (i : Nat) : Sl → M LV := fun s L => match s[i]? with
  | some (some v) => .ok v L
  | _ => .no
def mC (v : LV) : Sl → M LV := fun _ L => .ok v L
def mOp (g : LV → LV → M LV) (fa fb : Sl → M LV) : Sl → M LV := fun s L => (fa s L).bind fun x L1 => (fb s L1).bind fun y L2 => g x y L2
def mUn (g : LV → M LV) (fa : Sl → M LV) : Sl → M LV := fun s L => (fa s L).bind fun x L1 => g x L1
def toB : LV → M Bool := fun v L => match v with
  | .bl b => .ok b L
  | _ => .no
def mTest (f : Sl → M LV) : Sl → M Bool := fun s L => (f s L).bind toB
def mAnd (f g : Sl → M Bool) : Sl → M Bool := fun s L => (f s L).bind fun b L1 => if b = true then g s L1 else .ok false L1
def mOr (f g : Sl → M Bool) : Sl → M Bool := fun s L => (f s L).bind fun b L1 => if b = true then .ok true L1 else g s L1
def mNot (f : Sl → M Bool) : Sl → M Bool := fun s L => (f s L).bind fun b L1 => .ok (!b) L1
def mIf (c : Sl → M Bool) (f g : Sl → M LV) : Sl → M LV := fun s L => (c s L).bind fun b L1 => if b = true then f s L1 else g s L1
def mB (f : Sl → M Bool) : Sl → M LV := fun s L => (f s L).bind fun b L1 => .ok (.bl b) L1
def mNil : Sl → M (List LV) := fun _ L => .ok [] L
def mCons (f : Sl → M LV) (g : Sl → M (List LV)) : Sl → M (List LV) := fun s L => (f s L).bind fun x L1 => (g s L1).bind fun xs L2 => .ok (x :: xs) L2
def mTup (f : Sl → M (List LV)) : Sl → M LV := fun s L => (f s L).bind fun xs L1 => if xs.length ≤ 1000 then .ok (.tup xs) L1 else .no
/-- a list that nobody changes; one that is changed -/
def mFl (f : Sl → M (List LV)) : Sl → M LV := fun s L => (f s L).bind fun xs L1 => if xs.length ≤ 1000 then .ok (.fl xs) L1 else .no
def mLst (f : Sl → M (List LV)) : Sl → M LV := fun s L => (f s L).bind fun xs L1 => if xs.length ≤ 1000 then .ok (.ref L1.length) (L1 ++ [.lst xs]) else .no
theorem le_line {n : Nat} (h : n ≤ 1000) : n ≤ sizeLine := Nat.le_of_lt (L2.small1000 h)
section
variable {X : Cx} {K : Kt} {W : WX} {a b c e : Expr} {es : List Expr} {pos : Pos} {fa fb : Sl → M LV} {f g : Sl → M Bool} {fs : Sl → M (List LV)}
theorem qe_var {i : Nat} (h : PE X e (tVar i)) : QE X K W e (mVar i) := PE.weak h fun σ H Q ⟨κ, s, L, rs, rl, h⟩ => by
  unfold mVar at h
  split at h
  · rename_i v hv
    obtain ⟨u, h1, h2⟩ := rs.2 i v hv
    exact ⟨u, h1, h κ H u Up.refl rl h2⟩
  · exact h.elim
theorem qe_c {v : LV} {u : V} (h : PE X e (tC u)) (hv : ∀ κ H, RV K κ H v u) : QE X K W e (mC v) := PE.weak h fun σ H Q ⟨κ, s, L, rs, rl, h⟩ => h κ H u Up.refl rl (hv κ H)
theorem qe_int {i j} : QE X K W (.Constant (.int i) j pos) (mC (.int i)) := qe_c pe_int fun _ _ => .int _
theorem qe_bl {i j} : QE X K W (.Constant (.bool i) j pos) (mC (.bl i)) := qe_c pe_bl fun _ _ => .bl _
theorem qe_str {i j} : QE X K W (.Constant (.str i) j pos) (mC (.str i)) := qe_c pe_str fun _ _ => .str _
theorem qe_non {j} : QE X K W (.Constant .none j pos) (mC .non) := qe_c pe_non fun _ _ => .non
/-- an operator by values -/
def OpQ (X : Cx) (K : Kt) (F : Value → Value → Sem Value) (g : LV → LV → M LV) : Prop :=
  ∃ r, OpR X F r ∧ ∀ (W : WX) (κ : Kp) (H : Hp) (L : LH) (x y : LV) (u v : V) (σ : St) (Q : VK), RL K κ H L → RV K κ H x u → RV K κ H y v → HV K W σ κ H (RV K) (g x y L) Q → r u v H Q
theorem qe_op {op : Operator} {gg : LV → LV → M LV} (ho : OpQ X K (binaryOp op) gg) (ha : QE X K W a fa) (hb : QE X K W b fb) : QE X K W (.BinOp a op b pos) (mOp gg fa fb) := by
  obtain ⟨r, h1, h2⟩ := ho
  refine PE.weak (pe_op h1 ha hb) fun σ H Q ⟨κ, s, L, rs, rl, h⟩ => ⟨κ, s, L, rs, rl, (HV.bind (R := RV K) h).imp fun u H1 ⟨κ1, L1, x, up, rl1, rx, q⟩ => ⟨κ1, s, L1, rs.up up, rl1, (HV.bind (R := RV K) q).imp fun v H2 ⟨κ2, L2, y, up2, rl2, ry, q2⟩ => h2 W κ2 H2 L2 x y u v σ Q rl2 (rx.up up2) ry q2⟩⟩
theorem qe_cmp {op : CmpOp} {gg : LV → LV → M LV} (ho : OpQ X K (compareOp op) gg) (ha : QE X K W a fa) (hb : QE X K W b fb) (hm : behindInMarks op b = false) : QE X K W (.Compare a [op] [b] pos) (mOp gg fa fb) := by
  obtain ⟨r, h1, h2⟩ := ho
  refine PE.weak (pe_cmpR h1 ha hb hm) fun σ H Q ⟨κ, s, L, rs, rl, h⟩ => ⟨κ, s, L, rs, rl, (HV.bind (R := RV K) h).imp fun u H1 ⟨κ1, L1, x, up, rl1, rx, q⟩ => ⟨κ1, s, L1, rs.up up, rl1, (HV.bind (R := RV K) q).imp fun v H2 ⟨κ2, L2, y, up2, rl2, ry, q2⟩ => h2 W κ2 H2 L2 x y u v σ Q rl2 (rx.up up2) ry q2⟩⟩
theorem toB_ok {κ : Kp} {H : Hp} {L : LH} {σ : St} {x : LV} {u : V} {Q : Bool → Hp → Prop} (rl : RL K κ H L) (rx : RV K κ H x u) (h : HV K W σ κ H RB (toB x L) Q) : ∃ k, u = .bl k ∧ Q k H := by
  cases x with
  | bl b => cases rx; exact ⟨b, rfl, h κ H b Up.refl rl rfl⟩
  | _ => exact h.elim
theorem qt_cmp {op : CmpOp} {gg : LV → LV → M LV} (ho : OpQ X K (compareOp op) gg) (ha : QE X K W a fa) (hb : QE X K W b fb) (hm : behindInMarks op b = false) : QT X K W (.Compare a [op] [b] pos) (mTest (mOp gg fa fb)) := by
  obtain ⟨r, h1, h2⟩ := ho
  refine PT.weak (pt_cmpR h1 ha hb hm) fun σ H Q ⟨κ, s, L, rs, rl, h⟩ => ⟨κ, s, L, rs, rl, ?_⟩
  have h' : HV K W σ κ H RB ((fa s L).bind fun x L1 => ((fb s L1).bind fun y L2 => gg x y L2).bind toB) Q := by
    have e : (mTest (mOp gg fa fb)) s L = ((fa s L).bind fun x L1 => ((fb s L1).bind fun y L2 => gg x y L2).bind toB) := by
      unfold mTest mOp
      cases fa s L <;> rfl
    rw [e] at h
    exact h
  refine (HV.bind (R := RV K) h').imp fun u H1 ⟨κ1, L1, x, up, rl1, rx, q⟩ => ⟨κ1, s, L1, rs.up up, rl1, ?_⟩
  have q' : HV K W σ κ1 H1 RB ((fb s L1).bind fun y L2 => (gg x y L2).bind toB) Q := by
    have e : ((fb s L1).bind fun y L2 => gg x y L2).bind toB = ((fb s L1).bind fun y L2 => (gg x y L2).bind toB) := by cases fb s L1 <;> rfl
    rw [e] at q
    exact q
  refine (HV.bind (R := RV K) q').imp fun v H2 ⟨κ2, L2, y, up2, rl2, ry, q2⟩ => h2 W κ2 H2 L2 x y u v σ _ rl2 (rx.up up2) ry ?_
  exact (HV.bind (R := RV K) q2).imp fun w H3 ⟨κ3, L3, z, up3, rl3, rz, q3⟩ => toB_ok rl3 rz q3
theorem qt_val (ha : QE X K W e fa) (he : ∀ whole, isTrue e X.env whole = (do let v ← whole; standAt e.pos; holding [v] (truthy v)) := by intro _; rfl) : QT X K W e (mTest fa) :=
  PT.weak (pt_val ha he) fun σ H Q ⟨κ, s, L, rs, rl, h⟩ => ⟨κ, s, L, rs, rl, (HV.bind (R := RV K) h).imp fun w H3 ⟨κ3, L3, z, up3, rl3, rz, q3⟩ => toB_ok rl3 rz q3⟩
theorem QW.pt (h : QW X K W e f) : QT X K W e f := PW.pt h
theorem qw_and1 (h : QT X K W a f) : QW X K W (.BoolOp .And [a] pos) f := pw_and1 h
theorem qw_or1 (h : QT X K W a f) : QW X K W (.BoolOp .Or [a] pos) f := pw_or1 h
theorem qw_and (ha : QT X K W a f) (hb : QW X K W (.BoolOp .And (b :: es) pos) g) : QW X K W (.BoolOp .And (a :: b :: es) pos) (mAnd f g) :=
  PW.weak (pw_and ha hb) fun σ H Q ⟨κ, s, L, rs, rl, h⟩ => ⟨κ, s, L, rs, rl, (HV.bind (R := RB) h).imp fun k H3 ⟨κ3, L3, z, up3, rl3, rz, q3⟩ => by
    subst rz
    cases z with
    | true => rw [if_pos rfl]; exact ⟨κ3, s, L3, rs.up up3, rl3, q3⟩
    | false => rw [if_neg (by decide)]; exact q3 κ3 H3 false Up.refl rl3 rfl⟩
theorem qw_or (ha : QT X K W a f) (hb : QW X K W (.BoolOp .Or (b :: es) pos) g) : QW X K W (.BoolOp .Or (a :: b :: es) pos) (mOr f g) :=
  PW.weak (pw_or ha hb) fun σ H Q ⟨κ, s, L, rs, rl, h⟩ => ⟨κ, s, L, rs, rl, (HV.bind (R := RB) h).imp fun k H3 ⟨κ3, L3, z, up3, rl3, rz, q3⟩ => by
    subst rz
    cases z with
    | false => rw [if_neg (by decide)]; exact ⟨κ3, s, L3, rs.up up3, rl3, q3⟩
    | true => rw [if_pos rfl]; exact q3 κ3 H3 true Up.refl rl3 rfl⟩
theorem qt_not (ha : QT X K W a f) : QT X K W (.UnaryOp .Not a pos) (mNot f) :=
  PT.weak (pt_not ha) fun σ H Q ⟨κ, s, L, rs, rl, h⟩ => ⟨κ, s, L, rs, rl, (HV.bind (R := RB) h).imp fun k H3 ⟨κ3, L3, z, up3, rl3, rz, q3⟩ => by
    subst rz
    exact q3 κ3 H3 (!z) Up.refl rl3 rfl⟩
/-- and, or, not of truths as values -/
theorem qe_one {op} (h : QE X K W a fa) : QE X K W (.BoolOp op [a] pos) fa := pe_one h
def mAndV (fa fb : Sl → M LV) : Sl → M LV := fun s L => (fa s L).bind fun x L1 => (toB x L1).bind fun b L2 => if b = true then fb s L2 else .ok (.bl false) L2
def mOrV (fa fb : Sl → M LV) : Sl → M LV := fun s L => (fa s L).bind fun x L1 => (toB x L1).bind fun b L2 => if b = true then .ok (.bl true) L2 else fb s L2
theorem toB_bind {κ : Kp} {H : Hp} {L : LH} {σ : St} {x : LV} {u : V} {γ δ : Type} {S : Kp → Hp → γ → δ → Prop} {k : Bool → LH → Res γ} {Q : δ → Hp → Prop} (rx : RV K κ H x u) (h : HV K W σ κ H S ((toB x L).bind k) Q) : ∃ c, u = .bl c ∧ HV K W σ κ H S (k c L) Q := by
  cases x with
  | bl b => cases rx; exact ⟨b, rfl, h⟩
  | _ => exact h.elim
theorem qe_and (ha : QE X K W a fa) (hb : QE X K W (.BoolOp .And (b :: es) pos) fb) : QE X K W (.BoolOp .And (a :: b :: es) pos) (mAndV fa fb) :=
  PE.weak (pe_and ha hb) fun σ H Q ⟨κ, s, L, rs, rl, h⟩ => ⟨κ, s, L, rs, rl, (HV.bind (R := RV K) h).imp fun k H3 ⟨κ3, L3, z, up3, rl3, rz, q3⟩ => by
    obtain ⟨c, rfl, q4⟩ := toB_bind rz q3
    refine ⟨c, rfl, ?_⟩
    cases c with
    | true => rw [if_pos rfl]; exact ⟨κ3, s, L3, rs.up up3, rl3, q4⟩
    | false => rw [if_neg (by decide)]; exact q4 κ3 H3 (.bl false) Up.refl rl3 (.bl _)⟩
theorem qe_or (ha : QE X K W a fa) (hb : QE X K W (.BoolOp .Or (b :: es) pos) fb) : QE X K W (.BoolOp .Or (a :: b :: es) pos) (mOrV fa fb) :=
  PE.weak (pe_or ha hb) fun σ H Q ⟨κ, s, L, rs, rl, h⟩ => ⟨κ, s, L, rs, rl, (HV.bind (R := RV K) h).imp fun k H3 ⟨κ3, L3, z, up3, rl3, rz, q3⟩ => by
    obtain ⟨c, rfl, q4⟩ := toB_bind rz q3
    refine ⟨c, rfl, ?_⟩
    cases c with
    | false => rw [if_neg (by decide)]; exact ⟨κ3, s, L3, rs.up up3, rl3, q4⟩
    | true => rw [if_pos rfl]; exact q4 κ3 H3 (.bl true) Up.refl rl3 (.bl _)⟩
def mNotV (fa : Sl → M LV) : Sl → M LV := fun s L => (fa s L).bind fun x L1 => (toB x L1).bind fun b L2 => .ok (.bl (!b)) L2
theorem qe_not (ha : QE X K W a fa) : QE X K W (.UnaryOp .Not a pos) (mNotV fa) :=
  PE.weak (pe_not ha) fun σ H Q ⟨κ, s, L, rs, rl, h⟩ => ⟨κ, s, L, rs, rl, (HV.bind (R := RV K) h).imp fun k H3 ⟨κ3, L3, z, up3, rl3, rz, q3⟩ => by
    obtain ⟨c, rfl, q4⟩ := toB_bind rz q3
    exact ⟨c, rfl, q4 κ3 H3 _ Up.refl rl3 (.bl _)⟩⟩
theorem qe_ifExp (hc : QT X K W c f) (ha : QE X K W a fa) (hb : QE X K W b fb) : QE X K W (.IfExp c a b pos) (mIf f fa fb) :=
  PE.weak (pe_ifExp hc ha hb) fun σ H Q ⟨κ, s, L, rs, rl, h⟩ => ⟨κ, s, L, rs, rl, (HV.bind (R := RB) h).imp fun k H3 ⟨κ3, L3, z, up3, rl3, rz, q3⟩ => by
    subst rz
    cases z with
    | true => rw [if_pos rfl]; exact ⟨κ3, s, L3, rs.up up3, rl3, q3⟩
    | false => rw [if_neg (by decide)]; exact ⟨κ3, s, L3, rs.up up3, rl3, q3⟩⟩
def UnQ (X : Cx) (K : Kt) (F : Value → Sem Value) (g : LV → M LV) : Prop :=
  ∃ r, UnR X F r ∧ ∀ (W : WX) (κ : Kp) (H : Hp) (L : LH) (x : LV) (u : V) (σ : St) (Q : VK), RL K κ H L → RV K κ H x u → HV K W σ κ H (RV K) (g x L) Q → r u H Q
theorem qe_un {op : UnaryOp} {gg : LV → M LV} (ho : UnQ X K (unaryOp op) gg) (ha : QE X K W a fa) : QE X K W (.UnaryOp op a pos) (mUn gg fa) := by
  obtain ⟨r, h1, h2⟩ := ho
  exact PE.weak (pe_un h1 ha) fun σ H Q ⟨κ, s, L, rs, rl, h⟩ => ⟨κ, s, L, rs, rl, (HV.bind (R := RV K) h).imp fun u H1 ⟨κ1, L1, x, up, rl1, rx, q⟩ => h2 W κ1 H1 L1 x u σ Q rl1 rx q⟩
/-! ### arguments, displays -/
theorem qa_nil : QA X K W [] mNil := PA.weak pa_nil fun σ H Q ⟨κ, s, L, rs, rl, h⟩ => h κ H [] Up.refl rl .nil
theorem qa_cons (ha : QE X K W e fa) (hr : QA X K W es fs) (hs : starEach (e :: es) X.env = (false, eval e X.env) :: starEach es X.env := by rfl) : QA X K W (e :: es) (mCons fa fs) :=
  PA.weak (pa_cons ha hr hs) fun σ H Q ⟨κ, s, L, rs, rl, h⟩ => ⟨κ, s, L, rs, rl, (HV.bind (R := RV K) h).imp fun u H1 ⟨κ1, L1, x, up, rl1, rx, q⟩ => ⟨κ1, s, L1, rs.up up, rl1, (HV.bind (R := RVs K) q).imp fun us H2 ⟨κ2, L2, xs, up2, rl2, rxs, q2⟩ => q2 κ2 H2 (u :: us) Up.refl rl2 (.cons (rx.up up2) rxs)⟩⟩
theorem qe_tup {x1} (h : QA X K W es fs) : QE X K W (.Tuple es x1 pos) (mTup fs) :=
  PE.weak (pe_tup h) fun σ H Q ⟨κ, s, L, rs, rl, h⟩ => ⟨κ, s, L, rs, rl, (HV.bind (R := RVs K) h).imp fun us H1 ⟨κ1, L1, xs, up, rl1, rx, q⟩ => by
    split at q
    · rename_i hl
      refine ⟨by rw [← rx.length]; exact le_line hl, fun p hp => q (κ1.more p) _ _ (Up.froz rl1 hp) (rl1.froz hp) (new_tup rl1 hp rx)⟩
    · exact q.elim⟩
theorem qe_fl (h : QA X K W es fs) : QE X K W (.List es pos) (mFl fs) :=
  PE.weak (pe_lst h) fun σ H Q ⟨κ, s, L, rs, rl, h⟩ => ⟨κ, s, L, rs, rl, (HV.bind (R := RVs K) h).imp fun us H1 ⟨κ1, L1, xs, up, rl1, rx, q⟩ => by
    split at q
    · rename_i hl
      refine ⟨by rw [← rx.length]; exact le_line hl, fun p hp => q (κ1.more p) _ _ (Up.froz rl1 hp) (rl1.froz hp) (new_fl rl1 hp rx)⟩
    · exact q.elim⟩
theorem qe_lst (h : QA X K W es fs) : QE X K W (.List es pos) (mLst fs) :=
  PE.weak (pe_lst h) fun σ H Q ⟨κ, s, L, rs, rl, h⟩ => ⟨κ, s, L, rs, rl, (HV.bind (R := RVs K) h).imp fun us H1 ⟨κ1, L1, xs, up, rl1, rx, q⟩ => by
    split at q
    · rename_i hl
      refine ⟨by rw [← rx.length]; exact le_line hl, fun p hp => q (κ1.num p) _ _ (Up.numb rl1 hp) (rl1.numb hp ⟨us, upd_same, rx.up (Up.numb rl1 hp)⟩) (new_ref rl1)⟩
    · exact q.elim⟩
end
end Q
end
section
set_option Elab.async false
set_option linter.all false
set_option maxRecDepth 100000
set_option maxHeartbeats 4000000
namespace Q
open PySem L2
/-! ### statements -/
inductive Fl where
  | next (s : Sl) (L : LH) | ret (v : LV) (L : LH) | brk (s : Sl) (L : LH) | cont (s : Sl) (L : LH) | exc (c : Nat) (s : Sl) (L : LH) | no
abbrev MS := Sl → LH → Fl
def lift {α : Type} (s : Sl) (k : α → LH → Fl) : Res α → Fl
  | .ok a L => k a L
  | .exc c L => .exc c s L
  | .no => .no
def Fl.andThen (r : Fl) (k : MS) : Fl := match r with
  | .next s L => k s L
  | r => r
section
variable (K : Kt) (W : WX)
def HS (κ : Kp) (H : Hp) (r : Fl) (D : Ends) : Prop := match r with
  | .next s L => ∀ κ' H' σ', Up K κ H κ' H' → RL K κ' H' L → RS K κ' H' s σ' → D.nx σ' H'
  | .ret v L => ∀ κ' H' u, Up K κ H κ' H' → RL K κ' H' L → RV K κ' H' v u → D.rt u H'
  | .brk s L => ∀ κ' H' σ', Up K κ H κ' H' → RL K κ' H' L → RS K κ' H' s σ' → D.bk σ' H'
  | .cont s L => ∀ κ' H' σ', Up K κ H κ' H' → RL K κ' H' L → RS K κ' H' s σ' → D.ct σ' H'
  | .exc c s L => ∀ κ' H' σ' d, Up K κ H κ' H' → RL K κ' H' L → RS K κ' H' s σ' → W (.ref (K.cl c)) d σ' H'
  | .no => False
def tS (f : MS) : TS := fun D σ H => ∃ κ s L, RS K κ H s σ ∧ RL K κ H L ∧ HS K W κ H (f s L) D
def tG (g : LV → Sl → Option Sl) (ix : List Nat) : TG := fun v σ H Q => ∃ κ s x s', RS K κ H s σ ∧ RV K κ H x v ∧ g x s = some s' ∧ ∀ σ', RS K κ H s' σ' → σ'.length = σ.length → (∀ j, j ∉ ix → σ'[j]? = σ[j]?) → Q σ' H
def tGs (g : List LV → Sl → Option Sl) (ix : List Nat) : TGs := fun v σ H Q => ∃ κ s x s', RS K κ H s σ ∧ RVs K κ H x v ∧ g x s = some s' ∧ ∀ σ', RS K κ H s' σ' → σ'.length = σ.length → (∀ j, j ∉ ix → σ'[j]? = σ[j]?) → Q σ' H
end
def QS (X : Cx) (K : Kt) (W : WX) (st : Stmt) (f : MS) : Prop := PS X st (tS K W f)
def QSs (X : Cx) (K : Kt) (W : WX) (st : List Stmt) (f : MS) : Prop := PSs X st (tS K W f)
def QG (X : Cx) (K : Kt) (tg : Expr) (g : LV → Sl → Option Sl) (ix : List Nat) : Prop := PG X tg (tG K g ix)
def QGs (X : Cx) (K : Kt) (tg : List Expr) (g : List LV → Sl → Option Sl) (ix : List Nat) : Prop := PGs X tg (tGs K g ix)
theorem PS.weak {X : Cx} {e : Stmt} {t u : TS} (h : PS X e t) (k : ∀ D σ H, u D σ H → t D σ H) : PS X e u := ⟨fun pins s σ H D I q => h.run pins s σ H D I (k _ _ _ q)⟩
theorem PSs.weak {X : Cx} {e : List Stmt} {t u : TS} (h : PSs X e t) (k : ∀ D σ H, u D σ H → t D σ H) : PSs X e u := ⟨fun pins s σ H D I q => h.run pins s σ H D I (k _ _ _ q)⟩
theorem PG.weak {X : Cx} {e : Expr} {t u : TG} (h : PG X e t) (k : ∀ v σ H Q, u v σ H Q → t v σ H Q) : PG X e u := ⟨fun pins s σ H v w Q I r q => h.run pins s σ H v w Q I r (k _ _ _ _ q)⟩
theorem PGs.weak {X : Cx} {e : List Expr} {t u : TGs} (h : PGs X e t) (k : ∀ v σ H Q, u v σ H Q → t v σ H Q) : PGs X e u := ⟨fun pins s σ H v w Q I r q => h.run pins s σ H v w Q I r (k _ _ _ _ q)⟩
section
variable {K : Kt} {κ κ' : Kp} {H H' : Hp} {s : Sl} {σ : St} {W : WX} {D : Ends}
theorem HS.up {r : Fl} (h : HS K W κ H r D) (u : Up K κ H κ' H') : HS K W κ' H' r D := by
  cases r with
  | next s L => exact fun κ2 H2 σ2 a b c => h κ2 H2 σ2 (u.trans a) b c
  | ret v L => exact fun κ2 H2 σ2 a b c => h κ2 H2 σ2 (u.trans a) b c
  | brk s L => exact fun κ2 H2 σ2 a b c => h κ2 H2 σ2 (u.trans a) b c
  | cont s L => exact fun κ2 H2 σ2 a b c => h κ2 H2 σ2 (u.trans a) b c
  | exc c s L => exact fun κ2 H2 σ2 d a b c => h κ2 H2 σ2 d (u.trans a) b c
  | no => exact h
theorem HS.lift {α β : Type} {R : Kp → Hp → α → β → Prop} {r : Res α} {k : α → LH → Fl} (rs : RS K κ H s σ) (h : HS K W κ H (lift s k r) D) :
    HV K W σ κ H R r fun u H1 => ∃ κ1 L1 x, Up K κ H κ1 H1 ∧ RL K κ1 H1 L1 ∧ R κ1 H1 x u ∧ HS K W κ1 H1 (k x L1) D := by
  cases r with
  | ok v L => exact fun κ2 H2 w a b c => ⟨κ2, L, v, a, b, c, h.up a⟩
  | exc c L => exact fun κ2 H2 d a b => h κ2 H2 σ d a b (rs.up a)
  | no => exact h
theorem HS.seq {r : Fl} {k : MS} (h : HS K W κ H (r.andThen k) D) : HS K W κ H r { D with nx := tS K W k D } := by
  cases r with
  | next s L => exact fun κ2 H2 σ2 a b c => ⟨κ2, s, L, c, b, HS.up h a⟩
  | ret v L => exact h
  | brk s L => exact h
  | cont s L => exact h
  | exc c s L => exact h
  | no => exact h
end
def mSkip : MS := fun s L => .next s L
def mSeq (f g : MS) : MS := fun s L => (f s L).andThen g
def mBreak : MS := fun s L => .brk s L
def mCont : MS := fun s L => .cont s L
def mDrop (f : Sl → M LV) : MS := fun s L => lift s (fun _ L1 => .next s L1) (f s L)
def mRet (f : Sl → M LV) : MS := fun s L => lift s (fun v L1 => .ret v L1) (f s L)
def mRetN : MS := fun _ L => .ret .non L
def mIfS (c : Sl → M Bool) (f g : MS) : MS := fun s L => lift s (fun b L1 => if b = true then f s L1 else g s L1) (c s L)
def mAsg (f : Sl → M LV) (g : LV → Sl → Option Sl) : MS := fun s L => lift s (fun x L1 => match g x s with
  | some s2 => .next s2 L1
  | none => .no) (f s L)
def gN (i : Nat) : LV → Sl → Option Sl := fun x s => some (s.set i (some x))
def gNil : List LV → Sl → Option Sl := fun xs s => match xs with
  | [] => some s
  | _ => none
def gCons (g : LV → Sl → Option Sl) (gs : List LV → Sl → Option Sl) : List LV → Sl → Option Sl := fun xs s => match xs with
  | x :: r => (g x s).bind fun s1 => gs r s1
  | _ => none
def gT (n : Nat) (gs : List LV → Sl → Option Sl) : LV → Sl → Option Sl := fun x s => match x with
  | .tup xs => if xs.length = n then gs xs s else none
  | .st xs => if xs.length = n then gs xs s else none
  | _ => none
/-- a, b = x, y -/
def mPar (i j : Nat) (f : Sl → M (List LV)) : MS := fun s L => lift s (fun xs L1 => match xs with
  | [v, w] => .next ((s.set i (some v)).set j (some w)) L1
  | _ => .no) (f s L)
section
variable {X : Cx} {K : Kt} {W : WX} {a b c e : Expr} {es : List Expr} {pos : Pos} {st : Stmt} {sts sts' : List Stmt} {fa fb : Sl → M LV} {fc : Sl → M Bool} {fs : Sl → M (List LV)} {f g : MS} {gg : LV → Sl → Option Sl} {ggs : List LV → Sl → Option Sl}
theorem qss_nil : QSs X K W [] mSkip := PSs.weak pss_nil fun D σ H ⟨κ, s, L, rs, rl, h⟩ => h κ H σ Up.refl rl rs
theorem qss_cons (h1 : QS X K W st f) (h2 : QSs X K W sts g) : QSs X K W (st :: sts) (mSeq f g) :=
  PSs.weak (pss_cons h1 h2) fun D σ H ⟨κ, s, L, rs, rl, h⟩ => ⟨κ, s, L, rs, rl, HS.seq h⟩
theorem qss_one (h1 : QS X K W st f) : QSs X K W [st] f := pss_one h1
theorem qs_pass : QS X K W (.Pass pos) mSkip := PS.weak ps_pass fun D σ H ⟨κ, s, L, rs, rl, h⟩ => h κ H σ Up.refl rl rs
theorem qs_break : QS X K W (.Break pos) mBreak := PS.weak ps_break fun D σ H ⟨κ, s, L, rs, rl, h⟩ => h κ H σ Up.refl rl rs
theorem qs_continue : QS X K W (.Continue pos) mCont := PS.weak ps_continue fun D σ H ⟨κ, s, L, rs, rl, h⟩ => h κ H σ Up.refl rl rs
theorem qs_expr (he : QE X K W e fa) (hs : swapsWith e none pos.line X.env = pure false := by rfl) : QS X K W (.Expr e pos) (mDrop fa) :=
  PS.weak (ps_expr he hs) fun D σ H ⟨κ, s, L, rs, rl, h⟩ => ⟨κ, s, L, rs, rl, (HS.lift (R := RV K) rs h).imp fun u H1 ⟨κ1, L1, x, up, rl1, rx, q⟩ => q κ1 H1 σ Up.refl rl1 (rs.up up)⟩
theorem qs_ret (he : QE X K W e fa) : QS X K W (.Return (some e) pos) (mRet fa) :=
  PS.weak (ps_ret he) fun D σ H ⟨κ, s, L, rs, rl, h⟩ => ⟨κ, s, L, rs, rl, (HS.lift (R := RV K) rs h).imp fun u H1 ⟨κ1, L1, x, up, rl1, rx, q⟩ => q κ1 H1 u Up.refl rl1 rx⟩
theorem qs_retN : QS X K W (.Return none pos) mRetN := PS.weak ps_retN fun D σ H ⟨κ, s, L, rs, rl, h⟩ => h κ H .non Up.refl rl .non
theorem qs_if (hc : QT X K W c fc) (ha : QSs X K W sts f) (hb : QSs X K W sts' g) : QS X K W (.If c sts sts' pos) (mIfS fc f g) :=
  PS.weak (ps_if hc ha hb) fun D σ H ⟨κ, s, L, rs, rl, h⟩ => ⟨κ, s, L, rs, rl, (HS.lift (R := RB) rs h).imp fun u H1 ⟨κ1, L1, x, up, rl1, rx, q⟩ => by
    subst rx
    cases x with
    | true => rw [if_pos rfl]; exact ⟨κ1, s, L1, rs.up up, rl1, q⟩
    | false => rw [if_neg (by decide)]; exact ⟨κ1, s, L1, rs.up up, rl1, q⟩⟩
/-! ### targets -/
theorem qg_name {i : Nat} (h : PG X e (gName i)) : QG X K e (gN i) [i] :=
  PG.weak h fun v σ H Q ⟨κ, s, x, s', rs, rx, e, h⟩ => by
    cases e
    exact h _ (rs.set rx i) (by rw [List.length_set]) fun j hj => List.getElem?_set_ne (fun z => hj (by simp [z]))
theorem qgs_nil : QGs X K [] gNil [] :=
  PGs.weak pgs_nil fun v σ H Q ⟨κ, s, x, s', rs, rx, e, h⟩ => by
    cases rx with
    | nil => cases e; exact ⟨rfl, h σ rs rfl fun _ _ => rfl⟩
    | cons _ _ => cases e
theorem qgs_cons {ix jx : List Nat} (h1 : QG X K e gg ix) (h2 : QGs X K es ggs jx) (hs : (assignEach (e :: es) X.env).map (·.2) = assign e X.env :: (assignEach es X.env).map (·.2) := by rfl) : QGs X K (e :: es) (gCons gg ggs) (ix ++ jx) :=
  PGs.weak (pgs_cons h1 h2 hs) fun v σ H Q ⟨κ, s, x, s', rs, rx, e, h⟩ => by
    cases rx with
    | nil => cases e
    | @cons y ys u us r1 r2 =>
      have e' : (gg y s).bind (fun s1 => ggs ys s1) = some s' := e
      cases q : gg y s with
      | none => rw [q] at e'; cases e'
      | some s1 =>
        rw [q] at e'
        exact ⟨_, _, rfl, κ, s, y, s1, rs, r1, q, fun σ1 rs1 l1 k1 => ⟨κ, s1, ys, s', rs1, r2, e', fun σ2 rs2 l2 k2 => h σ2 rs2 (l2.trans l1) fun j hj => (k2 j fun z => hj (List.mem_append_right _ z)).trans (k1 j fun z => hj (List.mem_append_left _ z))⟩⟩
theorem qg_tup {k : Nat} {n : Nat} {ix : List Nat} (hK : X.K = K.K) (hc : X.calm = true) (h : QGs X K es ggs ix) (hn : (assignEach es X.env).length = n := by rfl) (hst : (assignEach es X.env).findIdx? (·.1) = none := by rfl) : QG X K (.Tuple es k pos) (gT n ggs) ix := by
  refine PG.weak (pg_tup hc h hn hst) fun v σ H Q ⟨κ, s, x, s', rs, rx, e, h⟩ => ?_
  cases rx with
  | @tup a xs us h1 h2 =>
    have e0 : (if xs.length = n then ggs xs s else none) = some s' := e
    by_cases hl : xs.length = n
    · rw [if_pos hl] at e0
      exact ⟨_, _, rfl, SqT.of h1.2, by rw [← h2.length]; exact hl, κ, s, xs, s', rs, h2, e0, h⟩
    · rw [if_neg hl] at e0
      cases e0
  | @st a xs us h1 h2 =>
    have e0 : (if xs.length = n then ggs xs s else none) = some s' := e
    by_cases hl : xs.length = n
    · rw [if_pos hl] at e0
      exact ⟨_, _, rfl, by rw [hK]; exact h1.sq, by rw [← h2.length]; exact hl, κ, s, xs, s', rs, h2, e0, h⟩
    · rw [if_neg hl] at e0
      cases e0
  | _ => cases e
/-! ### assignments -/
theorem qs_asg {tg : Expr} {ix : List Nat} (he : QE X K W e fa) (hg : QG X K tg gg ix) (hs : swapsWithSole [tg] e pos.line X.env = pure false := by rfl) (hw : swappedStores [tg] e X.env = pure none := by rfl)
    (h1 : (assignEach [tg] X.env).map (·.2) = [assign tg X.env] := by rfl) : QS X K W (.Assign [tg] e pos) (mAsg fa gg) :=
  PS.weak (ps_asg he hg hs hw h1) fun D σ H ⟨κ, s, L, rs, rl, h⟩ => ⟨κ, s, L, rs, rl, (HS.lift (R := RV K) rs h).imp fun u H1 ⟨κ1, L1, x, up, rl1, rx, q⟩ => by
    cases e : gg x s with
    | none => rw [e] at q; exact q.elim
    | some s' => rw [e] at q; exact ⟨κ1, s, x, s', rs.up up, rx, e, fun σ' rs' _ _ => q κ1 H1 σ' Up.refl rl1 rs'⟩⟩
theorem qs_par {i j : Nat} {x y : Str} {px py pt : Pos} {kt k2 pt2} (hc : X.calm = true) (hN : X.N.Nodup) (hi : X.N[i]? = some x) (hj : X.N[j]? = some y) (hij : i ≠ j)
    (hx : X.env.scope.names.lookup x = some .local) (hy : X.env.scope.names.lookup y = some .local) (ha : QA X K W [a, b] fs)
    (hw : swappedStores [.Tuple [.Name x px, .Name y py] kt pt] (.Tuple [a, b] k2 pt2) X.env = pure (some [x, y]))
    (hs : swapsWithSole [.Tuple [.Name x px, .Name y py] kt pt] (.Tuple [a, b] k2 pt2) pos.line X.env = pure false := by rfl) :
    QS X K W (.Assign [.Tuple [.Name x px, .Name y py] kt pt] (.Tuple [a, b] k2 pt2) pos) (mPar i j fs) :=
  PS.weak (ps_par hc hN hi hj hij hx hy ha hw hs) fun D σ H ⟨κ, s, L, rs, rl, h⟩ => ⟨κ, s, L, rs, rl, (HS.lift (R := RVs K) rs h).imp fun us H1 ⟨κ1, L1, xs, up, rl1, rx, q⟩ => by
    cases rx with
    | nil => exact q.elim
    | cons r1 rr =>
      cases rr with
      | nil => exact q.elim
      | cons r2 rr =>
        cases rr with
        | cons _ _ => exact q.elim
        | nil => exact ⟨_, _, rfl, q κ1 H1 _ Up.refl rl1 (((rs.up up).set r1 i).set r2 j)⟩⟩
/-! ### loops -/
/-- what is walked: the next item, none at the end; or it cannot be told -/
abbrev IT := Nat → LH → Option (Option LV)
def ItOk (K : Kt) (J : It) (κ : Kp) (H : Hp) (it : IT) : Prop := ∀ κ' H' L' i, Up K κ H κ' H' → RL K κ' H' L' → match it i L' with
  | none => True
  | some none => J.stop i H'
  | some (some v) => J.go i H' ∧ ∀ x H2, J.yld i H' x H2 → ∃ κ2, Up K κ' H' κ2 H2 ∧ RL K κ2 H2 L' ∧ RV K κ2 H2 v x
def tI (K : Kt) (W : WX) (f : Sl → M IT) : TI := fun σ H R => ∃ κ s L, RS K κ H s σ ∧ RL K κ H L ∧ HV K W σ κ H (fun κ' H' it J => ItOk K J κ' H' it) (f s L) R
def QI (X : Cx) (K : Kt) (W : WX) (tg iter : Expr) (f : Sl → M IT) : Prop := PI X tg iter (tI K W f)
theorem PI.weak {X : Cx} {tg e : Expr} {t u : TI} (h : PI X tg e t) (k : ∀ σ H R, u σ H R → t σ H R) : PI X tg e u := ⟨fun pins s σ H R I q => h.run pins s σ H R I (k _ _ _ q)⟩
def forGo (it : IT) (g : LV → Sl → Option Sl) (body : MS) : Nat → Nat → MS
  | 0, _ => fun _ _ => .no
  | n + 1, i => fun s L => match it i L with
    | none => .no
    | some none => .next s L
    | some (some v) => match g v s with
      | none => .no
      | some s1 => match body s1 L with
        | .next s2 L2 => forGo it g body n (i + 1) s2 L2
        | .cont s2 L2 => forGo it g body n (i + 1) s2 L2
        | .brk s2 L2 => .next s2 L2
        | .ret v L2 => .ret v L2
        | .exc c s2 L2 => .exc c s2 L2
        | .no => .no
def FUEL : Nat := 1000000
def mFor (fi : Sl → M IT) (g : LV → Sl → Option Sl) (body : MS) : MS := fun s L => lift s (fun it L1 => forGo it g body FUEL 0 s L1) (fi s L)
theorem for_ok {ix : List Nat} {J : It} {it : IT} {κ : Kp} {H : Hp} {s : Sl} {L : LH} {σ : St} {D : Ends} (ok : ItOk K J κ H it) (rs : RS K κ H s σ) (rl : RL K κ H L) (h : HS K W κ H (forGo it gg f FUEL 0 s L) D) :
    ∃ Wi : Nat → Nat → St → Hp → Prop, (∃ m, Wi 0 m σ H) ∧ ∀ i m σ H, Wi i m σ H →
      (J.stop i H ∧ D.nx σ H) ∨ (J.go i H ∧ ∃ N : St → Hp → Prop, (∀ σ' H', N σ' H' → ∃ m', m' < m ∧ Wi (i + 1) m' σ' H') ∧ ∀ x H', J.yld i H x H' → tG K gg ix x σ H' fun σ2 H2 => tS K W f { D with nx := N, ct := N, bk := D.nx } σ2 H2) := by
  refine ⟨fun i m σ H1 => ∃ κ1 s L, Up K κ H κ1 H1 ∧ RS K κ1 H1 s σ ∧ RL K κ1 H1 L ∧ HS K W κ1 H1 (forGo it gg f m i s L) D, ⟨FUEL, κ, s, L, Up.refl, rs, rl, h⟩, ?_⟩
  rintro i m σ1 H1 ⟨κ1, s1, L1, up, rs1, rl1, q⟩
  cases m with
  | zero => exact q.elim
  | succ m =>
    have o := ok κ1 H1 L1 i up rl1
    unfold forGo at q
    cases e : it i L1 with
    | none => rw [e] at q; exact q.elim
    | some r =>
      rw [e] at q o
      cases r with
      | none => exact .inl ⟨o, q κ1 H1 σ1 Up.refl rl1 rs1⟩
      | some v =>
        obtain ⟨o1, o2⟩ := o
        refine .inr ⟨o1, fun σ2 H2 => ∃ κ2 s2 L2, Up K κ H κ2 H2 ∧ RS K κ2 H2 s2 σ2 ∧ RL K κ2 H2 L2 ∧ HS K W κ2 H2 (forGo it gg f m (i + 1) s2 L2) D, fun σ2 H2 z => ⟨m, Nat.lt_succ_self m, z⟩, fun x H2 y => ?_⟩
        obtain ⟨κ2, up2, rl2, rx⟩ := o2 x H2 y
        simp only [] at q
        cases eg : gg v s1 with
        | none => rw [eg] at q; exact q.elim
        | some s2 =>
          rw [eg] at q
          refine ⟨κ2, s1, v, s2, rs1.up up2, rx, eg, fun σ2 rs2 _ _ => ⟨κ2, s2, L1, rs2, rl2, ?_⟩⟩
          have q2 := HS.up q up2
          simp only [] at q2
          cases eb : f s2 L1 with
          | next s3 L3 => rw [eb] at q2; exact fun κ3 H3 σ3 a b c => ⟨κ3, s3, L3, (up.trans up2).trans a, c, b, HS.up q2 a⟩
          | cont s3 L3 => rw [eb] at q2; exact fun κ3 H3 σ3 a b c => ⟨κ3, s3, L3, (up.trans up2).trans a, c, b, HS.up q2 a⟩
          | brk s3 L3 => rw [eb] at q2; exact q2
          | ret v3 L3 => rw [eb] at q2; exact q2
          | exc c3 s3 L3 => rw [eb] at q2; exact q2
          | no => rw [eb] at q2; exact q2
theorem qs_for {ix : List Nat} {tg iter : Expr} {fi : Sl → M IT} (hp : PassesOwn (model X.prog X.w) X.A X.env X.xe) (hc : X.calm = true) (hi : QI X K W tg iter fi) (hg : QG X K tg gg ix) (hb : QSs X K W sts f)
    (hs : ∀ x, foldedSetIterable iter X.env x = pure x := by intro _; rfl) : QS X K W (.For tg iter sts [] pos) (mFor fi gg f) :=
  PS.weak (ps_for hp hc hi hg hb hs) fun D σ H ⟨κ, s, L, rs, rl, h⟩ => ⟨κ, s, L, rs, rl, (HS.lift (R := fun κ' H' it J => ItOk K J κ' H' it) rs h).imp fun J H1 ⟨κ1, L1, it, up, rl1, ok, q⟩ => for_ok ok (rs.up up) rl1 q⟩
def whileGo (c : Sl → M Bool) (body : MS) : Nat → MS
  | 0 => fun _ _ => .no
  | n + 1 => fun s L => lift s (fun b L1 => if b = true then (match body s L1 with
      | .next s2 L2 => whileGo c body n s2 L2
      | .cont s2 L2 => whileGo c body n s2 L2
      | .brk s2 L2 => .next s2 L2
      | .ret v L2 => .ret v L2
      | .exc c s2 L2 => .exc c s2 L2
      | .no => .no) else .next s L1) (c s L)
def mWhile (c : Sl → M Bool) (body : MS) : MS := whileGo c body FUEL
theorem qs_while (hp : PassesOwn (model X.prog X.w) X.A X.env X.xe) (hc : QT X K W c fc) (hb : QSs X K W sts f) : QS X K W (.While c sts [] pos) (mWhile fc f) :=
  PS.weak (ps_while hp hc hb) fun D σ H ⟨κ, s, L, rs, rl, h⟩ => by
    refine ⟨fun m σ H => ∃ κ s L, RS K κ H s σ ∧ RL K κ H L ∧ HS K W κ H (whileGo fc f m s L) D, ⟨FUEL, κ, s, L, rs, rl, h⟩, ?_⟩
    rintro m σ1 H1 ⟨κ1, s1, L1, rs1, rl1, q⟩
    cases m with
    | zero => exact q.elim
    | succ m =>
      refine ⟨κ1, s1, L1, rs1, rl1, (HS.lift (R := RB) rs1 q).imp fun b H2 ⟨κ2, L2, x, up, rl2, rx, q2⟩ => ?_⟩
      subst rx
      cases x with
      | false => rw [if_neg (by decide)]; exact q2 κ2 H2 σ1 Up.refl rl2 (rs1.up up)
      | true =>
        rw [if_pos rfl]
        rw [if_pos rfl] at q2
        refine ⟨fun σ3 H3 => ∃ κ s L, RS K κ H3 s σ3 ∧ RL K κ H3 L ∧ HS K W κ H3 (whileGo fc f m s L) D, fun σ3 H3 z => ⟨m, Nat.lt_succ_self m, z⟩, κ2, s1, L2, rs1.up up, rl2, ?_⟩
        cases eb : f s1 L2 with
        | next s3 L3 => rw [eb] at q2; exact fun κ3 H3 σ3 a b c => ⟨κ3, s3, L3, c, b, HS.up q2 a⟩
        | cont s3 L3 => rw [eb] at q2; exact fun κ3 H3 σ3 a b c => ⟨κ3, s3, L3, c, b, HS.up q2 a⟩
        | brk s3 L3 => rw [eb] at q2; exact q2
        | ret v3 L3 => rw [eb] at q2; exact q2
        | exc c3 s3 L3 => rw [eb] at q2; exact q2
        | no => rw [eb] at q2; exact q2
end
end Q
end
section
set_option Elab.async false
set_option linter.all false
set_option maxRecDepth 100000
set_option maxHeartbeats 4000000
namespace Q
open PySem PySem.Spec L2
open PyProof.Rows (envOfC)
/-! ### defs -/
/-- what a def gives: N its slots -/
def callF (N : Nat) (body : MS) : List LV → M LV := fun xs L => match body (xs.map some ++ List.replicate (N - xs.length) none) L with
  | .next _ L1 => .ok .non L1
  | .ret v L1 => .ok v L1
  | .exc c _ L1 => .exc c L1
  | _ => .no
/-- the promise: it gives what its function gives -/
def spF (K : Kt) (n : Nat) (fn : List LV → M LV) : Sp := fun vs H Q E => vs.length = n ∧ ∃ κ L xs, RVs K κ H xs vs ∧ RL K κ H L ∧ HV K (fun c d _ H' => E c d H') [] κ H (RV K) (fn xs L) Q
abbrev WD (E : XK) : WX := fun cls d _ H => E cls d H
theorem RS.start {K : Kt} {κ : Kp} {H : Hp} {xs : List LV} {vs : List V} (r : RVs K κ H xs vs) (N : List Str) : RS K κ H (xs.map some ++ List.replicate (N.length - xs.length) none) (L2.start N vs) := by
  have hl := r.length
  refine ⟨by simp [L2.start, hl], fun i v hv => ?_⟩
  by_cases h : i < xs.length
  · rw [List.getElem?_append_left (by simpa using h), List.getElem?_map] at hv
    cases e : xs[i]? with
    | none => rw [e] at hv; cases hv
    | some x =>
      rw [e] at hv
      have ex : x = v := by simpa using hv
      subst ex
      obtain ⟨u, h1, h2⟩ := r.get e
      refine ⟨u, ?_, h2⟩
      unfold L2.start
      rw [List.getElem?_append_left (by rw [List.length_map, ← hl]; exact h), List.getElem?_map, h1]
      rfl
  · rw [List.getElem?_append_right (by simpa using Nat.le_of_not_lt h)] at hv
    have := List.mem_of_getElem? hv
    simp at this
section
variable {P : Program} {w : World} {K : Kt} {mg : Str → Option Value} {base : Heap}
theorem q_fn {x qual : Str} {st : Stmt} {f : Addr} {fd : FuncData} {N ps : List Str} {k : Nat} {body : MS} (F : Fun K.K x qual st f fd) (S : FnScope N ps (defScope st))
    (hb : ∀ (cdv : Value) (A : Around) (outer : List Env) (s : Shared) (H : Hp) (E : XK), Room k (A.deeper (envOfC qual (defScope st) s.heap.objs.size f cdv)) → QSs (cxOf (L2.CX P w) P w K.K mg base N qual (defScope st) f cdv A outer s H E) K (WD E) (defBody st) body) :
    FnOk P w K.K mg base (L2.CX P w) (k + 1) f fd ps (spF K ps.length (callF N.length body)) := by
  refine F.okX S (fun vs H Q E h => h.1) fun cdv A outer s H vs Q E hr h => ⟨_, hb cdv A outer s H E hr, ?_⟩
  obtain ⟨_, κ, L, xs, rv, rl, h⟩ := h
  refine ⟨κ, _, L, RS.start rv N, rl, ?_⟩
  unfold callF at h
  cases e : body (xs.map some ++ List.replicate (N.length - xs.length) none) L with
  | next s L => rw [e] at h; exact fun κ' H' σ' a b c => h κ' H' _ a b .non
  | ret v L => rw [e] at h; exact fun κ' H' u a b c => h κ' H' u a b c
  | brk s L => rw [e] at h; exact h.elim
  | cont s L => rw [e] at h; exact h.elim
  | exc c s L => rw [e] at h; exact fun κ' H' σ' d a b c => h κ' H' d a b
  | no => rw [e] at h; exact h.elim
end
def mCall (fn : List LV → M LV) (dv : List LV) (fa : Sl → M (List LV)) : Sl → M LV := fun s L => (fa s L).bind fun xs L1 => fn (xs ++ dv) L1
/-- the class's number of an instance without its own names m -/
def insAt (L : LH) (x : LV) (m : Str) (c : Nat) : Bool := match x with
  | .ref n => match L[n]? with
    | some (.ins c' fs) => c' == c && (fs.lookup m).isNone
    | _ => false
  | _ => false
def mMeth (c : Nat) (m : Str) (fn : List LV → M LV) (dv : List LV) (fo : Sl → M LV) (fa : Sl → M (List LV)) : Sl → M LV := fun s L => (fo s L).bind fun x L1 =>
  if insAt L1 x m c = true then (fa s L1).bind fun xs L2 => fn (x :: (xs ++ dv)) L2 else .no
def isNon : LV → Bool
  | .non => true
  | _ => false
def mMake (c : Nat) (fn : List LV → M LV) (dv : List LV) (fa : Sl → M (List LV)) : Sl → M LV := fun s L => (fa s L).bind fun xs L1 =>
  (fn (.ref L1.length :: (xs ++ dv)) (L1 ++ [.ins c []])).bind fun v L2 => if isNon v = true then .ok (.ref L1.length) L2 else .no
section
variable {X : Cx} {K : Kt} {W : WX} {e o : Expr} {es : List Expr} {pos p apos : Pos} {k : Nat} {f C : Addr} {fd : FuncData} {ps : List Str} {fn : List LV → M LV} {n c : Nat} {dv : List LV} {dvs : List V} {ds : List Value} {x m : Str} {fs : Sl → M (List LV)} {fo : Sl → M LV}
/-- the callee runs, its exceptions as wished for at the slots σ -/
theorem q_run {pins : List (Addr × Obj)} {σ : St} {H : Hp} {s : Shared} {Q : VK} {us : List Value} {vs : List V} (F : FnOk X.prog X.w X.K X.mg X.base (L2.CX X.prog X.w) k f fd ps (spF K n fn)) (hr : Room k X.A) (hb : Binds X.K fd ps ds) (hd : Vals dvs ds) (tk : Takes X W)
    (I : Inv X pins σ H s) (r : Vals vs us) (h : spF K n fn (vs ++ dvs) H Q (WE W σ)) : wpAny (model X.prog X.w) X.A (call (.ref f) us) (EP X pins σ Q) X.xe s := by
  have r2 : Vals (vs ++ dvs) (us ++ ds) := r.append hd
  have hl : (us ++ ds).length = ps.length := by rw [← r2.length]; exact F.len _ _ _ _ h
  refine wpAny_call (codeAny_mono (F.run X.A X.stack s H ⟨us, []⟩ (us ++ ds) (vs ++ dvs) Q (WE W σ) hr I.env0 (hb s us I.kIn hl) r2 h) fun r s' hq => ?_)
  cases r with
  | error e => exact passAt tk σ pins H s e s' I hq
  | ok fl =>
    cases fl with
    | ret u => exact I.after hq
    | next => exact False.elim hq
    | brk => exact False.elim hq
    | cont => exact False.elim hq
theorem RVs.const {κ : Kp} {H : Hp} {zs : List LV} {ys : List V} (h : ∀ κ H, RVs K κ H zs ys) : RVs K κ H zs ys := h κ H
theorem spF_of {κ : Kp} {H : Hp} {L : LH} {σ : St} {xs : List LV} {vs : List V} {Q : VK} (hn : vs.length = n) (rv : RVs K κ H xs vs) (rl : RL K κ H L) (h : HV K W σ κ H (RV K) (fn xs L) Q) : spF K n fn vs H Q (WE W σ) := by
  refine ⟨hn, κ, L, xs, rv, rl, ?_⟩
  cases e : fn xs L with
  | ok v L => rw [e] at h; exact h
  | exc c L => rw [e] at h; exact h
  | no => rw [e] at h; exact h
theorem qe_call (F : FnOk X.prog X.w X.K X.mg X.base (L2.CX X.prog X.w) k f fd ps (spF K n fn)) (hr : Room k X.A) (hg : Gl X x) (hm : X.mg x = some (.ref f)) (hk : PySem.W.keepIn X.K (.ref f) = true) (hb : Binds X.K fd ps ds) (hd : Vals dvs ds) (hdv : ∀ κ H, RVs K κ H dv dvs)
    (tk : Takes X W) (ha : QA X K W (e :: es) fs) (hn : (e :: es).length + dvs.length = n) (hfl : ∀ s L xs L1, fs s L = .ok xs L1 → xs.length = (e :: es).length)
    (hdb : (x == ("__debug__" : Str)) = false := by decide) (he : starEach (e :: es) X.env = (false, eval e X.env) :: starEach es X.env := by rfl) (hpl : (backTo pos (starEach es X.env)).any (·.1) = false := by rfl) :
    QE X K W (.Call (.Name x p) (e :: es) [] pos) (mCall fn dv fs) := by
  refine ⟨fun pins s σ H Q I ⟨κ, sl, L, rs, rl, h⟩ => ?_⟩
  refine wpAny_Call_Name_kw (ld_glob I hg hm ?_ hdb)
  have ha' : PA X (e :: es) (tA K W fs) := ha
  unfold mCall at h
  have hw : tA K W fs σ H fun us H1 => us.length = (e :: es).length ∧ ∃ κ1 L1 xs, Up K κ H κ1 H1 ∧ RL K κ1 H1 L1 ∧ RVs K κ1 H1 xs us ∧ HV K W σ κ1 H1 (RV K) (fn (xs ++ dv) L1) Q := by
    refine ⟨κ, sl, L, rs, rl, ?_⟩
    cases q : fs sl L with
    | ok xs L1 =>
      rw [q] at h
      exact fun κ1 H1 us a b c => ⟨by rw [← c.length]; exact hfl _ _ _ _ q, κ1, L1, xs, a, b, c, HV.up h a⟩
    | exc c L1 => rw [q] at h; exact h
    | no => rw [q] at h; exact h
  refine PySem.W.callWith_K (h₀ := X.base) I.ok.mod.kin hk (thn (ha'.run pos pins s σ H _ I hw) fun us s1 ⟨vs, H1, I1, r, hl, κ1, L1, xs, up, rl1, rv, q⟩ => ⟨I1.kIn, ?_⟩) he hpl
  exact q_run F hr hb hd tk I1 r (spF_of (by rw [List.length_append, hl]; exact hn) (rv.append (hdv κ1 H1)) rl1 q)
theorem qe_call0 (F : FnOk X.prog X.w X.K X.mg X.base (L2.CX X.prog X.w) k f fd ps (spF K n fn)) (hr : Room k X.A) (hg : Gl X x) (hm : X.mg x = some (.ref f)) (hk : PySem.W.keepIn X.K (.ref f) = true) (hb : Binds X.K fd ps ds) (hd : Vals dvs ds) (hdv : ∀ κ H, RVs K κ H dv dvs)
    (tk : Takes X W) (hn : dvs.length = n) (hdb : (x == ("__debug__" : Str)) = false := by decide) : QE X K W (.Call (.Name x p) [] [] pos) (mCall fn dv mNil) := by
  refine ⟨fun pins s σ H Q I ⟨κ, sl, L, rs, rl, h⟩ => ?_⟩
  refine wpAny_Call_Name_kw (ld_glob I hg hm ?_ hdb)
  exact PySem.W.callWith_K0 I.kIn hk (q_run (us := []) F hr hb hd tk I .nil (spF_of hn (hdv κ H) rl h))
theorem insAt_ok {κ : Kp} {H : Hp} {L : LH} {y : LV} {u : V} (rl : RL K κ H L) (ry : RV K κ H y u) (h : insAt L y m c = true) : ∃ a dx fv, u = .ref a ∧ H a = some (.ins (K.cl c) dx fv) ∧ fv.lookup m = none := by
  unfold insAt at h
  cases y with
  | ref n =>
    simp only [] at h
    cases e : L[n]? with
    | none => rw [e] at h; cases h
    | some o =>
      rw [e] at h
      cases o with
      | ins c' fs =>
        simp only [Bool.and_eq_true, beq_iff_eq] at h
        obtain ⟨rfl, hl⟩ := h
        obtain ⟨a, rfl, ha, nf, dx, us, h1, h2⟩ := rl.at e ry (fun z => nomatch z)
        refine ⟨a, dx, us, rfl, h1, ?_⟩
        clear e h1 nf
        induction h2 with
        | nil => rfl
        | @cons p q _ _ r _ ih =>
          rw [List.lookup_cons] at hl ⊢
          rw [← r.1]
          cases z : m == p.1 with
          | true => rw [z] at hl; cases hl
          | false => rw [z] at hl; exact ih hl
      | _ => cases h
  | _ => cases h
theorem qe_meth {pl : Sem Bool} (he : QE X K W o fo) (hc : Cls X.K (K.cl c)) (hm : Meth X.K (K.cl c) m f) (F : FnOk X.prog X.w X.K X.mg X.base (L2.CX X.prog X.w) k f fd ps (spF K n fn)) (hr : Room k X.A) (hb : Binds X.K fd ps ds) (hd : Vals dvs ds) (hdv : ∀ κ H, RVs K κ H dv dvs)
    (tk : Takes X W) (ha : QA X K W (e :: es) fs) (hn : (e :: es).length + dvs.length + 1 = n) (hfl : ∀ s L xs L1, fs s L = .ok xs L1 → xs.length = (e :: es).length)
    (hst : starEach (e :: es) X.env = (false, eval e X.env) :: starEach es X.env := by rfl) (hpl : (backTo pos (starEach es X.env)).any (·.1) = false := by rfl)
    (ht : eval (.Call (.Attribute o m apos) (e :: es) [] pos) X.env = (do
      let ov ← eval o X.env
      standAt apos.atName
      let (f, first) ← holding [ov] (getMethod ov m pl)
      callWith pos f first (backTo pos (starEach (e :: es) X.env)) (backToKw pos (keywordEach [] X.env))) := by rfl) :
    QE X K W (.Call (.Attribute o m apos) (e :: es) [] pos) (mMeth c m fn dv fo fs) := by
  refine ⟨fun pins s σ H Q I ⟨κ, sl, L, rs, rl, h⟩ => ?_⟩
  have ha' : PA X (e :: es) (tA K W fs) := ha
  have he' : PE X o (tE K W fo) := he
  refine PySem.W.methodCall_KW (pl := pl) (thn (he'.run pins s σ H _ I ⟨κ, sl, L, rs, rl, HV.bind (R := RV K) h⟩) fun u s1 ⟨y, H1, I1, ry, κ1, L1, yl, up1, rl1, ryl, q⟩ => ?_) ht
  split at q
  · rename_i hi
    obtain ⟨a, dx, fv, rfl, hH, hl⟩ := insAt_ok rl1 ryl hi
    obtain rfl : u = Value.ref a := ry
    refine getmeth_ok I1 hH hc hm hl ?_
    have hw : tA K W fs σ H1 fun us H2 => us.length = (e :: es).length ∧ ∃ κ2 L2 xs, Up K κ1 H1 κ2 H2 ∧ RL K κ2 H2 L2 ∧ RVs K κ2 H2 xs us ∧ HV K W σ κ2 H2 (RV K) (fn (yl :: (xs ++ dv)) L2) Q := by
      refine ⟨κ1, sl, L1, rs.up up1, rl1, ?_⟩
      cases q2 : fs sl L1 with
      | ok xs L2 =>
        rw [q2] at q
        exact fun κ2 H2 us a b c => ⟨by rw [← c.length]; exact hfl _ _ _ _ q2, κ2, L2, xs, a, b, c, HV.up q a⟩
      | exc c L2 => rw [q2] at q; exact q
      | no => rw [q2] at q; exact q
    refine PySem.W.callWith_K (first := [.ref a]) (h₀ := X.base) I.ok.mod.kin hm.kp (thn (ha'.run pos pins s1 σ H1 _ I1 hw) fun us s2 ⟨vs, H2, I2, r, hlen, κ2, L2, xs, up2, rl2, rv, q2⟩ => ⟨I2.kIn, ?_⟩) hst hpl
    exact q_run (us := .ref a :: us) (vs := .ref a :: vs) F hr hb hd tk I2 (.cons rfl r) (spF_of (by rw [List.cons_append, List.length_cons, List.length_append, hlen]; exact hn) (.cons (ryl.up up2) (rv.append (hdv κ2 H2))) rl2 q2)
  · exact q.elim
theorem qe_meth0 {pl : Sem Bool} (he : QE X K W o fo) (hc : Cls X.K (K.cl c)) (hm : Meth X.K (K.cl c) m f) (F : FnOk X.prog X.w X.K X.mg X.base (L2.CX X.prog X.w) k f fd ps (spF K n fn)) (hr : Room k X.A) (hb : Binds X.K fd ps ds) (hd : Vals dvs ds) (hdv : ∀ κ H, RVs K κ H dv dvs)
    (tk : Takes X W) (hn : dvs.length + 1 = n)
    (ht : eval (.Call (.Attribute o m apos) [] [] pos) X.env = (do
      let ov ← eval o X.env
      standAt apos.atName
      let (f, first) ← holding [ov] (getMethod ov m pl)
      callWith pos f first (backTo pos (starEach [] X.env)) (backToKw pos (keywordEach [] X.env))) := by rfl) :
    QE X K W (.Call (.Attribute o m apos) [] [] pos) (mMeth c m fn dv fo mNil) := by
  refine ⟨fun pins s σ H Q I ⟨κ, sl, L, rs, rl, h⟩ => ?_⟩
  have he' : PE X o (tE K W fo) := he
  refine PySem.W.methodCall_KW (pl := pl) (thn (he'.run pins s σ H _ I ⟨κ, sl, L, rs, rl, HV.bind (R := RV K) h⟩) fun u s1 ⟨y, H1, I1, ry, κ1, L1, yl, up1, rl1, ryl, q⟩ => ?_) ht
  split at q
  · rename_i hi
    obtain ⟨a, dx, fv, rfl, hH, hl⟩ := insAt_ok rl1 ryl hi
    obtain rfl : u = Value.ref a := ry
    refine getmeth_ok I1 hH hc hm hl ?_
    exact PySem.W.callWith_K0 (first := [.ref a]) I1.kIn hm.kp (q_run (us := [.ref a]) (vs := [.ref a]) F hr hb hd tk I1 (.cons rfl .nil) (spF_of hn (.cons ryl (hdv κ1 H1)) rl1 q))
  · exact q.elim
/-- a new instance, then its __init__ -/
theorem q_make {pins : List (Addr × Obj)} {σ : St} {H : Hp} {s : Shared} {Q : VK} {us : List Value} {vs : List V} {κ : Kp} {L : LH} {xs : List LV} (Mm : Mk X.K (K.cl c) f) (F : FnOk X.prog X.w X.K X.mg X.base (L2.CX X.prog X.w) k f fd ps (spF K n fn)) (hr : Room (k + 1) X.A) (hb : Binds X.K fd ps ds) (hd : Vals dvs ds)
    (tk : Takes X W) (I : Inv X pins σ H s) (r : Vals vs us) (hn : (vs ++ dvs).length + 1 = n) (rl : RL K κ H L) (rv : RVs K κ H xs (vs ++ dvs))
    (h : HV K W σ κ H (RV K) ((fn (.ref L.length :: xs) (L ++ [.ins c []])).bind fun v L2 => if isNon v = true then .ok (.ref L.length) L2 else .no) Q) :
    wpAny (model X.prog X.w) X.A (call (.ref (K.cl c)) us) (EP X pins σ Q) X.xe s := by
  have main : ∀ (y dx : Addr), H y = none → H dx = none → dx ≠ y → spF K n fn (.ref y :: (vs ++ dvs)) (upd (upd H dx (.own y)) y (.ins (K.cl c) dx [])) (fun v H2 => v = .non ∧ Q (.ref y) H2) (WE W σ) := by
    intro y dx hy hdx hne
    have rl1 : RL K κ (upd H dx (.own y)) L := rl.junk hdx
    have hy1 : upd H dx (.own y) y = none := by rw [upd_ne (Ne.symm hne)]; exact hy
    have up1 := Up.junk (o := .own y) rl hdx
    have up2 := Up.numb (o := .ins (K.cl c) dx []) rl1 hy1
    have rl2 : RL K (κ.num y) (upd (upd H dx (.own y)) y (.ins (K.cl c) dx [])) (L ++ [.ins c []]) := rl1.numb hy1 ⟨dx, [], upd_same, .nil⟩
    refine spF_of (W := W) (σ := σ) (κ := κ.num y) (L := L ++ [.ins c []]) (xs := .ref L.length :: xs) hn (.cons (new_ref rl1) (rv.up (up1.trans up2))) rl2 ?_
    have h' := (HV.bind (R := RV K) (HV.up h (up1.trans up2)))
    refine h'.imp fun u H1 ⟨κ1, L1, x1, up, rl1', rx, q⟩ => ?_
    split at q
    · rename_i hi
      cases x1 with
      | non =>
        cases rx
        refine ⟨rfl, q κ1 H1 (.ref y) Up.refl rl1' ?_⟩
        exact RV.up up (new_ref rl1)
      | _ => cases hi
    · exact q.elim
  have hq := main (s.heap.objs.size + 1) s.heap.objs.size (I.hok.fresh (Nat.le_succ _)) (I.hok.fresh (Nat.le_refl _)) (Nat.ne_of_lt (Nat.lt_succ_self _))
  have I2 := Inv.made (C := K.cl c) I
  have r2 : Vals (V.ref (s.heap.objs.size + 1) :: (vs ++ dvs)) (Value.ref (s.heap.objs.size + 1) :: (us ++ ds)) := .cons rfl (r.append hd)
  have hl : (Value.ref (s.heap.objs.size + 1) :: us ++ ds).length = ps.length := by
    have e := r2.length
    rw [F.len _ _ _ _ hq] at e
    exact e.symm
  refine wpAny_call (make_map (f := f) I.kIn Mm.makes Mm.init (beq_iff_eq.mp Mm.fn) (codeAny_mono (F.run _ X.stack _ _ ⟨Value.ref (s.heap.objs.size + 1) :: us, []⟩ (Value.ref (s.heap.objs.size + 1) :: (us ++ ds)) _ _ (WE W σ) (hr.make (K.cl c) us [])
    (I2.env0.make (K.cl c) us []) (hb _ (Value.ref (s.heap.objs.size + 1) :: us) I2.kIn hl) r2 hq) fun r s' hq' => ?_))
  cases r with
  | error e => exact passAt tk σ pins _ _ e s' I2 hq'
  | ok fl =>
    cases fl with
    | ret u =>
      obtain ⟨v, H', I3, rv, ev, q3⟩ := I2.after hq'
      subst ev
      exact ⟨rv, ⟨V.ref (s.heap.objs.size + 1), H', I3, rfl, q3⟩⟩
    | next => exact False.elim hq'
    | brk => exact False.elim hq'
    | cont => exact False.elim hq'
theorem qe_make (Mm : Mk X.K (K.cl c) f) (F : FnOk X.prog X.w X.K X.mg X.base (L2.CX X.prog X.w) k f fd ps (spF K n fn)) (hr : Room (k + 1) X.A) (hg : Gl X x) (hm : X.mg x = some (.ref (K.cl c))) (hb : Binds X.K fd ps ds) (hd : Vals dvs ds) (hdv : ∀ κ H, RVs K κ H dv dvs)
    (tk : Takes X W) (ha : QA X K W (e :: es) fs) (hn : (e :: es).length + dvs.length + 1 = n) (hfl : ∀ s L xs L1, fs s L = .ok xs L1 → xs.length = (e :: es).length)
    (hdb : (x == ("__debug__" : Str)) = false := by decide) (he : starEach (e :: es) X.env = (false, eval e X.env) :: starEach es X.env := by rfl) (hpl : (backTo pos (starEach es X.env)).any (·.1) = false := by rfl) :
    QE X K W (.Call (.Name x p) (e :: es) [] pos) (mMake c fn dv fs) := by
  refine ⟨fun pins s σ H Q I ⟨κ, sl, L, rs, rl, h⟩ => ?_⟩
  refine wpAny_Call_Name_kw (ld_glob I hg hm ?_ hdb)
  have ha' : PA X (e :: es) (tA K W fs) := ha
  have hw : tA K W fs σ H fun us H1 => us.length = (e :: es).length ∧ ∃ κ1 L1 xs, Up K κ H κ1 H1 ∧ RL K κ1 H1 L1 ∧ RVs K κ1 H1 xs us ∧
      HV K W σ κ1 H1 (RV K) ((fn (.ref L1.length :: (xs ++ dv)) (L1 ++ [.ins c []])).bind fun v L2 => if isNon v = true then .ok (.ref L1.length) L2 else .no) Q := by
    refine ⟨κ, sl, L, rs, rl, ?_⟩
    unfold mMake at h
    cases q : fs sl L with
    | ok xs L1 =>
      rw [q] at h
      exact fun κ1 H1 us a b c => ⟨by rw [← c.length]; exact hfl _ _ _ _ q, κ1, L1, xs, a, b, c, HV.up h a⟩
    | exc c L1 => rw [q] at h; exact h
    | no => rw [q] at h; exact h
  refine PySem.W.callWith_K (h₀ := X.base) I.ok.mod.kin Mm.kp (thn (ha'.run pos pins s σ H _ I hw) fun us s1 ⟨vs, H1, I1, r, hl, κ1, L1, xs, up, rl1, rv, q⟩ => ⟨I1.kIn, ?_⟩) he hpl
  exact q_make Mm F hr hb hd tk I1 r (by rw [List.length_append, hl]; exact hn) rl1 (rv.append (hdv κ1 H1)) q
theorem qe_make0 (Mm : Mk X.K (K.cl c) f) (F : FnOk X.prog X.w X.K X.mg X.base (L2.CX X.prog X.w) k f fd ps (spF K n fn)) (hr : Room (k + 1) X.A) (hg : Gl X x) (hm : X.mg x = some (.ref (K.cl c))) (hb : Binds X.K fd ps ds) (hd : Vals dvs ds) (hdv : ∀ κ H, RVs K κ H dv dvs)
    (tk : Takes X W) (hn : dvs.length + 1 = n) (hdb : (x == ("__debug__" : Str)) = false := by decide) : QE X K W (.Call (.Name x p) [] [] pos) (mMake c fn dv mNil) := by
  refine ⟨fun pins s σ H Q I ⟨κ, sl, L, rs, rl, h⟩ => ?_⟩
  refine wpAny_Call_Name_kw (ld_glob I hg hm ?_ hdb)
  exact PySem.W.callWith_K0 I.kIn Mm.kp (q_make (us := []) (vs := []) Mm F hr hb hd tk I .nil hn rl (hdv κ H) h)
end
/-- how many arguments a list has -/
theorem len_nil : ∀ s L xs L1, mNil s L = .ok xs L1 → xs.length = 0 := fun s L xs L1 h => by cases h; rfl
theorem len_cons {f : Sl → M LV} {g : Sl → M (List LV)} {n : Nat} (hg : ∀ s L xs L1, g s L = .ok xs L1 → xs.length = n) : ∀ s L xs L1, mCons f g s L = .ok xs L1 → xs.length = n + 1 := fun s L xs L1 h => by
  unfold mCons at h
  cases e : f s L with
  | ok v L2 =>
    rw [e] at h
    have h : ((g s L2).bind fun xs L3 => Res.ok (v :: xs) L3) = .ok xs L1 := h
    cases e2 : g s L2 with
    | ok vs L3 => rw [e2] at h; cases h; rw [List.length_cons, hg _ _ _ _ e2]
    | exc c L3 => rw [e2] at h; cases h
    | no => rw [e2] at h; cases h
  | exc c L2 => rw [e] at h; cases h
  | no => rw [e] at h; cases h
end Q
end
section
set_option Elab.async false
set_option linter.all false
set_option maxRecDepth 100000
set_option maxHeartbeats 4000000
namespace Q
open PySem PySem.Spec L2
/-! ### operators by values -/
def tview : LV → Option (List LV)
  | .tup xs => some xs
  | .st xs => some xs
  | _ => none
/-- what a list holds -/
def lview (L : LH) : LV → Option (List LV)
  | .fl xs => some xs
  | .ref n => match L[n]? with
    | some (.lst xs) => some xs
    | _ => none
  | _ => none
/-- .. also of a list that is locked -/
def lviewR (L : LH) : LV → Option (List LV)
  | .sl xs => some xs
  | v => lview L v
section
variable {X : Cx} {K : Kt} {κ : Kp} {H : Hp} {L : LH} {W : WX} {σ : St} {Q : VK} {x y : LV} {u v : V} {xs : List LV}
theorem tview_ok (rx : RV K κ H x u) (h : tview x = some xs) : ∃ a us, u = .ref a ∧ SqT K.K H a us ∧ RVs K κ H xs us := by
  cases x with
  | tup ys =>
    cases h
    cases rx with
    | tup h1 h2 => exact ⟨_, _, rfl, SqT.of h1.2, h2⟩
  | st ys =>
    cases h
    cases rx with
    | st h1 h2 => exact ⟨_, _, rfl, h1.sq, h2⟩
  | _ => cases h
theorem lview_ok (rl : RL K κ H L) (rx : RV K κ H x u) (h : lview L x = some xs) : ∃ a us, u = .ref a ∧ H a = some (.lst us) ∧ RVs K κ H xs us := by
  cases x with
  | fl ys =>
    cases h
    cases rx with
    | fl h1 h2 => exact ⟨_, _, rfl, h1.2, h2⟩
  | ref n =>
    have h' : (match L[n]? with
      | some (.lst xs) => some xs
      | _ => none) = some xs := h
    cases e : L[n]? with
    | none => rw [e] at h'; cases h'
    | some o =>
      rw [e] at h'
      cases o with
      | lst ys =>
        cases h'
        obtain ⟨a, rfl, ha, _, us, h1, h2⟩ := rl.at e rx (fun z => nomatch z)
        exact ⟨a, us, rfl, h1, h2⟩
      | _ => cases h'
  | _ => cases h
theorem lviewR_ok (rl : RL K κ H L) (rx : RV K κ H x u) (h : lviewR L x = some xs) : ∃ a us, u = .ref a ∧ SqL K.K H a us ∧ RVs K κ H xs us := by
  have main : lview L x = some xs → ∃ a us, u = .ref a ∧ SqL K.K H a us ∧ RVs K κ H xs us := fun h => by
    obtain ⟨a, us, h1, h2, h3⟩ := lview_ok rl rx h
    exact ⟨a, us, h1, SqL.of h2, h3⟩
  cases x with
  | sl ys =>
    cases h
    cases rx with
    | sl h1 h2 =>
      refine ⟨_, _, rfl, ?_, h2⟩
      rcases h1 with ⟨_, h1⟩ | h1
      · exact .inl h1
      · exact h1.sq
  | _ => exact main h

/-- an operator over two values of which the function reads the form -/
theorem OpQ.or {F : Value → Value → Sem Value} {r : R2} {g : LV → LV → M LV} (h1 : OpR X F r)
    (h2 : ∀ (W : WX) (κ : Kp) (H : Hp) (L : LH) (x y : LV) (u v : V) (σ : St) (Q : VK), RL K κ H L → RV K κ H x u → RV K κ H y v → HV K W σ κ H (RV K) (g x y L) Q → r u v H Q) : OpQ X K F g := ⟨r, h1, h2⟩
def gI (p : Int → Int → LV) : LV → LV → M LV := fun x y L => match x, y with
  | .int i, .int j => .ok (p i j) L
  | _, _ => .no
def gIc (c : Int → Int → Bool) (p : Int → Int → LV) : LV → LV → M LV := fun x y L => match x, y with
  | .int i, .int j => if c i j = true then .ok (p i j) L else .no
  | _, _ => .no
theorem gI_ok {p : Int → Int → LV} (h : HV K W σ κ H (RV K) (gI p x y L) Q) (rl : RL K κ H L) (rx : RV K κ H x u) (ry : RV K κ H y v) : ∃ i j, u = .int i ∧ v = .int j ∧ HV K W σ κ H (RV K) (.ok (p i j) L) Q := by
  unfold gI at h
  split at h
  · cases rx; cases ry; exact ⟨_, _, rfl, rfl, h⟩
  · exact h.elim
theorem gIc_ok {p : Int → Int → LV} {c : Int → Int → Bool} (h : HV K W σ κ H (RV K) (gIc c p x y L) Q) (rl : RL K κ H L) (rx : RV K κ H x u) (ry : RV K κ H y v) : ∃ i j, u = .int i ∧ v = .int j ∧ c i j = true ∧ HV K W σ κ H (RV K) (.ok (p i j) L) Q := by
  unfold gIc at h
  split at h
  · split at h
    · cases rx; cases ry; exact ⟨_, _, rfl, rfl, by assumption, h⟩
    · exact h.elim
  · exact h.elim
theorem HV.now {z : LV} {w : V} (h : HV K W σ κ H (RV K) (.ok z L) Q) (rl : RL K κ H L) (r : RV K κ H z w) : Q w H := h κ H w Up.refl rl r
/-- + -/
def gAdd : LV → LV → M LV := fun x y L => match x, y with
  | .int i, .int j => .ok (.int (i + j)) L
  | .str a, .str b => if a.length + b.length ≤ 16777216 then .ok (.str (a ++ b)) L else .no
  | _, _ => match tview x, tview y with
    | some xs, some ys => if xs.length + ys.length ≤ 16777216 then (if xs = [] then .ok y L else if ys = [] then .ok x L else .ok (.tup (xs ++ ys)) L) else .no
    | _, _ => match lview L x, lview L y with
      | some xs, some ys => if xs.length + ys.length ≤ 16777216 then .ok (.fl (xs ++ ys)) L else .no
      | _, _ => .no
theorem RVs.nil_iff {xs : List LV} {us : List V} (r : RVs K κ H xs us) : us = [] ↔ xs = [] := by
  cases r with
  | nil => simp
  | cons _ _ => simp
theorem oq_add (hK : X.K = K.K) : OpQ X K (binaryOp .Add) gAdd := by
  refine ⟨_, OpR.or op_add (OpR.or op_add_str (OpR.or op_catA op_cat)), fun W κ H L x y u v σ Q rl rx ry h => ?_⟩
  unfold gAdd at h
  split at h
  · cases rx; cases ry; exact .inl ⟨_, _, rfl, rfl, h.now rl (.int _)⟩
  · split at h
    · rename_i hl
      cases rx; cases ry
      exact .inr (.inl ⟨_, _, rfl, rfl, by rw [sizeLine_eq]; exact hl, h.now rl (.str _)⟩)
    · exact h.elim
  · split at h
    · rename_i xs ys hx hy
      obtain ⟨a, us, rfl, h1, h2⟩ := tview_ok rx hx
      obtain ⟨b, vs, rfl, h3, h4⟩ := tview_ok ry hy
      split at h
      · rename_i hl
        refine .inr (.inr (.inl ⟨a, b, us, vs, rfl, rfl, by rw [hK]; exact h1, by rw [hK]; exact h3, by rw [← h2.length, ← h4.length, sizeLine_eq]; exact hl, fun e => ?_, fun e1 e2 => ?_, fun e1 e2 p hp => ?_⟩))
        · rw [if_pos (h2.nil_iff.mp e)] at h
          exact h.now rl ry
        · rw [if_neg fun z => e1 (h2.nil_iff.mpr z), if_pos (h4.nil_iff.mp e2)] at h
          exact h.now rl rx
        · rw [if_neg fun z => e1 (h2.nil_iff.mpr z), if_neg fun z => e2 (h4.nil_iff.mpr z)] at h
          exact h (κ.more p) _ _ (Up.froz rl hp) (rl.froz hp) (new_tup rl hp (h2.append h4))
      · exact h.elim
    · split at h
      · rename_i xs ys hx hy
        obtain ⟨a, us, rfl, h1, h2⟩ := lview_ok rl rx hx
        obtain ⟨b, vs, rfl, h3, h4⟩ := lview_ok rl ry hy
        split at h
        · rename_i hl
          exact .inr (.inr (.inr ⟨a, b, us, vs, rfl, rfl, h1, h3, by rw [← h2.length, ← h4.length, sizeLine_eq]; exact hl, fun p hp => h (κ.more p) _ _ (Up.froz rl hp) (rl.froz hp) (new_fl rl hp (h2.append h4))⟩))
        · exact h.elim
      · exact h.elim
theorem oq_sub : OpQ X K (binaryOp .Sub) (gI fun i j => .int (i - j)) :=
  ⟨_, op_sub, fun W κ H L x y u v σ Q rl rx ry h => let ⟨i, j, e1, e2, q⟩ := gI_ok h rl rx ry; ⟨i, j, e1, e2, q.now rl (.int _)⟩⟩
def cMul (i j : Int) : Bool := (decide (-(2 ^ 64) < i) && decide (i < 2 ^ 64)) || (decide (-(2 ^ 64) < j) && decide (j < 2 ^ 64))
/-- * of ints, and of a list and an int -/
def gMul : LV → LV → M LV := fun x y L => match x, y with
  | .int i, .int j => if cMul i j = true then .ok (.int (i * j)) L else .no
  | x, .int k => match lview L x with
    | some xs => if -1000000 < k ∧ k < 1000000 ∧ xs.length * k.toNat ≤ 16777216 then .ok (.fl (List.replicate k.toNat xs).flatten) L else .no
    | none => .no
  | _, _ => .no
theorem RVs.flat {xs : List LV} {us : List V} (r : RVs K κ H xs us) : ∀ n : Nat, RVs K κ H (List.replicate n xs).flatten (List.replicate n us).flatten
  | 0 => .nil
  | n + 1 => by rw [List.replicate_succ, List.replicate_succ, List.flatten_cons, List.flatten_cons]; exact r.append (RVs.flat r n)
theorem oq_mul : OpQ X K (binaryOp .Mult) gMul := by
  refine ⟨_, OpR.or op_mul op_rep, fun W κ H L x y u v σ Q rl rx ry h => ?_⟩
  unfold gMul at h
  split at h
  · split at h
    · rename_i hc
      cases rx; cases ry
      refine .inl ⟨_, _, rfl, rfl, ?_, h.now rl (.int _)⟩
      unfold cMul at hc
      simpa [CMul] using hc
    · exact h.elim
  · split at h
    · rename_i xs hx
      cases ry
      obtain ⟨a, us, rfl, h1, h2⟩ := lview_ok rl rx hx
      split at h
      · rename_i hl
        exact .inr ⟨a, _, us, rfl, rfl, h1, by omega, by omega, by rw [← h2.length, sizeLine_eq]; exact hl.2.2, fun p hp => h (κ.more p) _ _ (Up.froz rl hp) (rl.froz hp) (new_fl rl hp (h2.flat _))⟩
      · exact h.elim
    · exact h.elim
  · exact h.elim
theorem oq_fdiv : OpQ X K (binaryOp .FloorDiv) (gIc (fun _ j => decide (0 < j) && decide (j < 1073741824)) fun i j => .int (i / j)) :=
  ⟨_, op_fdiv, fun W κ H L x y u v σ Q rl rx ry h => let ⟨i, j, e1, e2, c, q⟩ := gIc_ok h rl rx ry; ⟨i, j, e1, e2, by simpa [CDiv] using c, q.now rl (.int _)⟩⟩
theorem oq_mod : OpQ X K (binaryOp .Mod) (gIc (fun _ j => decide (0 < j)) fun i j => .int (i % j)) :=
  ⟨_, op_mod, fun W κ H L x y u v σ Q rl rx ry h => let ⟨i, j, e1, e2, c, q⟩ := gIc_ok h rl rx ry; ⟨i, j, e1, e2, by simpa using c, q.now rl (.int _)⟩⟩
theorem oq_pow : OpQ X K (binaryOp .Pow) (gIc (fun i j => decide (0 ≤ j) && decide (j ≤ 1000) && decide (i.natAbs < 2 ^ 64)) fun i j => .int (i ^ j.toNat)) :=
  ⟨_, op_pow, fun W κ H L x y u v σ Q rl rx ry h => let ⟨i, j, e1, e2, c, q⟩ := gIc_ok h rl rx ry; ⟨i, j, e1, e2, by
    simp only [Bool.and_eq_true, decide_eq_true_eq] at c
    exact ⟨c.1.1, by omega, c.2⟩, q.now rl (.int _)⟩⟩
theorem uq_neg : UnQ X K (unaryOp .USub) (fun x L => match x with | .int i => .ok (.int (-i)) L | _ => .no) :=
  ⟨_, un_neg, fun W κ H L x u σ Q rl rx h => by
    cases x with
    | int i => cases rx; exact ⟨i, rfl, h.now rl (.int _)⟩
    | _ => exact h.elim⟩
/-! ### comparisons -/
def gCmp (p : Int → Int → Bool) (q : List Nat → List Nat → Bool) : LV → LV → M LV := fun x y L => match x, y with
  | .int i, .int j => .ok (.bl (p i j)) L
  | .str a, .str b => .ok (.bl (q a.cps.toList b.cps.toList)) L
  | _, _ => .no
theorem gCmp_ok {p : Int → Int → Bool} {q : List Nat → List Nat → Bool} (h : HV K W σ κ H (RV K) (gCmp p q x y L) Q) (rl : RL K κ H L) (rx : RV K κ H x u) (ry : RV K κ H y v) :
    (∃ i j, u = .int i ∧ v = .int j ∧ Q (.bl (p i j)) H) ∨ ∃ a b, u = .str a ∧ v = .str b ∧ Q (.bl (q a.cps.toList b.cps.toList)) H := by
  unfold gCmp at h
  split at h
  · cases rx; cases ry; exact .inl ⟨_, _, rfl, rfl, h.now rl (.bl _)⟩
  · cases rx; cases ry; exact .inr ⟨_, _, rfl, rfl, h.now rl (.bl _)⟩
  · exact h.elim
abbrev gLt := gCmp (fun i j => decide (i < j)) fun a b => decide (a < b)
abbrev gLe := gCmp (fun i j => decide (i ≤ j)) fun a b => !decide (b < a)
abbrev gGt := gCmp (fun i j => decide (j < i)) fun a b => decide (b < a)
abbrev gGe := gCmp (fun i j => decide (j ≤ i)) fun a b => !decide (a < b)
theorem oq_lt : OpQ X K (compareOp .Lt) gLt := ⟨_, OpR.or op_lt op_lt_str, fun W κ H L x y u v σ Q rl rx ry h => gCmp_ok h rl rx ry⟩
theorem oq_le : OpQ X K (compareOp .LtE) gLe := ⟨_, OpR.or op_le op_le_str, fun W κ H L x y u v σ Q rl rx ry h => gCmp_ok h rl rx ry⟩
theorem oq_gt : OpQ X K (compareOp .Gt) gGt := ⟨_, OpR.or op_gt op_gt_str, fun W κ H L x y u v σ Q rl rx ry h => gCmp_ok h rl rx ry⟩
theorem oq_ge : OpQ X K (compareOp .GtE) gGe := ⟨_, OpR.or op_ge op_ge_str, fun W κ H L x y u v σ Q rl rx ry h => gCmp_ok h rl rx ry⟩
def gIsN (neg : Bool) : LV → LV → M LV := fun x y L => match y with
  | .non => .ok (.bl (if neg then !isNon x else isNon x)) L
  | _ => .no
theorem isNon_ok (rx : RV K κ H x u) : isNon x = decide (u = .non) := by cases rx <;> rfl
theorem oq_isN : OpQ X K (compareOp .Is) (gIsN false) := ⟨_, op_isN, fun W κ H L x y u v σ Q rl rx ry h => by
  cases y with
  | non => cases ry; exact ⟨rfl, by rw [← isNon_ok rx]; exact h.now rl (.bl _)⟩
  | _ => exact h.elim⟩
theorem oq_notN : OpQ X K (compareOp .IsNot) (gIsN true) := ⟨_, op_notN, fun W κ H L x y u v σ Q rl rx ry h => by
  cases y with
  | non => cases ry; exact ⟨rfl, by rw [← isNon_ok rx]; exact h.now rl (.bl _)⟩
  | _ => exact h.elim⟩
/-! ### == of data -/
mutual
def toD : LV → Option PyData
  | .non => some .none
  | .bl b => some (.bool b)
  | .int i => some (.int i)
  | .str x => some (.str x)
  | .tup xs => (toDs xs).map .tuple
  | .st xs => (toDs xs).map .tuple
  | .fl xs => (toDs xs).map .list
  | .sl xs => (toDs xs).map .list
  | _ => none
def toDs : List LV → Option (List PyData)
  | [] => some []
  | x :: xs => match toD x, toDs xs with
    | some d, some ds => some (d :: ds)
    | _, _ => none
end
mutual
theorem toD_ok : ∀ {x : LV} {u : V} {d : PyData}, RV K κ H x u → toD x = some d → Dp K.K H u d
  | _, _, _, .non, e => by simp [toD] at e; subst e; exact .non
  | _, _, _, .bl b, e => by simp [toD] at e; subst e; exact .bl b
  | _, _, _, .int i, e => by simp [toD] at e; subst e; exact .int i
  | _, _, _, .str z, e => by simp [toD] at e; subst e; exact .str z
  | _, _, _, .ref _, e => by simp [toD] at e
  | _, _, _, .adr _, e => by simp [toD] at e
  | _, _, _, .ty _, e => by simp [toD] at e
  | _, _, _, .tup h r, e => by
    simp only [toD, Option.map_eq_some_iff] at e
    obtain ⟨ds, e1, rfl⟩ := e
    exact .tup (SqT.of h.2) (toDs_ok r e1)
  | _, _, _, .st h r, e => by
    simp only [toD, Option.map_eq_some_iff] at e
    obtain ⟨ds, e1, rfl⟩ := e
    exact .tup h.sq (toDs_ok r e1)
  | _, _, _, .fl h r, e => by
    simp only [toD, Option.map_eq_some_iff] at e
    obtain ⟨ds, e1, rfl⟩ := e
    exact .lst (SqL.of h.2) (toDs_ok r e1)
  | _, _, _, .sl h r, e => by
    simp only [toD, Option.map_eq_some_iff] at e
    obtain ⟨ds, e1, rfl⟩ := e
    exact .lst (h.elim (fun z => .inl z.2) fun z => z.sq) (toDs_ok r e1)
theorem toDs_ok : ∀ {x : List LV} {u : List V} {d : List PyData}, RVs K κ H x u → toDs x = some d → DpAll K.K H u d
  | _, _, _, .nil, e => by simp [toDs] at e; subst e; exact .nil
  | x :: xs, _, d, .cons h r, e => by
    unfold toDs at e
    cases e1 : toD x with
    | none => rw [e1] at e; cases e
    | some d1 =>
      cases e2 : toDs xs with
      | none => rw [e1, e2] at e; cases e
      | some ds =>
        rw [e1, e2] at e
        cases e
        exact .cons (toD_ok h e1) (toDs_ok r e2)
end
/-- a list with a number, as it stands -/
def vw (L : LH) (x : LV) : LV := match lview L x with
  | some xs => .fl xs
  | none => x
theorem vw_ok {d : PyData} (rl : RL K κ H L) (rx : RV K κ H x u) (h : toD (vw L x) = some d) : Dp K.K H u d := by
  unfold vw at h
  cases e : lview L x with
  | none => rw [e] at h; exact toD_ok rx h
  | some xs =>
    rw [e] at h
    obtain ⟨a, us, rfl, h1, h2⟩ := lview_ok rl rx e
    simp only [toD, Option.map_eq_some_iff] at h
    obtain ⟨ds, e1, rfl⟩ := h
    exact .lst (SqL.of h1) (toDs_ok h2 e1)
def gEq (neg : Bool) : LV → LV → M LV := fun x y L => match x, y with
  | .int i, .int j => .ok (.bl (if neg then !decide (i = j) else decide (i = j))) L
  | .str i, .str j => .ok (.bl (if neg then !decide (i = j) else decide (i = j))) L
  | .bl i, .bl j => .ok (.bl (if neg then !decide (i = j) else decide (i = j))) L
  | .non, .int _ => .ok (.bl neg) L
  | .int _, .non => .ok (.bl neg) L
  | .non, .str _ => .ok (.bl neg) L
  | .str _, .non => .ok (.bl neg) L
  | .non, .non => .ok (.bl (!neg)) L
  | x, y => match toD (vw L x), toD (vw L y) with
    | some d, some e => if SeqAt.shaped d = true ∧ SeqAt.shaped e = true then .ok (.bl (if neg then !PyData.eqv d e else PyData.eqv d e)) L else .no
    | _, _ => .no
theorem gEq_ok {neg : Bool} (h : HV K W σ κ H (RV K) (gEq neg x y L) Q) (rl : RL K κ H L) (rx : RV K κ H x u) (ry : RV K κ H y v) :
    (scal u v = true ∧ Q (.bl (if neg then !decide (u = v) else decide (u = v))) H) ∨ ∃ d e, Dp K.K H u d ∧ Dp K.K H v e ∧ SeqAt.shaped d = true ∧ SeqAt.shaped e = true ∧ Q (.bl (if neg then !PyData.eqv d e else PyData.eqv d e)) H := by
  unfold gEq at h
  have iI : ∀ i j : Int, decide (V.int i = V.int j) = decide (i = j) := fun i j => by simp
  have iS : ∀ i j : Str, decide (V.str i = V.str j) = decide (i = j) := fun i j => by simp
  have iB : ∀ i j : Bool, decide (V.bl i = V.bl j) = decide (i = j) := fun i j => by simp
  split at h
  · cases rx; cases ry; exact .inl ⟨rfl, by rw [iI]; exact h.now rl (.bl _)⟩
  · cases rx; cases ry; exact .inl ⟨rfl, by rw [iS]; exact h.now rl (.bl _)⟩
  · cases rx; cases ry; exact .inl ⟨rfl, by rw [iB]; exact h.now rl (.bl _)⟩
  · cases rx; cases ry; exact .inl ⟨rfl, by have := h.now rl (.bl _); cases neg <;> exact this⟩
  · cases rx; cases ry; exact .inl ⟨rfl, by have := h.now rl (.bl _); cases neg <;> exact this⟩
  · cases rx; cases ry; exact .inl ⟨rfl, by have := h.now rl (.bl _); cases neg <;> exact this⟩
  · cases rx; cases ry; exact .inl ⟨rfl, by have := h.now rl (.bl _); cases neg <;> exact this⟩
  · cases rx; cases ry; exact .inl ⟨rfl, by have := h.now rl (.bl _); cases neg <;> exact this⟩
  · split at h
    · rename_i d e hd he
      split at h
      · rename_i hs
        exact .inr ⟨d, e, vw_ok rl rx hd, vw_ok rl ry he, hs.1, hs.2, h.now rl (.bl _)⟩
      · exact h.elim
    · exact h.elim
theorem oq_eq (hK : X.K = K.K) (hu : X.A.units + 64 < cLine) : OpQ X K (compareOp .Eq) (gEq false) :=
  ⟨_, OpR.or op_eq (op_eqD hu), fun W κ H L x y u v σ Q rl rx ry h => by
    rcases gEq_ok h rl rx ry with z | z
    · exact .inl z
    · refine .inr ?_
      rw [hK]
      exact z⟩
theorem oq_ne (hK : X.K = K.K) (hu : X.A.units + 64 < cLine) : OpQ X K (compareOp .NotEq) (gEq true) :=
  ⟨_, OpR.or op_ne (op_neD hu), fun W κ H L x y u v σ Q rl rx ry h => by
    rcases gEq_ok h rl rx ry with z | z
    · exact .inl z
    · refine .inr ?_
      rw [hK]
      exact z⟩
end
end Q
end
section
set_option Elab.async false
set_option linter.all false
set_option maxRecDepth 100000
set_option maxHeartbeats 4000000
namespace Q
open PySem PySem.Spec L2
section
variable {X : Cx} {K : Kt} {κ : Kp} {H : Hp} {L : LH} {W : WX} {σ : St} {x y : LV} {u v : V} {xs : List LV} {us : List V} {e e2 o i value : Expr} {es : List Expr} {pos p apos tpos cpos pos' : Pos} {f : Str} {fo fa fb fc : Sl → M LV} {fs : Sl → M (List LV)} {c n : Nat}
/-! ### the attributes of instances -/
def fldOf (c : Nat) (f : Str) (L : LH) (x : LV) : Option LV := match x with
  | .ref n => match L[n]? with
    | some (.ins c' fs) => if c' = c then fs.lookup f else none
    | _ => none
  | _ => none
def mFld (c : Nat) (f : Str) (fo : Sl → M LV) : Sl → M LV := fun s L => (fo s L).bind fun x L1 => match fldOf c f L1 x with
  | some v => .ok v L1
  | none => .no
theorem Keyed.look {T : Type} [BEq T] {f : T} : ∀ {fs : List (T × LV)} {us : List (T × V)}, Keyed K κ H fs us → (∀ v, fs.lookup f = some v → ∃ u, us.lookup f = some u ∧ RV K κ H v u) ∧ (fs.lookup f = none → us.lookup f = none)
  | _, _, .nil => ⟨fun v h => (by cases h), fun _ => rfl⟩
  | _, _, .cons (a := p) (b := q) h r => by
    obtain ⟨h1, h2⟩ := Keyed.look (f := f) r
    have e : q.1 = p.1 := h.1.symm
    rw [List.lookup_cons, List.lookup_cons, e]
    cases f == p.1 with
    | true => exact ⟨fun v hv => ⟨q.2, rfl, by cases hv; exact h.2⟩, fun z => (by cases z)⟩
    | false => exact ⟨h1, h2⟩
theorem fldOf_ok (rl : RL K κ H L) (rx : RV K κ H x u) (h : fldOf c f L x = some y) : ∃ a dx fv v, u = .ref a ∧ H a = some (.ins (K.cl c) dx fv) ∧ fv.lookup f = some v ∧ RV K κ H y v := by
  unfold fldOf at h
  cases x with
  | ref n =>
    simp only [] at h
    cases e : L[n]? with
    | none => rw [e] at h; cases h
    | some ob =>
      rw [e] at h
      cases ob with
      | ins c' fs =>
        simp only [] at h
        split at h
        · rename_i hc
          subst hc
          obtain ⟨a, rfl, ha, _, dx, us, h1, h2⟩ := rl.at e rx (fun z => nomatch z)
          obtain ⟨w, h3, h4⟩ := (Keyed.look h2).1 _ h
          exact ⟨a, dx, us, w, rfl, h1, h3, h4⟩
        · cases h
      | _ => cases h
  | _ => cases h
theorem qe_fld (hK : X.K = K.K) (he : QE X K W e fo) (hc : Cls K.K (K.cl c)) (hn : NoAttr K.K (K.cl c) f) (hb : attributeBase e f X.env (eval e X.env) = eval e X.env := by rfl) : QE X K W (.Attribute e f pos) (mFld c f fo) :=
  PE.weak (pe_fld he hb) fun σ H Q ⟨κ, s, L, rs, rl, h⟩ => ⟨κ, s, L, rs, rl, (HV.bind (R := RV K) h).imp fun u H1 ⟨κ1, L1, x, up, rl1, rx, q⟩ => by
    cases e : fldOf c f L1 x with
    | none => rw [e] at q; exact q.elim
    | some y =>
      rw [e] at q
      obtain ⟨a, dx, fv, v, rfl, h1, h2, h3⟩ := fldOf_ok rl1 rx e
      exact ⟨a, _, dx, fv, v, rfl, h1, by rw [hK]; exact hc, by rw [hK]; exact hn, h2, q.now rl1 h3⟩⟩
def putL (f : Str) (v : LV) : List (Str × LV) → List (Str × LV)
  | [] => [(f, v)]
  | (g, w) :: r => if g = f then (g, v) :: r else (g, w) :: putL f v r
theorem Keyed.put {v : LV} {u : V} (r : RV K κ H v u) : ∀ {fs : List (Str × LV)} {us : List (Str × V)}, Keyed K κ H fs us → Keyed K κ H (putL f v fs) (putF f u us)
  | _, _, .nil => .cons ⟨rfl, r⟩ .nil
  | (g, w) :: fs, (g', w') :: us, .cons h t => by
    have e : g = g' := h.1
    subst e
    unfold putL putF
    split
    · exact .cons ⟨rfl, r⟩ t
    · exact .cons ⟨rfl, h.2⟩ (Keyed.put r t)
theorem Keyed.length {T : Type} : ∀ {fs : List (T × LV)} {us : List (T × V)}, Keyed K κ H fs us → fs.length = us.length
  | _, _, .nil => rfl
  | _, _, .cons _ t => by rw [List.length_cons, List.length_cons, Keyed.length t]
/-- the objects behind x.f = v -/
def setFld (c : Nat) (f : Str) (v : LV) (L : LH) (x : LV) : Option LH := match x with
  | .ref n => match L[n]? with
    | some (.ins c' fs) => if c' = c ∧ fs.length < 1000 then some (L.set n (.ins c (putL f v fs))) else none
    | _ => none
  | _ => none
theorem setFld_ok {L' : LH} {v : LV} {w : V} (rl : RL K κ H L) (rx : RV K κ H x u) (rv : RV K κ H v w) (h : setFld c f v L x = some L') :
    ∃ a dx fv, u = .ref a ∧ H a = some (.ins (K.cl c) dx fv) ∧ fv.length < 1000 ∧ Up K κ H κ (upd H a (.ins (K.cl c) dx (putF f w fv))) ∧ RL K κ (upd H a (.ins (K.cl c) dx (putF f w fv))) L' := by
  unfold setFld at h
  cases x with
  | ref n =>
    simp only [] at h
    cases e : L[n]? with
    | none => rw [e] at h; cases h
    | some ob =>
      rw [e] at h
      cases ob with
      | ins c' fs =>
        simp only [] at h
        split at h
        · rename_i hc
          obtain ⟨rfl, hl⟩ := hc
          cases h
          obtain ⟨a, rfl, ha, _, dx, us, h1, h2⟩ := rl.at e rx (fun z => nomatch z)
          have up := Up.chg (ho := .ins (K.cl c') dx (putF f w us)) rl e (fun z => nomatch z) ha
          exact ⟨a, dx, us, rfl, h1, by rw [← Keyed.length h2]; exact hl, up, rl.chg e (fun z => nomatch z) ha ⟨dx, _, upd_same, (Keyed.put rv h2).up up⟩⟩
        · cases h
      | _ => cases h
  | _ => cases h
def mSetFld (c : Nat) (f : Str) (fo fv : Sl → M LV) : MS := fun s L => lift s (fun v L1 => lift s (fun x L2 => match setFld c f v L2 x with
  | some L3 => .next s L3
  | none => .no) (fo s L1)) (fv s L)
theorem qs_fld (hK : X.K = K.K) (ha : QE X K W o fo) (hv : QE X K W value fb) (hc : Cls K.K (K.cl c)) (hn : NoAttr K.K (K.cl c) f) (hs : swapsWith value (some (.Attribute o f pos')) pos.line X.env = pure false := by rfl) :
    QS X K W (.Assign [.Attribute o f pos'] value pos) (mSetFld c f fo fb) :=
  PS.weak (ps_fld ha hv hs) fun D σ H ⟨κ, s, L, rs, rl, h⟩ => ⟨κ, s, L, rs, rl, (HS.lift (R := RV K) rs h).imp fun u H1 ⟨κ1, L1, v, up, rl1, rv, q⟩ => ⟨κ1, s, L1, rs.up up, rl1, (HS.lift (R := RV K) (rs.up up) q).imp fun w H2 ⟨κ2, L2, x, up2, rl2, rx, q2⟩ => by
    cases e : setFld c f v L2 x with
    | none => rw [e] at q2; exact q2.elim
    | some L3 =>
      rw [e] at q2
      obtain ⟨a, dx, fv, rfl, h1, h2, h3, h4⟩ := setFld_ok rl2 rx (rv.up up2) e
      exact ⟨a, _, dx, fv, rfl, h1, by rw [hK]; exact hc, by rw [hK]; exact hn, h2, q2 κ2 _ σ h3 h4 (((rs.up up).up up2).up h3)⟩⟩⟩
/-- an operator in place -/
def IpQ (X : Cx) (K : Kt) (op : Operator) (g : LV → LV → M LV) : Prop :=
  ∃ r : V → V → Hp → VK → Prop, PIp X op r ∧ ∀ (W : WX) (κ : Kp) (H : Hp) (L : LH) (x y : LV) (u v : V) (σ : St) (Q : VK), RL K κ H L → RV K κ H x u → RV K κ H y v → HV K W σ κ H (RV K) (g x y L) Q → r u v H Q
theorem iq_add : IpQ X K .Add (gI fun i j => .int (i + j)) := ⟨_, ip_add, fun W κ H L x y u v σ Q rl rx ry h => let ⟨i, j, e1, e2, q⟩ := gI_ok h rl rx ry; ⟨i, j, e1, e2, q.now rl (.int _)⟩⟩
theorem iq_sub : IpQ X K .Sub (gI fun i j => .int (i - j)) := ⟨_, ip_sub, fun W κ H L x y u v σ Q rl rx ry h => let ⟨i, j, e1, e2, q⟩ := gI_ok h rl rx ry; ⟨i, j, e1, e2, q.now rl (.int _)⟩⟩
def mAug (k : Nat) (g : LV → LV → M LV) (fe : Sl → M LV) : MS := fun s L => match s[k]? with
  | some (some x) => lift s (fun y L1 => lift s (fun z L2 => .next (s.set k (some z)) L2) (g x y L1)) (fe s L)
  | _ => .no
theorem qs_aug {k : Nat} {z : Str} {op : Operator} {g : LV → LV → M LV} (hN : X.N.Nodup) (hi : X.N[k]? = some z) (hx : Loc X.env.scope z) (he : QE X K W e fo) (ho : IpQ X K op g) (hf : X.fn z = true ∨ X.env.scope.names.lookup z = some .local := by first | exact .inl rfl | exact .inr rfl | assumption) :
    QS X K W (.AugAssign (.Name z pos') op e pos) (mAug k g fo) := by
  obtain ⟨r, h1, h2⟩ := ho
  refine PS.weak (ps_aug hN hi hx he h1 hf) fun D σ H ⟨κ, s, L, rs, rl, h⟩ => ?_
  unfold mAug at h
  cases e : s[k]? with
  | none => rw [e] at h; exact h.elim
  | some ov =>
    cases ov with
    | none => rw [e] at h; exact h.elim
    | some x =>
      rw [e] at h
      obtain ⟨u, h3, h4⟩ := rs.2 k x e
      refine ⟨u, h3, κ, s, L, rs, rl, (HS.lift (R := RV K) rs h).imp fun v H1 ⟨κ1, L1, y, up, rl1, ry, q⟩ => h2 W κ1 H1 L1 x y u v σ _ rl1 (h4.up up) ry ?_⟩
      exact (HS.lift (R := RV K) (rs.up up) q).imp fun w H2 ⟨κ2, L2, z, up2, rl2, rz, q2⟩ => q2 κ2 H2 _ Up.refl rl2 (((rs.up up).up up2).set rz k)
/-- o.f op= e -/
def mAugFld (c : Nat) (f : Str) (g : LV → LV → M LV) (fo fe : Sl → M LV) : MS := fun s L => lift s (fun x L1 => match fldOf c f L1 x with
  | none => .no
  | some w => lift s (fun y L2 => lift s (fun z L3 => match setFld c f z L3 x with
    | some L4 => .next s L4
    | none => .no) (g w y L2)) (fe s L1)) (fo s L)
theorem qs_augFld {op : Operator} {g : LV → LV → M LV} (hK : X.K = K.K) (ha : QE X K W o fo) (hv : QE X K W value fb) (ho : IpQ X K op g) (hc : Cls K.K (K.cl c)) (hn : NoAttr K.K (K.cl c) f) : QS X K W (.AugAssign (.Attribute o f tpos) op value pos) (mAugFld c f g fo fb) := by
  obtain ⟨r, h1, h2⟩ := ho
  refine PS.weak (ps_fldaug ha hv (rd := r) h1) fun D σ H ⟨κ, s, L, rs, rl, h⟩ => ⟨κ, s, L, rs, rl, (HS.lift (R := RV K) rs h).imp fun u H1 ⟨κ1, L1, x, up, rl1, rx, q⟩ => ?_⟩
  cases e : fldOf c f L1 x with
  | none => rw [e] at q; exact q.elim
  | some w =>
    rw [e] at q
    obtain ⟨a, dx, fv, w', rfl, h3, h4, h5⟩ := fldOf_ok rl1 rx e
    refine ⟨a, _, dx, fv, w', rfl, h3, by rw [hK]; exact hc, by rw [hK]; exact hn, h4, κ1, s, L1, rs.up up, rl1, (HS.lift (R := RV K) (rs.up up) q).imp fun v H2 ⟨κ2, L2, y, up2, rl2, ry, q2⟩ => h2 W κ2 H2 L2 w y w' v σ _ rl2 (h5.up up2) ry ?_⟩
    refine (HS.lift (R := RV K) ((rs.up up).up up2) q2).imp fun zv H3 ⟨κ3, L3, z, up3, rl3, rz, q3⟩ => ?_
    cases e2 : setFld c f z L3 x with
    | none => rw [e2] at q3; exact q3.elim
    | some L4 =>
      rw [e2] at q3
      obtain ⟨a', dx', fv', ea, h6, h7, h8, h9⟩ := setFld_ok rl3 ((rx.up up2).up up3) rz e2
      cases ea
      exact ⟨dx', fv', h6, h7, q3 κ3 _ σ h8 h9 ((((rs.up up).up up2).up up3).up h8)⟩
/-! ### items -/
def gIx : LV → LV → M LV := fun x y L => match y with
  | .int i => match x with
    | .str z => if z.length ≤ 16777216 then (match atI z.cps.toList i with
      | some c => .ok (.str ⟨#[c]⟩) L
      | none => .no) else .no
    | _ => match tview x with
      | some xs => (match atI xs i with
        | some v => .ok v L
        | none => .no)
      | none => match lviewR L x with
        | some xs => (match atI xs i with
          | some v => .ok v L
          | none => .no)
        | none => .no
  | _ => .no
theorem RVs.at {i : Int} (r : RVs K κ H xs us) (h : atI xs i = some y) : ∃ u, atI us i = some u ∧ RV K κ H y u := by
  unfold atI at h ⊢
  rw [← r.length]
  cases e : ixN xs.length i with
  | none => rw [e] at h; cases h
  | some j => rw [e] at h; exact r.get h
theorem iq_ix (hK : X.K = K.K) : ∃ r, IxR X r ∧ ∀ (W : WX) (κ : Kp) (H : Hp) (L : LH) (x y : LV) (u v : V) (σ : St) (Q : VK), RL K κ H L → RV K κ H x u → RV K κ H y v → HV K W σ κ H (RV K) (gIx x y L) Q → r u v H Q := by
  refine ⟨_, ix_seq, fun W κ H L x y u v σ Q rl rx ry h => ?_⟩
  unfold gIx at h
  split at h
  · cases ry
    split at h
    · cases rx
      split at h
      · rename_i hz
        split at h
        · rename_i hc
          exact .inr (.inr ⟨_, _, _, rfl, rfl, by rw [sizeLine_eq]; exact hz, hc, h.now rl (.str _)⟩)
        · exact h.elim
      · exact h.elim
    · split at h
      · rename_i ys hx
        obtain ⟨a, us, rfl, h1, h2⟩ := tview_ok rx hx
        split at h
        · rename_i hv
          obtain ⟨w, h3, h4⟩ := h2.at hv
          exact .inr (.inl ⟨a, us, _, w, rfl, rfl, by rw [hK]; exact h1, h3, h.now rl h4⟩)
        · exact h.elim
      · split at h
        · rename_i ys hx
          obtain ⟨a, us, rfl, h1, h2⟩ := lviewR_ok rl rx hx
          split at h
          · rename_i hv
            obtain ⟨w, h3, h4⟩ := h2.at hv
            exact .inl ⟨a, us, _, w, rfl, rfl, by rw [hK]; exact h1, h3, h.now rl h4⟩
          · exact h.elim
        · exact h.elim
  · exact h.elim
theorem qe_ix (hK : X.K = K.K) (ha : QE X K W e fa) (hb : QE X K W i fb) (hs : PlainIx i := by intro _ _; rfl) : QE X K W (.Subscript e i pos) (mOp gIx fa fb) := by
  obtain ⟨r, h1, h2⟩ := iq_ix (X := X) hK
  exact PE.weak (pe_ix h1 ha hb hs) fun σ H Q ⟨κ, s, L, rs, rl, h⟩ => ⟨κ, s, L, rs, rl, (HV.bind (R := RV K) h).imp fun u H1 ⟨κ1, L1, x, up, rl1, rx, q⟩ => ⟨κ1, s, L1, rs.up up, rl1, (HV.bind (R := RV K) q).imp fun v H2 ⟨κ2, L2, y, up2, rl2, ry, q2⟩ => h2 W κ2 H2 L2 x y u v σ Q rl2 (rx.up up2) ry q2⟩⟩
/-- xs[i] = v -/
def setIx (L : LH) (x y v : LV) : Option LH := match x, y with
  | .ref n, .int i => match L[n]? with
    | some (.lst xs) => (match ixN xs.length i with
      | some j => some (L.set n (.lst (xs.set j v)))
      | none => none)
    | _ => none
  | _, _ => none
def mSetIx (fo fi fv : Sl → M LV) : MS := fun s L => lift s (fun v L1 => lift s (fun x L2 => lift s (fun y L3 => match setIx L3 x y v with
  | some L4 => .next s L4
  | none => .no) (fi s L2)) (fo s L1)) (fv s L)
theorem setIx_ok {L' : LH} {z : LV} {w : V} (rl : RL K κ H L) (rx : RV K κ H x u) (ry : RV K κ H y v) (rz : RV K κ H z w) (h : setIx L x y z = some L') :
    ∃ a xs k j, u = .ref a ∧ v = .int k ∧ H a = some (.lst xs) ∧ ixN xs.length k = some j ∧ Up K κ H κ (upd H a (.lst (xs.set j w))) ∧ RL K κ (upd H a (.lst (xs.set j w))) L' := by
  unfold setIx at h
  split at h
  · cases ry
    rename_i n i
    cases e : L[n]? with
    | none => rw [e] at h; cases h
    | some ob =>
      rw [e] at h
      cases ob with
      | lst xs =>
        simp only [] at h
        split at h
        · rename_i j hj
          cases h
          obtain ⟨a, rfl, ha, _, us, h1, h2⟩ := rl.at e rx (fun z => nomatch z)
          have up := Up.chg (ho := .lst (us.set j w)) rl e (fun z => nomatch z) ha
          exact ⟨a, us, i, j, rfl, rfl, h1, by rw [← h2.length]; exact hj, up, rl.chg e (fun z => nomatch z) ha ⟨_, upd_same, (RVs.set rz j h2).up up⟩⟩
        · cases h
      | _ => cases h
  · cases h
theorem qs_setIx (hv : QE X K W value fc) (ho : QE X K W o fo) (hi : QE X K W i fb)
    (ha : ∀ v, assign (.Subscript o i pos') X.env v = (do
      let ov ← holding [v] (eval o X.env)
      let iv ← holding [v, ov] (eval i X.env)
      standAt pos'
      holding [v, ov, iv] (setItem ov iv v)
      release [v, ov, iv] []) := by intro _; rfl)
    (hs : swapsWithSole [.Subscript o i pos'] value pos.line X.env = pure false := by rfl) (hw : swappedStores [.Subscript o i pos'] value X.env = pure none := by rfl)
    (h1 : (assignEach [.Subscript o i pos'] X.env).map (·.2) = [assign (.Subscript o i pos') X.env] := by rfl) : QS X K W (.Assign [.Subscript o i pos'] value pos) (mSetIx fo fb fc) :=
  PS.weak (ps_asg hv (pg_sub ho hi set_list ha) hs hw h1) fun D σ H ⟨κ, s, L, rs, rl, h⟩ => ⟨κ, s, L, rs, rl, (HS.lift (R := RV K) rs h).imp fun w H1 ⟨κ1, L1, z, up, rl1, rz, q⟩ => ⟨κ1, s, L1, rs.up up, rl1, (HS.lift (R := RV K) (rs.up up) q).imp fun u H2 ⟨κ2, L2, x, up2, rl2, rx, q2⟩ =>
    ⟨κ2, s, L2, (rs.up up).up up2, rl2, (HS.lift (R := RV K) ((rs.up up).up up2) q2).imp fun v H3 ⟨κ3, L3, y, up3, rl3, ry, q3⟩ => by
      cases e : setIx L3 x y z with
      | none => rw [e] at q3; exact q3.elim
      | some L4 =>
        rw [e] at q3
        obtain ⟨a, xs, k, j, rfl, rfl, h3, h4, h5, h6⟩ := setIx_ok rl3 (rx.up up3) ry ((rz.up up2).up up3) e
        exact ⟨a, xs, k, j, rfl, rfl, h3, h4, q3 κ3 _ σ h5 h6 ((((rs.up up).up up2).up up3).up h5)⟩⟩⟩⟩
/-! ### calls of built-ins -/
def CallQ (X : Cx) (K : Kt) (F : Value) (g : List LV → M LV) : Prop :=
  ∃ r, CallR X F r ∧ ∀ (W : WX) (κ : Kp) (H : Hp) (L : LH) (xs : List LV) (us : List V) (σ : St) (Q : VK), RL K κ H L → RVs K κ H xs us → HV K W σ κ H (RV K) (g xs L) Q → r us H Q
def mBlt (g : List LV → M LV) (fs : Sl → M (List LV)) : Sl → M LV := fun s L => (fs s L).bind fun xs L1 => g xs L1
theorem qe_callB {id : String} {nm : Str} {g : List LV → M LV} (hc : CallQ X K (.builtin id) g) (hg : Gl X nm) (hm : X.mg nm = none) (hv : bootBuiltins nm = some (.builtin id)) (ha : QA X K W (e :: es) fs) (hn : nm ≠ "__name__" := by decide) (hdb : (nm == ("__debug__" : Str)) = false := by decide)
    (he : starEach (e :: es) X.env = (false, eval e X.env) :: starEach es X.env := by rfl) (hpl : (backTo pos (starEach es X.env)).any (·.1) = false := by rfl) : QE X K W (.Call (.Name nm p) (e :: es) [] pos) (mBlt g fs) := by
  obtain ⟨r, h1, h2⟩ := hc
  exact PE.weak (pe_callB h1 hg hm hv ha hn hdb he hpl) fun σ H Q ⟨κ, s, L, rs, rl, h⟩ => ⟨κ, s, L, rs, rl, (HV.bind (R := RVs K) h).imp fun us H1 ⟨κ1, L1, xs, up, rl1, rx, q⟩ => h2 W κ1 H1 L1 xs us σ Q rl1 rx q⟩
theorem qe_callTy {T : String} {nm : Str} {g : List LV → M LV} (hc : CallQ X K (.type T) g) (hg : Gl X nm) (hm : X.mg nm = none) (hv : bootBuiltins nm = some (.type T)) (ha : QA X K W (e :: es) fs) (hn : nm ≠ "__name__" := by decide) (hdb : (nm == ("__debug__" : Str)) = false := by decide)
    (he : starEach (e :: es) X.env = (false, eval e X.env) :: starEach es X.env := by rfl) (hpl : (backTo pos (starEach es X.env)).any (·.1) = false := by rfl) : QE X K W (.Call (.Name nm p) (e :: es) [] pos) (mBlt g fs) := by
  obtain ⟨r, h1, h2⟩ := hc
  exact PE.weak (pe_callTy h1 hg hm hv ha hn hdb he hpl) fun σ H Q ⟨κ, s, L, rs, rl, h⟩ => ⟨κ, s, L, rs, rl, (HV.bind (R := RVs K) h).imp fun us H1 ⟨κ1, L1, xs, up, rl1, rx, q⟩ => h2 W κ1 H1 L1 xs us σ Q rl1 rx q⟩
def fAbs : List LV → M LV := fun xs L => match xs with
  | [.int i] => .ok (.int (if i < 0 then -i else i)) L
  | _ => .no
theorem RVs.one {x : LV} (r : RVs K κ H [x] us) : ∃ u, us = [u] ∧ RV K κ H x u := by
  cases r with
  | cons a b => cases b; exact ⟨_, rfl, a⟩
theorem RVs.two {x y : LV} (r : RVs K κ H [x, y] us) : ∃ u v, us = [u, v] ∧ RV K κ H x u ∧ RV K κ H y v := by
  cases r with
  | cons a b =>
    obtain ⟨v, rfl, h⟩ := b.one
    exact ⟨_, v, rfl, a, h⟩
theorem cq_abs : CallQ X K (.builtin "abs") fAbs := ⟨_, call_abs, fun W κ H L xs us σ Q rl rv h => by
  unfold fAbs at h
  split at h
  · obtain ⟨u, rfl, ru⟩ := rv.one
    cases ru
    exact ⟨_, rfl, h.now rl (.int _)⟩
  · exact h.elim⟩
def fMax : List LV → M LV := fun xs L => match xs with
  | [.int i, .int j] => .ok (.int (if j > i then j else i)) L
  | _ => .no
def fMin : List LV → M LV := fun xs L => match xs with
  | [.int i, .int j] => .ok (.int (if j < i then j else i)) L
  | _ => .no
theorem cq_max (hc : X.calm = true) : CallQ X K (.builtin "max") fMax := ⟨_, call_max2 hc, fun W κ H L xs us σ Q rl rv h => by
  unfold fMax at h
  split at h
  · obtain ⟨u, v, rfl, r1, r2⟩ := rv.two
    cases r1; cases r2
    exact ⟨_, _, rfl, h.now rl (.int _)⟩
  · exact h.elim⟩
theorem cq_min (hc : X.calm = true) : CallQ X K (.builtin "min") fMin := ⟨_, call_min2 hc, fun W κ H L xs us σ Q rl rv h => by
  unfold fMin at h
  split at h
  · obtain ⟨u, v, rfl, r1, r2⟩ := rv.two
    cases r1; cases r2
    exact ⟨_, _, rfl, h.now rl (.int _)⟩
  · exact h.elim⟩
def fInt : List LV → M LV := fun xs L => match xs with
  | [.int i] => .ok (.int i) L
  | [.bl b] => .ok (.int (if b = true then 1 else 0)) L
  | _ => .no
theorem cq_int : CallQ X K (.type "int") fInt := ⟨_, call_int1, fun W κ H L xs us σ Q rl rv h => by
  unfold fInt at h
  split at h
  · obtain ⟨u, rfl, ru⟩ := rv.one
    cases ru
    exact .inl ⟨_, rfl, h.now rl (.int _)⟩
  · obtain ⟨u, rfl, ru⟩ := rv.one
    cases ru
    exact .inr ⟨_, rfl, h.now rl (.int _)⟩
  · exact h.elim⟩
def fLen : List LV → M LV := fun xs L => match xs with
  | [.str z] => if z.length ≤ 16777216 then .ok (.int z.length) L else .no
  | [x] => match tview x with
    | some ys => .ok (.int ys.length) L
    | none => match lviewR L x with
      | some ys => .ok (.int ys.length) L
      | none => .no
  | _ => .no
theorem cq_len (hK : X.K = K.K) : CallQ X K (.builtin "len") fLen := ⟨_, call_len, fun W κ H L xs us σ Q rl rv h => by
  unfold fLen at h
  split at h
  · obtain ⟨u, rfl, ru⟩ := rv.one
    cases ru
    split at h
    · exact ⟨_, _, rfl, ⟨by rw [sizeLine_eq]; assumption, rfl⟩, h.now rl (.int _)⟩
    · exact h.elim
  · obtain ⟨u, rfl, ru⟩ := rv.one
    split at h
    · rename_i ys hx
      obtain ⟨a, vs, rfl, h1, h2⟩ := tview_ok ru hx
      exact ⟨_, _, rfl, .inr ⟨vs, by rw [hK]; exact h1, rfl⟩, by rw [← h2.length]; exact h.now rl (.int _)⟩
    · split at h
      · rename_i ys hx
        obtain ⟨a, vs, rfl, h1, h2⟩ := lviewR_ok rl ru hx
        exact ⟨_, _, rfl, .inl ⟨vs, by rw [hK]; exact h1, rfl⟩, by rw [← h2.length]; exact h.now rl (.int _)⟩
      · exact h.elim
  · exact h.elim⟩
def fList : List LV → M LV := fun xs L => match xs with
  | [x] => match tview x with
    | some ys => .ok (.fl ys) L
    | none => match lviewR L x with
      | some ys => .ok (.fl ys) L
      | none => .no
  | _ => .no
theorem cq_list (hK : X.K = K.K) : CallQ X K (.type "list") fList := ⟨_, call_list_of, fun W κ H L xs us σ Q rl rv h => by
  unfold fList at h
  split at h
  · obtain ⟨u, rfl, ru⟩ := rv.one
    split at h
    · rename_i ys hx
      obtain ⟨a, vs, rfl, h1, h2⟩ := tview_ok ru hx
      exact ⟨_, vs, rfl, .inr (by rw [hK]; exact h1), fun p hp => h (κ.more p) _ _ (Up.froz rl hp) (rl.froz hp) (new_fl rl hp h2)⟩
    · split at h
      · rename_i ys hx
        obtain ⟨a, vs, rfl, h1, h2⟩ := lviewR_ok rl ru hx
        exact ⟨_, vs, rfl, .inl (by rw [hK]; exact h1), fun p hp => h (κ.more p) _ _ (Up.froz rl hp) (rl.froz hp) (new_fl rl hp h2)⟩
      · exact h.elim
  · exact h.elim⟩
def fTuple : List LV → M LV := fun xs L => match xs with
  | [x] => match tview x with
    | some _ => .ok x L
    | none => match lviewR L x with
      | some ys => .ok (.tup ys) L
      | none => .no
  | _ => .no
theorem cq_tuple (hK : X.K = K.K) : CallQ X K (.type "tuple") fTuple := ⟨_, call_tuple_of, fun W κ H L xs us σ Q rl rv h => by
  unfold fTuple at h
  split at h
  · obtain ⟨u, rfl, ru⟩ := rv.one
    split at h
    · rename_i ys hx
      obtain ⟨a, vs, rfl, h1, h2⟩ := tview_ok ru hx
      exact ⟨_, vs, rfl, .inr ⟨by rw [hK]; exact h1, h.now rl ru⟩⟩
    · split at h
      · rename_i ys hx
        obtain ⟨a, vs, rfl, h1, h2⟩ := lviewR_ok rl ru hx
        exact ⟨_, vs, rfl, .inl ⟨by rw [hK]; exact h1, fun p hp => h (κ.more p) _ _ (Up.froz rl hp) (rl.froz hp) (new_tup rl hp h2)⟩⟩
      · exact h.elim
  · exact h.elim⟩
/-! ### methods of built-in kinds -/
def isDk (L : LH) : LV → Bool
  | .ref n => match L[n]? with
    | some (.dK _) => true
    | _ => false
  | _ => false
def tyL (T : String) (x : LV) (L : LH) : Bool := match x with
  | .str _ => T == "str"
  | .int _ => T == "int"
  | x => (T == "list" && (lviewR L x).isSome) || (T == "dict" && isDk L x)
def MtQ (X : Cx) (K : Kt) (id : String) (g : LV → List LV → M LV) : Prop :=
  ∃ r, MtR X id r ∧ ∀ (W : WX) (κ : Kp) (H : Hp) (L : LH) (x : LV) (xs : List LV) (u : V) (us : List V) (σ : St) (Q : VK), RL K κ H L → RV K κ H x u → RVs K κ H xs us → HV K W σ κ H (RV K) (g x xs L) Q → r u us H Q
theorem tyL_ok {T : String} (rl : RL K κ H L) (rx : RV K κ H x u) (h : tyL T x L = true) : tyV K.K T u H := by
  have main : ((T == "list" && (lviewR L x).isSome) || (T == "dict" && isDk L x)) = true → tyV K.K T u H := fun h => by
    rw [Bool.or_eq_true, Bool.and_eq_true, Bool.and_eq_true] at h
    rcases h with h | h
    · obtain ⟨ys, hy⟩ := Option.isSome_iff_exists.mp h.2
      obtain ⟨a, vs, rfl, h1, h2⟩ := lviewR_ok rl rx hy
      exact .inl ⟨by simpa using h.1, vs, h1⟩
    · have h2 := h.2
      unfold isDk at h2
      cases x with
      | ref n =>
        simp only [] at h2
        cases e : L[n]? with
        | none => rw [e] at h2; cases h2
        | some ob =>
          rw [e] at h2
          cases ob with
          | dK kvs =>
            obtain ⟨a, rfl, ha, _, ws, g1, g2⟩ := rl.at e rx (fun z => nomatch z)
            exact .inr (.inr (.inl ⟨by simpa using h.1, .inl ⟨ws, g1⟩⟩))
          | _ => cases h2
      | _ => cases h2
  cases x with
  | str z => cases rx; exact (by simpa [tyL] using h : T = "str")
  | int z => cases rx; exact (by simpa [tyL] using h : T = "int")
  | _ => exact main h
def mBM (T : String) (g : LV → List LV → M LV) (fo : Sl → M LV) (fs : Sl → M (List LV)) : Sl → M LV := fun s L => (fo s L).bind fun x L1 => if tyL T x L1 = true then (fs s L1).bind fun xs L2 => g x xs L2 else .no
theorem qe_bm {T id : String} {name : Str} {g : LV → List LV → M LV} (hK : X.K = K.K) (pa : PlainAttrs T) (slot : Slot T name id) (hty : typeOf (.builtin id) = pure (.type "method_descriptor")) (hm : MtQ X K id g) (ho : QE X K W o fo) (ha : QA X K W (e :: es) fs)
    (hbase : attributeBase o name X.env (eval o X.env) = eval o X.env := by rfl)
    (hfew : ((backTo cpos (starEach (e :: es) X.env)).all (fun x => !x.1) && (backToKw cpos (keywordEach [] X.env)).all (fun x => x.1.isSome)
      && decide ((e :: es).length + ([] : List Keyword).length + (if ([] : List Keyword).isEmpty then 0 else 1) < 30)) = true := by rfl)
    (hline : (apos.endLine == cpos.line) = true := by rfl) (hs : starEach (e :: es) X.env = (false, eval e X.env) :: starEach es X.env := by rfl) (hplain : (backTo cpos (starEach es X.env)).any (·.1) = false := by rfl) :
    QE X K W (.Call (.Attribute o name apos) (e :: es) [] cpos) (mBM T g fo fs) := by
  obtain ⟨r, h1, h2⟩ := hm
  exact PE.weak (pe_bm pa slot hty h1 ho ha hbase hfew hline hs hplain) fun σ H Q ⟨κ, s, L, rs, rl, h⟩ => ⟨κ, s, L, rs, rl, (HV.bind (R := RV K) h).imp fun u H1 ⟨κ1, L1, x, up, rl1, rx, q⟩ => by
    split at q
    · rename_i ht
      exact ⟨by rw [hK]; exact tyL_ok rl1 rx ht, κ1, s, L1, rs.up up, rl1, (HV.bind (R := RVs K) q).imp fun us H2 ⟨κ2, L2, xs, up2, rl2, rxs, q2⟩ => h2 W κ2 H2 L2 x xs u us σ Q rl2 (rx.up up2) rxs q2⟩
    · exact q.elim⟩
theorem qe_bm0 {T id : String} {name : Str} {g : LV → List LV → M LV} (hK : X.K = K.K) (pa : PlainAttrs T) (slot : Slot T name id) (hty : typeOf (.builtin id) = pure (.type "method_descriptor")) (hm : MtQ X K id g) (ho : QE X K W o fo)
    (hbase : attributeBase o name X.env (eval o X.env) = eval o X.env := by rfl) (hline : (apos.endLine == cpos.line) = true := by rfl) : QE X K W (.Call (.Attribute o name apos) [] [] cpos) (mBM T g fo mNil) := by
  obtain ⟨r, h1, h2⟩ := hm
  exact PE.weak (pe_bm0 pa slot hty h1 ho hbase hline) fun σ H Q ⟨κ, s, L, rs, rl, h⟩ => ⟨κ, s, L, rs, rl, (HV.bind (R := RV K) h).imp fun u H1 ⟨κ1, L1, x, up, rl1, rx, q⟩ => by
    split at q
    · rename_i ht
      exact ⟨by rw [hK]; exact tyL_ok rl1 rx ht, h2 W κ1 H1 L1 x [] u [] σ Q rl1 rx .nil q⟩
    · exact q.elim⟩
/-- what a change of a list with a number does -/
def chgL (L : LH) (x : LV) (k : List LV → Option (LV × List LV)) : Res LV := match x with
  | .ref n => match L[n]? with
    | some (.lst xs) => (match k xs with
      | some (v, ys) => .ok v (L.set n (.lst ys))
      | none => .no)
    | _ => .no
  | _ => .no
theorem chgL_ok {k : List LV → Option (LV × List LV)} {Q : VK} (h : HV K W σ κ H (RV K) (chgL L x k) Q) (rl : RL K κ H L) (rx : RV K κ H x u) :
    ∃ a xs us v ys, u = .ref a ∧ H a = some (.lst us) ∧ RVs K κ H xs us ∧ k xs = some (v, ys) ∧ ∀ w ws, RV K κ H v w → RVs K κ H ys ws → Q w (upd H a (.lst ws)) := by
  unfold chgL at h
  cases x with
  | ref n =>
    simp only [] at h
    cases e : L[n]? with
    | none => rw [e] at h; exact h.elim
    | some ob =>
      rw [e] at h
      cases ob with
      | lst xs =>
        simp only [] at h
        split at h
        · rename_i v ys hk
          obtain ⟨a, rfl, ha, _, us, h1, h2⟩ := rl.at e rx (fun z => nomatch z)
          refine ⟨a, xs, us, v, ys, rfl, h1, h2, hk, fun w ws rw rws => ?_⟩
          have up := Up.chg (ho := .lst ws) rl e (fun z => nomatch z) ha
          exact h κ _ w up (rl.chg e (fun z => nomatch z) ha ⟨_, upd_same, rws.up up⟩) (rw.up up)
        · exact h.elim
      | _ => exact h.elim
  | _ => exact h.elim
def gAppend : LV → List LV → M LV := fun x vs L => match vs with
  | [y] => chgL L x fun xs => if xs.length < 1000000 then some (.non, xs ++ [y]) else none
  | _ => .no
theorem mq_append : MtQ X K "list.append" gAppend := ⟨_, mt_append, fun W κ H L x vs u us σ Q rl rx rv h => by
  unfold gAppend at h
  split at h
  · obtain ⟨v, rfl, r1⟩ := rv.one
    obtain ⟨a, xs, us, w, ys, rfl, h1, h2, h3, h4⟩ := chgL_ok h rl rx
    split at h3
    · rename_i hl
      cases h3
      exact ⟨a, us, v, rfl, rfl, h1, by rw [← h2.length, sizeLine_eq]; omega, h4 _ _ .non (h2.append (.cons r1 .nil))⟩
    · cases h3
  · exact h.elim⟩
def gExtend : LV → List LV → M LV := fun x vs L => match vs with
  | [y] => match lview L y with
    | some ys => chgL L x fun xs => if xs.length + ys.length < 1000000 then some (.non, xs ++ ys) else none
    | none => .no
  | _ => .no
theorem mq_extend : MtQ X K "list.extend" gExtend := ⟨_, mt_extend, fun W κ H L x vs u us σ Q rl rx rv h => by
  unfold gExtend at h
  split at h
  · obtain ⟨v, rfl, r1⟩ := rv.one
    split at h
    · rename_i ys hy
      obtain ⟨b, zs, rfl, g1, g2⟩ := lview_ok rl r1 hy
      obtain ⟨a, xs, us, w, ws, rfl, h1, h2, h3, h4⟩ := chgL_ok h rl rx
      split at h3
      · rename_i hl
        cases h3
        exact ⟨a, b, us, zs, rfl, rfl, h1, g1, by rw [← h2.length, ← g2.length, sizeLine_eq]; omega, h4 _ _ .non (h2.append g2)⟩
      · cases h3
    · exact h.elim
  · exact h.elim⟩
def gPop : LV → List LV → M LV := fun x vs L => match vs with
  | [] => chgL L x fun xs => match xs[xs.length - 1]? with
    | some y => some (y, xs.dropLast)
    | none => none
  | _ => .no
theorem RVs.dropLast (r : RVs K κ H xs us) : RVs K κ H xs.dropLast us.dropLast := by
  rw [List.dropLast_eq_take, List.dropLast_eq_take, r.length]
  exact r.take _
theorem mq_pop : MtQ X K "list.pop" gPop := ⟨_, mt_pop, fun W κ H L x vs u us σ Q rl rx rv h => by
  unfold gPop at h
  split at h
  · cases rv
    obtain ⟨a, xs, us, w, ws, rfl, h1, h2, h3, h4⟩ := chgL_ok h rl rx
    split at h3
    · rename_i y hy
      cases h3
      obtain ⟨z, h5, h6⟩ := h2.get hy
      exact ⟨a, us, z, rfl, rfl, h1, by rw [← h2.length]; exact h5, h4 _ _ h6 h2.dropLast⟩
    · cases h3
  · exact h.elim⟩
end
end Q
end
section
set_option Elab.async false
set_option linter.all false
set_option maxRecDepth 100000
set_option maxHeartbeats 4000000
namespace Q
open PySem PySem.Spec L2
section
variable {X : Cx} {K : Kt} {κ κ1 κ2 : Kp} {H H1 H2 : Hp} {L : LH} {W : WX} {σ : St} {x y : LV} {u v : V} {xs : List LV} {us : List V} {e e2 o i value tg iter elt : Expr} {es ifs : List Expr} {pos p apos tpos cpos pos' : Pos} {f : Str} {fo fa fb fc fe : Sl → M LV} {fs : Sl → M (List LV)} {ft : Sl → M Bool} {fi : Sl → M IT} {c n : Nat} {gg : LV → Sl → Option Sl} {ix : List Nat}
/-! ### what is walked -/
def itV (xs : List LV) : IT := fun i _ => some xs[i]?
def itL (n : Nat) : IT := fun i L => match L[n]? with
  | some (.lst xs) => some xs[i]?
  | _ => none
def itR (lo : Int) (n : Nat) : IT := fun i _ => some (if i < n then some (.int (lo + i)) else none)
def itS (z : Str) : IT := fun i _ => some ((z.cps[i]?).map fun c => .str ⟨#[c]⟩)
theorem PI.or {w1 w2 : TI} (h1 : PI X tg e w1) (h2 : PI X tg e w2) : PI X tg e (fun σ H R => w1 σ H R ∨ w2 σ H R) :=
  ⟨fun pins s σ H R I h => h.elim (fun h => h1.run pins s σ H R I h) (fun h => h2.run pins s σ H R I h)⟩
theorem itOk_list {a : Addr} (hs : ∀ κ' H', Up K κ H κ' H' → SqL K.K H' a us ∧ RVs K κ' H' xs us) : ItOk K (Itl K.K a) κ H (itV xs) := fun κ' H' L' i u rl => by
  obtain ⟨h1, h2⟩ := hs κ' H' u
  unfold itV
  cases e : xs[i]? with
  | none => exact ⟨us, h1, by rw [← h2.length]; exact List.getElem?_eq_none_iff.mp e⟩
  | some v =>
    obtain ⟨w, h3, h4⟩ := h2.get e
    refine ⟨⟨us, w, h1, h3⟩, fun x H2 ⟨hH, hx⟩ => ?_⟩
    subst hH
    have := hx us h1
    rw [h3] at this
    cases this
    exact ⟨κ', Up.refl, rl, h4⟩
theorem itOk_tup {a : Addr} (hs : ∀ κ' H', Up K κ H κ' H' → SqT K.K H' a us ∧ RVs K κ' H' xs us) : ItOk K (Itt K.K a) κ H (itV xs) := fun κ' H' L' i u rl => by
  obtain ⟨h1, h2⟩ := hs κ' H' u
  unfold itV
  cases e : xs[i]? with
  | none => exact ⟨us, h1, by rw [← h2.length]; exact List.getElem?_eq_none_iff.mp e⟩
  | some v =>
    obtain ⟨w, h3, h4⟩ := h2.get e
    refine ⟨⟨us, w, h1, h3⟩, fun x H2 ⟨hH, hx⟩ => ?_⟩
    subst hH
    have := hx us h1
    rw [h3] at this
    cases this
    exact ⟨κ', Up.refl, rl, h4⟩
theorem itOk_ref {n : Nat} {a : Addr} (ha : κ.ρ[n]? = some a) : ItOk K (Itl K.K a) κ H (itL n) := fun κ' H' L' i u rl => by
  unfold itL
  cases e : L'[n]? with
  | none => trivial
  | some ob =>
    cases ob with
    | lst xs =>
      obtain ⟨b, hb, ha', _, us, h1, h2⟩ := rl.at e (.ref (u.get ha)) (fun z => nomatch z)
      cases hb
      have hq : SqL K.K H' a us := SqL.of h1
      simp only []
      cases e2 : xs[i]? with
      | none => exact ⟨us, hq, by rw [← h2.length]; exact List.getElem?_eq_none_iff.mp e2⟩
      | some v =>
        obtain ⟨w, h3, h4⟩ := h2.get e2
        refine ⟨⟨us, w, hq, h3⟩, fun x H2 ⟨hH, hx⟩ => ?_⟩
        subst hH
        have := hx us hq
        rw [h3] at this
        cases this
        exact ⟨κ', Up.refl, rl, h4⟩
    | _ => trivial
theorem itOk_range {lo : Int} {n : Nat} : ItOk K (Itr lo n) κ H (itR lo n) := fun κ' H' L' i u rl => by
  unfold itR
  by_cases h : i < n
  · rw [if_pos h]
    exact ⟨h, fun x H2 ⟨hH, hx⟩ => by subst hH hx; exact ⟨κ', Up.refl, rl, .int _⟩⟩
  · rw [if_neg h]
    exact Nat.le_of_not_lt h
/-- the items of a value -/
def itOf (x : LV) (L : LH) : Res IT := match x with
  | .tup xs => .ok (itV xs) L
  | .st xs => .ok (itV xs) L
  | .fl xs => .ok (itV xs) L
  | .sl xs => .ok (itV xs) L
  | .ref n => (match L[n]? with
    | some (.lst _) => .ok (itL n) L
    | _ => .no)
  | .str z => .ok (itS z) L
  | _ => .no
def mIt (fo : Sl → M LV) : Sl → M IT := fun s L => (fo s L).bind itOf
theorem rd_up {a : Addr} {o : HO} (u : Up K κ H κ2 H2) (h : κ.F a ∧ Rd H a o) : Rd H2 a o := Rd.same h.2 (u.frz a h.1).2
theorem itOk_str {z : Str} : ItOk K (Its z) κ H (itS z) := fun κ' H' L' i u rl => by
  unfold itS
  cases e : z.cps[i]? with
  | none =>
    show z.cps.size ≤ i
    exact Array.getElem?_eq_none_iff.mp e
  | some c =>
    have hl : i < z.cps.size := by
      obtain ⟨h, _⟩ := Array.getElem?_eq_some_iff.mp e
      exact h
    refine ⟨hl, fun x H2 y => ?_⟩
    have y' : H2 = H' ∧ ∃ c, z.cps[i]? = some c ∧ x = .str ⟨#[c]⟩ := y
    obtain ⟨rfl, c', h1, rfl⟩ := y'
    rw [e] at h1
    cases h1
    exact ⟨κ', Up.refl, rl, .str _⟩
theorem qi_val (hK : X.K = K.K) (he : QE X K W e fo) : QI X K W tg e (mIt fo) := by
  refine PI.weak (PI.or (pi_list he) (PI.or (pi_tup he) (pi_str he))) fun σ H R ⟨κ, s, L, rs, rl, h⟩ => ?_
  unfold mIt at h
  cases q : fo s L with
  | no => rw [q] at h; exact h.elim
  | exc c L1 => rw [q] at h; exact .inl ⟨κ, s, L, rs, rl, by rw [q]; exact h⟩
  | ok x L1 =>
    rw [q] at h
    have h : HV K W σ κ H (fun κ' H' it J => ItOk K J κ' H' it) (itOf x L1) R := h
    have hh : ∀ {Z : VK}, (∀ κ1 H1 u, Up K κ H κ1 H1 → RL K κ1 H1 L1 → RV K κ1 H1 x u → Z u H1) → tE K W fo σ H Z := fun {Z} k => ⟨κ, s, L, rs, rl, by rw [q]; exact k⟩
    cases x with
    | tup xs =>
      refine .inr (.inl (hh fun κ1 H1 u up rl1 rx => ?_))
      cases rx with
      | tup g1 g2 => exact ⟨_, rfl, ⟨_, SqT.of g1.2⟩, by rw [hK]; exact h κ1 H1 _ up rl1 (itOk_tup fun κ' H' u' => ⟨SqT.of ((u'.frz _ g1.1).2.trans g1.2), g2.up u'⟩)⟩
    | st xs =>
      refine .inr (.inl (hh fun κ1 H1 u up rl1 rx => ?_))
      cases rx with
      | st g1 g2 => exact ⟨_, rfl, ⟨_, by rw [hK]; exact g1.sq⟩, by rw [hK]; exact h κ1 H1 _ up rl1 (itOk_tup fun κ' H' u' => ⟨g1.sq, g2.up u'⟩)⟩
    | fl xs =>
      refine .inl (hh fun κ1 H1 u up rl1 rx => ?_)
      cases rx with
      | fl g1 g2 => exact ⟨_, rfl, ⟨_, SqL.of g1.2⟩, by rw [hK]; exact h κ1 H1 _ up rl1 (itOk_list fun κ' H' u' => ⟨SqL.of ((u'.frz _ g1.1).2.trans g1.2), g2.up u'⟩)⟩
    | sl xs =>
      refine .inl (hh fun κ1 H1 u up rl1 rx => ?_)
      cases rx with
      | sl g1 g2 =>
        have all : ∀ κ' H', Up K κ1 H1 κ' H' → SqL K.K H' _ _ := fun κ' H' u' => g1.elim (fun z => .inl (rd_up u' z)) fun z => z.sq
        exact ⟨_, rfl, ⟨_, by rw [hK]; exact all κ1 H1 Up.refl⟩, by rw [hK]; exact h κ1 H1 _ up rl1 (itOk_list fun κ' H' u' => ⟨all κ' H' u', g2.up u'⟩)⟩
    | ref n =>
      have h : HV K W σ κ H (fun κ' H' it J => ItOk K J κ' H' it) (match L1[n]? with
        | some (.lst _) => .ok (itL n) L1
        | _ => .no) R := h
      cases e : L1[n]? with
      | none => rw [e] at h; exact h.elim
      | some ob =>
        rw [e] at h
        cases ob with
        | lst zs =>
          refine .inl (hh fun κ1 H1 u up rl1 rx => ?_)
          obtain ⟨a, rfl, ha, _, us, h1, h2⟩ := rl1.at e rx (fun z => nomatch z)
          exact ⟨_, rfl, ⟨us, SqL.of h1⟩, by rw [hK]; exact h κ1 H1 _ up rl1 (itOk_ref ha)⟩
        | _ => exact h.elim
    | str z =>
      refine .inr (.inr (hh fun κ1 H1 u up rl1 rx => ?_))
      cases rx
      exact ⟨z, rfl, h κ1 H1 _ up rl1 itOk_str⟩
    | _ => exact h.elim
/-! ### range, enumerate, zip -/
def range1 : List LV → LH → Res IT := fun xs L => match xs with
  | [.int j] => if -1000000000 < j ∧ j < 1000000000 then .ok (itR 0 j.toNat) L else .no
  | _ => .no
def range2 : List LV → LH → Res IT := fun xs L => match xs with
  | [.int i, .int j] => if -1000000000 < i ∧ i < 1000000000 ∧ -1000000000 < j ∧ j < 1000000000 then .ok (itR i (j - i).toNat) L else .no
  | _ => .no
def mI (g : List LV → LH → Res IT) (fs : Sl → M (List LV)) : Sl → M IT := fun s L => (fs s L).bind g
theorem qi_range1 (hg : Gl X "range") (hm : X.mg "range" = none) (ha : QA X K W [e] fs) (hs : starEach [e] X.env = [(false, eval e X.env)] := by rfl) : QI X K W tg (.Call (.Name "range" p) [e] [] pos) (mI range1 fs) :=
  PI.weak (pi_range1 hg hm ha hs) fun σ H R ⟨κ, s, L, rs, rl, h⟩ => ⟨κ, s, L, rs, rl, (HV.bind (R := RVs K) h).imp fun us H1 ⟨κ1, L1, xs, up, rl1, rx, q⟩ => by
    unfold range1 at q
    split at q
    · obtain ⟨u, rfl, r⟩ := rx.one
      cases r
      split at q
      · exact ⟨_, rfl, by omega, by omega, q κ1 H1 _ Up.refl rl1 itOk_range⟩
      · exact q.elim
    · exact q.elim⟩
theorem qi_range2 (hg : Gl X "range") (hm : X.mg "range" = none) (ha : QA X K W [e, e2] fs) (hs : starEach [e, e2] X.env = [(false, eval e X.env), (false, eval e2 X.env)] := by rfl) (hs2 : starEach [e2] X.env = [(false, eval e2 X.env)] := by rfl) : QI X K W tg (.Call (.Name "range" p) [e, e2] [] pos) (mI range2 fs) :=
  PI.weak (pi_range2 hg hm ha hs hs2) fun σ H R ⟨κ, s, L, rs, rl, h⟩ => ⟨κ, s, L, rs, rl, (HV.bind (R := RVs K) h).imp fun us H1 ⟨κ1, L1, xs, up, rl1, rx, q⟩ => by
    unfold range2 at q
    split at q
    · obtain ⟨u, v, rfl, r1, r2⟩ := rx.two
      cases r1; cases r2
      split at q
      · exact ⟨_, _, rfl, ⟨by omega, by omega, by omega, by omega⟩, q κ1 H1 _ Up.refl rl1 itOk_range⟩
      · exact q.elim
    · exact q.elim⟩
/-- pairs of the place and the item -/
def itEn (xs : List LV) : IT := fun i _ => some ((xs[i]?).map fun v => .tup [.int (i : Nat), v])
theorem itOk_en {a : Addr} (hs : ∀ κ' H', Up K κ H κ' H' → SqL K.K H' a us ∧ RVs K κ' H' xs us) : ItOk K (Ite K.K a) κ H (itEn xs) := fun κ' H' L' i u rl => by
  obtain ⟨h1, h2⟩ := hs κ' H' u
  unfold itEn
  cases e : xs[i]? with
  | none => exact ⟨us, h1, by rw [← h2.length]; exact List.getElem?_eq_none_iff.mp e⟩
  | some v =>
    obtain ⟨w, h3, h4⟩ := h2.get e
    refine ⟨⟨us, w, h1, h3⟩, fun x H2 ⟨T, y, ex, hT, eH, hx⟩ => ?_⟩
    subst ex eH
    have := hx us h1
    rw [h3] at this
    cases this
    exact ⟨κ'.more T, Up.froz rl hT, rl.froz hT, new_tup rl hT (.cons (.int _) (.cons h4 .nil))⟩
def enum1 : List LV → LH → Res IT := fun xs L => match xs with
  | [.fl ys] => .ok (itEn ys) L
  | _ => .no
theorem qi_enum {elts : List Expr} {kk : Nat} (hK : X.K = K.K) (hg : Gl X "enumerate") (hm : X.mg "enumerate" = none) (ha : QA X K W [e] fs) (hs : starEach [e] X.env = [(false, eval e X.env)] := by rfl) :
    QI X K W (.Tuple elts kk tpos) (.Call (.Name "enumerate" p) [e] [] pos) (mI enum1 fs) :=
  PI.weak (pi_enum hg hm ha hs) fun σ H R ⟨κ, s, L, rs, rl, h⟩ => ⟨κ, s, L, rs, rl, (HV.bind (R := RVs K) h).imp fun us H1 ⟨κ1, L1, xs, up, rl1, rx, q⟩ => by
    unfold enum1 at q
    split at q
    · obtain ⟨u, rfl, r⟩ := rx.one
      cases r with
      | fl g1 g2 => exact ⟨_, _, rfl, SqL.of g1.2, by rw [hK]; exact q κ1 H1 _ Up.refl rl1 (itOk_en fun κ' H' u' => ⟨SqL.of ((u'.frz _ g1.1).2.trans g1.2), g2.up u'⟩)⟩
    · exact q.elim⟩
def itEnS (z : Str) : IT := fun i _ => some ((z.cps[i]?).map fun c => .tup [.int (i : Nat), .str ⟨#[c]⟩])
theorem itOk_enS {z : Str} : ItOk K (My.IteS z) κ H (itEnS z) := fun κ' H' L' i u rl => by
  unfold itEnS
  cases e : z.cps[i]? with
  | none =>
    show z.cps.size ≤ i
    exact Array.getElem?_eq_none_iff.mp e
  | some c =>
    have hl : i < z.cps.size := by
      obtain ⟨h, _⟩ := Array.getElem?_eq_some_iff.mp e
      exact h
    refine ⟨hl, fun x H2 ⟨T, c', ex, hT, eH, hc⟩ => ?_⟩
    subst ex eH
    rw [e] at hc
    cases hc
    exact ⟨κ'.more T, Up.froz rl hT, rl.froz hT, new_tup rl hT (.cons (.int _) (.cons (.str _) .nil))⟩
def enumS : List LV → LH → Res IT := fun xs L => match xs with
  | [.str z] => .ok (itEnS z) L
  | _ => .no
theorem qi_enumS {elts : List Expr} {kk : Nat} (hg : Gl X "enumerate") (hm : X.mg "enumerate" = none) (ha : QA X K W [e] fs) (hs : starEach [e] X.env = [(false, eval e X.env)] := by rfl) :
    QI X K W (.Tuple elts kk tpos) (.Call (.Name "enumerate" p) [e] [] pos) (mI enumS fs) :=
  PI.weak (My.pi_enumS hg hm ha hs) fun σ H R ⟨κ, s, L, rs, rl, h⟩ => ⟨κ, s, L, rs, rl, (HV.bind (R := RVs K) h).imp fun us H1 ⟨κ1, L1, xs, up, rl1, rx, q⟩ => by
    unfold enumS at q
    split at q
    · obtain ⟨u, rfl, r⟩ := rx.one
      cases r
      exact ⟨_, rfl, q κ1 H1 _ Up.refl rl1 itOk_enS⟩
    · exact q.elim⟩
def itZip (xs ys : List LV) : IT := fun i _ => some (match xs[i]?, ys[i]? with
  | some v, some w => some (.tup [v, w])
  | _, _ => none)
theorem itOk_zip {a b : Addr} {ys : List LV} {vs : List V} (hs : ∀ κ' H', Up K κ H κ' H' → (SqL K.K H' a us ∧ RVs K κ' H' xs us) ∧ SqL K.K H' b vs ∧ RVs K κ' H' ys vs) : ItOk K (Itz K.K a b) κ H (itZip xs ys) := fun κ' H' L' i u rl => by
  obtain ⟨⟨h1, h2⟩, g1, g2⟩ := hs κ' H' u
  unfold itZip
  cases e : xs[i]? with
  | none => exact ⟨us, vs, h1, g1, .inl (by rw [← h2.length]; exact List.getElem?_eq_none_iff.mp e)⟩
  | some v =>
    cases e2 : ys[i]? with
    | none => exact ⟨us, vs, h1, g1, .inr (by rw [← g2.length]; exact List.getElem?_eq_none_iff.mp e2)⟩
    | some w =>
      obtain ⟨v', h3, h4⟩ := h2.get e
      obtain ⟨w', g3, g4⟩ := g2.get e2
      refine ⟨⟨us, vs, v', w', h1, g1, h3, g3⟩, fun x H2 ⟨T, y, z, ex, hT, eH, hx, hz⟩ => ?_⟩
      subst ex eH
      have := hx us h1
      rw [h3] at this
      cases this
      have := hz vs g1
      rw [g3] at this
      cases this
      exact ⟨κ'.more T, Up.froz rl hT, rl.froz hT, new_tup rl hT (.cons h4 (.cons g4 .nil))⟩
def zip2 : List LV → LH → Res IT := fun xs L => match xs with
  | [.fl ys, .fl zs] => .ok (itZip ys zs) L
  | _ => .no
theorem qi_zip {elts : List Expr} {kk : Nat} (hK : X.K = K.K) (hg : Gl X "zip") (hm : X.mg "zip" = none) (ha : QA X K W [e, e2] fs) (hs : starEach [e, e2] X.env = (false, eval e X.env) :: starEach [e2] X.env := by rfl) (hpl : (backTo pos (starEach [e2] X.env)).any (·.1) = false := by rfl) :
    QI X K W (.Tuple elts kk tpos) (.Call (.Name "zip" p) [e, e2] [] pos) (mI zip2 fs) :=
  PI.weak (pi_zip hg hm ha hs hpl) fun σ H R ⟨κ, s, L, rs, rl, h⟩ => ⟨κ, s, L, rs, rl, (HV.bind (R := RVs K) h).imp fun us H1 ⟨κ1, L1, xs, up, rl1, rx, q⟩ => by
    unfold zip2 at q
    split at q
    · obtain ⟨u, v, rfl, r1, r2⟩ := rx.two
      cases r1 with
      | fl g1 g2 =>
        cases r2 with
        | fl k1 k2 => exact ⟨_, _, _, _, rfl, SqL.of g1.2, SqL.of k1.2, by rw [hK]; exact q κ1 H1 _ Up.refl rl1 (itOk_zip fun κ' H' u' => ⟨⟨SqL.of ((u'.frz _ g1.1).2.trans g1.2), g2.up u'⟩, SqL.of ((u'.frz _ k1.1).2.trans k1.2), k2.up u'⟩)⟩
    · exact q.elim⟩
/-! ### comprehensions -/
def wipeL (s : Sl) : List Nat → Sl
  | [] => s
  | v :: vs => (wipeL s vs).set v none
def lcGo (it : IT) (g : LV → Sl → Option Sl) (tt : Sl → M Bool) (fe : Sl → M LV) (s0 : Sl) : Nat → Nat → List LV → M LV
  | 0, _, _ => fun _ => .no
  | n + 1, i, acc => fun L => match it i L with
    | none => .no
    | some none => .ok (.fl acc) L
    | some (some v) => match g v s0 with
      | none => .no
      | some s1 => match tt s1 L with
        | .ok b L2 => if b = true then (match fe s1 L2 with
          | .ok y L3 => if acc.length < 1000000 then lcGo it g tt fe s0 n (i + 1) (acc ++ [y]) L3 else .no
          | _ => .no) else lcGo it g tt fe s0 n (i + 1) acc L2
        | _ => .no
def mLc (fi : Sl → M IT) (g : LV → Sl → Option Sl) (tt : Sl → M Bool) (fe : Sl → M LV) (vs : List Nat) : Sl → M LV := fun s L => (fi s L).bind fun it L1 => lcGo it g tt fe (wipeL s vs) FUEL 0 [] L1
theorem RS.wipe {s : Sl} (r : RS K κ H s σ) : ∀ vs : List Nat, RS K κ H (wipeL s vs) (wipe σ vs)
  | [] => r
  | v :: vs => by
    have h := RS.wipe r vs
    refine ⟨by unfold wipeL L2.wipe; rw [List.length_set, List.length_set]; exact h.1, fun j w hj => ?_⟩
    unfold wipeL at hj
    unfold L2.wipe
    by_cases e : j = v
    · subst e
      have hl : j < (wipeL s vs).length := by
        have := (List.getElem?_eq_some_iff.mp hj).1
        rwa [List.length_set] at this
      rw [List.getElem?_set_self hl] at hj
      cases hj
    · rw [List.getElem?_set_ne (Ne.symm e)] at hj ⊢
      exact h.2 j w hj
theorem wipe_get {σ : St} {j : Nat} : ∀ {vs : List Nat}, j ∉ vs → (wipe σ vs)[j]? = σ[j]?
  | [], _ => rfl
  | v :: vs, h => by
    unfold wipe
    rw [List.getElem?_set_ne (fun z => h (by simp [z])), wipe_get fun z => h (List.mem_cons_of_mem _ z)]
theorem wipe_at {σ : St} {j : Nat} : ∀ {vs : List Nat}, j ∈ vs → j < σ.length → (wipe σ vs)[j]? = some none
  | v :: vs, h, hl => by
    unfold wipe
    by_cases e : j = v
    · subst e
      exact List.getElem?_set_self (by rw [wipe_length]; exact hl)
    · rw [List.getElem?_set_ne (Ne.symm e)]
      exact wipe_at ((List.mem_cons.mp h).resolve_left e) hl
theorem wipe_eq {σ σ' : St} {vs ix : List Nat} (hl : σ'.length = σ.length) (hx : ∀ j, j ∈ ix → j ∈ vs) (hk : ∀ j, j ∉ ix → σ'[j]? = (wipe σ vs)[j]?) : wipe σ' vs = wipe σ vs := by
  apply List.ext_getElem?
  intro j
  by_cases h : j ∈ vs
  · by_cases h2 : j < σ.length
    · rw [wipe_at h h2, wipe_at h (by rw [hl]; exact h2)]
    · rw [List.getElem?_eq_none (by rw [wipe_length]; omega), List.getElem?_eq_none (by rw [wipe_length]; omega)]
  · rw [wipe_get h, hk j fun z => h (hx j z)]
abbrev W0 : WX := fun _ _ _ _ => False
theorem HV.w0 {α β : Type} {R : Kp → Hp → α → β → Prop} {a : α} {L1 : LH} {Z : β → Hp → Prop} (h : ∀ κ' H' u, Up K κ H κ' H' → RL K κ' H' L1 → R κ' H' a u → Z u H') : HV K W0 σ κ H R (.ok a L1) Z := h
def QTs (X : Cx) (K : Kt) (W : WX) (ifs : List Expr) (f : Sl → M Bool) : Prop := PTs X ifs (tT K W f)
theorem PTs.weak {t u : TT} (h : PTs X ifs t) (k : ∀ σ H Q, u σ H Q → t σ H Q) : PTs X ifs u := ⟨fun pins s σ H Q I q => h.run pins s σ H Q I (k _ _ _ q)⟩
def mYes : Sl → M Bool := fun _ L => .ok true L
theorem qts_nil : QTs X K W [] mYes := PTs.weak pts_nil fun σ H Q ⟨κ, s, L, rs, rl, h⟩ => h κ H true Up.refl rl rfl
theorem qts_one (h : QT X K W e ft) : QTs X K W [e] ft := pts_one h
mutual
theorem RV.more {D : Addr} : ∀ {v : LV} {w : V}, RV K κ H v w → RV K (κ.more D) H v w
  | _, _, .non => .non
  | _, _, .bl b => .bl b
  | _, _, .int i => .int i
  | _, _, .str x => .str x
  | _, _, .ref h => .ref h
  | _, _, .tup h r => .tup ⟨.inl h.1, h.2⟩ (RVs.more r)
  | _, _, .st h r => .st h (RVs.more r)
  | _, _, .fl h r => .fl ⟨.inl h.1, h.2⟩ (RVs.more r)
  | _, _, .sl h r => .sl (h.imp (fun ⟨a, b⟩ => ⟨.inl a, b⟩) id) (RVs.more r)
  | _, _, .adr a => .adr a
  | _, _, .ty n => .ty n
  | _, _, .lam h g => .lam ⟨.inl h.1, h.2⟩ g
theorem RVs.more {D : Addr} : ∀ {v : List LV} {w : List V}, RVs K κ H v w → RVs K (κ.more D) H v w
  | _, _, .nil => .nil
  | _, _, .cons h r => .cons (RV.more h) (RVs.more r)
end
theorem Keyed.more {T : Type} {D : Addr} : ∀ {a : List (T × LV)} {b : List (T × V)}, Keyed K κ H a b → Keyed K (κ.more D) H a b
  | _, _, .nil => .nil
  | _, _, .cons h r => .cons ⟨h.1, h.2.more⟩ (Keyed.more r)
theorem RL.more {D : Addr} (r : RL K κ H L) (hD : H D ≠ none) (nρ : D ∉ κ.ρ) (nT : ∀ ps, H D ≠ some (.tbl ps)) : RL K (κ.more D) H L where
  len := r.len
  nd := r.nd
  liv := r.liv
  fz := fun b hb => hb.elim (r.fz b) fun (z : b = D) => by rw [z]; exact hD
  obj := fun n o a h1 h2 => by
    rcases r.obj n o a h1 h2 with z | ⟨z1, z2⟩
    · exact .inl z
    · refine .inr ⟨z1.to (fun w => .inl w) fun w => w.elim id fun (z : a = D) => absurd (by rw [← z]; exact List.mem_of_getElem? h2) nρ, ?_⟩
      cases o with
      | lst xs => obtain ⟨us, q1, q2⟩ := z2; exact ⟨us, q1, q2.more⟩
      | dK kvs => obtain ⟨us, q1, q2⟩ := z2; exact ⟨us, q1, q2.more⟩
      | dT kvs => obtain ⟨us, q1, q2⟩ := z2; exact ⟨us, q1, q2.more⟩
      | ins C fs => obtain ⟨dx, us, q1, q2⟩ := z2; exact ⟨dx, us, q1, q2.more⟩
      | lkK kvs => obtain ⟨od, us, q1, q2⟩ := z2; exact ⟨od, us, q1, q2.more⟩
      | dead => exact z2
  tab := fun P hP => by
    obtain ⟨⟨ps, e, t⟩, n1, n2⟩ := r.tab P hP
    exact ⟨⟨ps, e, t⟩, fun z => z.elim n1 fun (z : P = D) => nT ps (by rw [← z]; exact e), n2⟩
  tls := fun p hp => by
    obtain ⟨⟨ps, e, t⟩, n1, n2, n3⟩ := r.tls p hp
    exact ⟨⟨ps, e, t⟩, fun z => z.elim n1 fun (z : p.1 = D) => nT ps (by rw [← z]; exact e), n2, n3⟩
theorem Up.more {D : Addr} (u : Up K κ H κ2 H2) (hD : H D = none) : Up K κ H (κ2.more D) H2 :=
  ⟨u.pre, u.new, fun a ha => ⟨.inl (u.frz a ha).1, (u.frz a ha).2⟩, u.oth, u.tbl, fun a ha => ha.elim (u.fnew a) fun (z : a = D) => .inr (.inl (by rw [z]; exact hD)), u.lam⟩
theorem Up.notρ {D : Addr} (u : Up K κ H κ2 H2) (hD : H D ≠ none) (n : D ∉ κ.ρ) : D ∉ κ2.ρ := fun h => (u.new D h).elim n hD
theorem Up.notF {D : Addr} (u : Up K κ H κ2 H2) (hD : H D ≠ none) (n : D ∉ κ.ρ) (f : ¬ κ.F D) : ¬ κ2.F D := fun h => (u.fnew D h).elim f fun z => z.elim hD n
theorem Up.lst {D : Addr} {l : List V} (u : Up K κ H κ2 H2) (hD : H D = some (.lst l)) (n : D ∉ κ.ρ) : H2 D = some (.lst l) := by
  rcases u.oth D _ hD n with ⟨ps, z⟩ | z
  · cases z
  · exact z
theorem lc_ok {J : It} {it : IT} {s : Sl} {vs : List Nat} {Z : VK} (ok : ItOk K J κ H it) (rs : RS K κ H s σ) (rl : RL K κ H L) (hv : ∀ j, j ∈ ix → j ∈ vs) (h : HV K W σ κ H (RV K) (lcGo it gg ft fe (wipeL s vs) FUEL 0 [] L) Z) (D : Addr) (hD : H D = none) :
    ∃ Wi : Nat → Nat → Hp → Prop, (∃ m, Wi 0 m (upd H D (.lst []))) ∧ ∀ i m H, Wi i m H → (J.stop i H ∧ Z (.ref D) H) ∨ (J.go i H ∧ ∃ Nx : Hp → Prop, (∀ H', Nx H' → ∃ m', m' < m ∧ Wi (i + 1) m' H') ∧ ∀ x H', J.yld i H x H' →
      tG K gg ix x (wipe σ vs) H' fun σ2 H2 => wipe σ2 vs = wipe σ vs ∧ tT K W0 ft σ2 H2 fun b H3 => if b = true then tE K W0 fe σ2 H3 fun y H4 => ∃ acc, H4 D = some (.lst acc) ∧ acc.length < sizeLine ∧ Nx (upd H4 D (.lst (acc ++ [y]))) else Nx H3) := by
  refine ⟨fun i m H2 => ∃ κ2 L2 acc accv, H2 D = some (.lst accv) ∧ RVs K κ2 H2 acc accv ∧ RL K κ2 H2 L2 ∧ Up K κ H κ2 H2 ∧ D ∉ κ2.ρ ∧ ¬ κ2.F D ∧ HV K W σ κ H (RV K) (lcGo it gg ft fe (wipeL s vs) m i acc L2) Z,
    ⟨FUEL, κ, L, [], [], upd_same, .nil, rl.junk hD, Up.junk rl hD, rl.notρ hD, rl.notF hD, h⟩, ?_⟩
  rintro i m H2 ⟨κ2, L2, acc, accv, hacc, racc, rl2, up2, nρ, nF, q⟩
  cases m with
  | zero => exact q.elim
  | succ m =>
    have o := ok κ2 H2 L2 i up2 rl2
    unfold lcGo at q
    have ne : H2 D ≠ none := by rw [hacc]; exact fun z => nomatch z
    cases e : it i L2 with
    | none => rw [e] at q; exact q.elim
    | some r =>
      rw [e] at q o
      cases r with
      | none => exact .inl ⟨o, q (κ2.more D) H2 _ (up2.more hD) (rl2.more ne nρ fun ps z => by rw [hacc] at z; cases z) (.fl ⟨.inr rfl, hacc⟩ racc.more)⟩
      | some v =>
        simp only [] at q
        obtain ⟨o1, o2⟩ := o
        refine .inr ⟨o1, fun H3 => ∃ κ2 L2 acc accv, H3 D = some (.lst accv) ∧ RVs K κ2 H3 acc accv ∧ RL K κ2 H3 L2 ∧ Up K κ H κ2 H3 ∧ D ∉ κ2.ρ ∧ ¬ κ2.F D ∧ HV K W σ κ H (RV K) (lcGo it gg ft fe (wipeL s vs) m (i + 1) acc L2) Z, fun H3 z => ⟨m, Nat.lt_succ_self m, z⟩, fun x H3 y => ?_⟩
        obtain ⟨κ3, up3, rl3, rx⟩ := o2 x H3 y
        cases eg : gg v (wipeL s vs) with
        | none => rw [eg] at q; exact q.elim
        | some s1 =>
          rw [eg] at q
          simp only [] at q
          refine ⟨κ3, wipeL s vs, v, s1, (rs.wipe vs).up (up2.trans up3), rx, eg, fun σ3 rs3 l3 k3 => ⟨?_, ?_⟩⟩
          · exact wipe_eq (by rw [l3, wipe_length]) hv k3
          · cases et : ft s1 L2 with
            | no => rw [et] at q; exact q.elim
            | exc c L3 => rw [et] at q; exact q.elim
            | ok b L3 =>
              rw [et] at q
              simp only [] at q
              refine ⟨κ3, s1, L2, rs3, rl3, ?_⟩
              rw [et]
              refine HV.w0 fun κ4 H4 b' up4 rl4 eb => ?_
              have eb : b = b' := eb
              subst eb
              have n3 := up3.notρ ne nρ
              have d3 := up3.lst hacc nρ
              have ne3 : H3 D ≠ none := by rw [d3]; exact fun z => nomatch z
              have n4 := up4.notρ ne3 n3
              have d4 := up4.lst d3 n3
              have f3 := up3.notF ne nρ nF
              have f4 := up4.notF ne3 n3 f3
              have ne4 : H4 D ≠ none := by rw [d4]; exact fun z => nomatch z
              cases b with
              | false =>
                rw [if_neg (by decide)]
                rw [if_neg (by decide)] at q
                exact ⟨κ4, L3, acc, accv, d4, (racc.up up3).up up4, rl4, (up2.trans up3).trans up4, n4, f4, q⟩
              | true =>
                rw [if_pos rfl]
                rw [if_pos rfl] at q
                refine ⟨κ4, s1, L3, rs3.up up4, rl4, ?_⟩
                cases ee : fe s1 L3 with
                | no => rw [ee] at q; exact q.elim
                | exc c L4 => rw [ee] at q; exact q.elim
                | ok z L4 =>
                  rw [ee] at q
                  simp only [] at q
                  refine HV.w0 fun κ5 H5 w up5 rl5 rw' => ?_
                  split at q
                  · rename_i hl
                    have n5 := up5.notρ ne4 n4
                    have d5 := up5.lst d4 n4
                    have f5 := up5.notF ne4 n4 f4
                    have k5 : ∀ a, κ5.F a → upd H5 D (.lst (accv ++ [w])) a = H5 a := fun a ha => upd_ne fun z => f5 (z ▸ ha)
                    have racc5 : RVs K κ5 H5 acc accv := ((racc.up up3).up up4).up up5
                    refine ⟨accv, d5, by rw [← racc.length, sizeLine_eq]; omega, κ5, L4, acc ++ [z], accv ++ [w], upd_same, (racc5.append (.cons rw' .nil)).off k5 (fun a q e => upd_ne fun z => by subst z; rw [d5] at e; cases e), rl5.off (fun a ha => upd_ne fun z => ?_) (fun _ _ t => TabS.at t fun v e => by rw [d5] at e; cases e; exact ⟨fun _ q => (nomatch q), fun _ q => (nomatch q)⟩) (fun a q e => upd_ne fun z => by subst z; rw [d5] at e; cases e), Up.fill rl (((up2.trans up3).trans up4).trans up5) hD d5, n5, f5, q⟩
                    subst z
                    rcases ha with z | z | z
                    · exact f5 z
                    · exact n5 z
                    · obtain ⟨⟨ps, e, _⟩, _⟩ := rl5.tab _ z
                      rw [d5] at e
                      cases e
                  · exact q.elim
theorem qe_lc {scope : Scope} {own : List (Str × Nat)} (hc : X.calm = true) (hN : X.N.Nodup) (hi : QI X K W tg iter fi) (ok : BlkOk X.N X.env.scope scope own) (hv : ∀ j, j ∈ ix → j ∈ own.map (·.2))
    (hg : ∀ (s : Shared) (H : Hp) (C : Addr) (cl : List (Str × Addr)) (fp : List Addr), QG (X.blk s H scope (compEnvC scope cl C X.env) fp) K tg gg ix) (ht : ∀ (s : Shared) (H : Hp) (C : Addr) (cl : List (Str × Addr)) (fp : List Addr), QTs (X.blk s H scope (compEnvC scope cl C X.env) fp) K W0 ifs ft)
    (he : ∀ (s : Shared) (H : Hp) (C : Addr) (cl : List (Str × Addr)) (fp : List Addr), QE (X.blk s H scope (compEnvC scope cl C X.env) fp) K W0 elt fe) (hs : ∀ x, foldedSetIterable iter X.env x = pure x := by intro _; rfl) :
    QE X K W (.ListComp elt [⟨tg, iter, ifs, 0⟩] scope pos) (mLc fi gg ft fe (own.map (·.2))) :=
  PE.weak (pe_lc hc hN hi ok hg ht he hs) fun σ H Q ⟨κ, s, L, rs, rl, h⟩ => ⟨κ, s, L, rs, rl, (HV.bind (R := fun κ' H' it J => ItOk K J κ' H' it) h).imp fun J H1 ⟨κ1, L1, it, up, rl1, oki, q⟩ D hD => lc_ok oki (rs.up up) rl1 hv q D hD⟩
end
end Q
end
section
set_option Elab.async false
set_option linter.all false
set_option maxRecDepth 100000
set_option maxHeartbeats 4000000
namespace Q
open PySem PySem.Spec L2
section
variable {X : Cx} {K : Kt} {κ κ1 κ2 : Kp} {H H1 H2 : Hp} {L : LH} {W : WX} {σ : St} {x y : LV} {u v : V} {xs : List LV} {us : List V} {a b c' e e2 o i value tg iter elt : Expr} {es ifs : List Expr} {pos p apos tpos cpos pos' : Pos} {f : Str} {fo fa fb fc fe : Sl → M LV} {fs : Sl → M (List LV)} {ft : Sl → M Bool} {fi : Sl → M IT} {c n : Nat} {gg : LV → Sl → Option Sl} {ix : List Nat}
/-- name = [..] -/
theorem qs_setLc {k : Nat} {z : Str} {py spos : Pos} {scope : Scope} {own : List (Str × Nat)} (hc : X.calm = true) (hN : X.N.Nodup) (hy : X.N[k]? = some z) (hyl : X.env.scope.names.lookup z = some .local)
    (hsw : swapsWith (.ListComp elt [⟨tg, iter, ifs, 0⟩] scope pos) (some (.Name z py)) spos.line X.env = pure true) (hi : QI X K W tg iter fi) (ok : BlkOk X.N X.env.scope scope own) (hv : ∀ j, j ∈ ix → j ∈ own.map (·.2))
    (hg : ∀ (s : Shared) (H : Hp) (C : Addr) (cl : List (Str × Addr)) (fp : List Addr), QG (X.blk s H scope (compEnvC scope cl C X.env) fp) K tg gg ix) (ht : ∀ (s : Shared) (H : Hp) (C : Addr) (cl : List (Str × Addr)) (fp : List Addr), QTs (X.blk s H scope (compEnvC scope cl C X.env) fp) K W0 ifs ft)
    (he : ∀ (s : Shared) (H : Hp) (C : Addr) (cl : List (Str × Addr)) (fp : List Addr), QE (X.blk s H scope (compEnvC scope cl C X.env) fp) K W0 elt fe) (hs : ∀ x, foldedSetIterable iter X.env x = pure x := by intro _; rfl) :
    QS X K W (.Assign [.Name z py] (.ListComp elt [⟨tg, iter, ifs, 0⟩] scope pos) spos) (mAsg (mLc fi gg ft fe (own.map (·.2))) (gN k)) :=
  PS.weak (ps_setLc hc hN hy hyl hsw hi ok hg ht he hs) fun D σ H ⟨κ, s, L, rs, rl, h⟩ => by
    have h' : HV K W σ κ H (RV K) (mLc fi gg ft fe (own.map (·.2)) s L) fun u H1 => D.nx (σ.set k (some u)) H1 := by
      refine (HS.lift (R := RV K) rs h).imp fun u H1 ⟨κ1, L1, x, up, rl1, rx, q⟩ => ?_
      exact q κ1 H1 _ Up.refl rl1 ((rs.up up).set rx k)
    exact ⟨κ, s, L, rs, rl, (HV.bind (R := fun κ' H' it J => ItOk K J κ' H' it) h').imp fun J H1 ⟨κ1, L1, it, up, rl1, oki, q⟩ D hD => lc_ok oki (rs.up up) rl1 hv q D hD⟩
/-! ### slices -/
def tO (K : Kt) (W : WX) (f : Sl → M (Option Int)) : TO := fun σ H Q => ∃ κ s L, RS K κ H s σ ∧ RL K κ H L ∧ HV K W σ κ H (fun _ _ a b => a = b) (f s L) Q
def QO (X : Cx) (K : Kt) (W : WX) (e : Option Expr) (f : Sl → M (Option Int)) : Prop := PO X e (tO K W f)
theorem PO.weak {e : Option Expr} {t u : TO} (h : PO X e t) (k : ∀ σ H Q, u σ H Q → t σ H Q) : PO X e u := ⟨fun pins s σ H Q I q => h.run pins s σ H Q I (k _ _ _ q)⟩
def mNoP : Sl → M (Option Int) := fun _ L => .ok none L
def mPart (f : Sl → M LV) : Sl → M (Option Int) := fun s L => (f s L).bind fun x L1 => match x with
  | .int i => .ok (some i) L1
  | _ => .no
theorem qo_none : QO X K W none mNoP := PO.weak po_none fun σ H Q ⟨κ, s, L, rs, rl, h⟩ => h κ H none Up.refl rl rfl
theorem qo_some (he : QE X K W e fo) : QO X K W (some e) (mPart fo) := PO.weak (po_some he) fun σ H Q ⟨κ, s, L, rs, rl, h⟩ => ⟨κ, s, L, rs, rl, (HV.bind (R := RV K) h).imp fun u H1 ⟨κ1, L1, x, up, rl1, rx, q⟩ => by
  cases x with
  | int i => cases rx; exact ⟨i, rfl, q κ1 H1 _ Up.refl rl1 rfl⟩
  | _ => exact q.elim⟩
def cutL (xs : List LV) (lo hi : Option Int) : List LV := (xs.drop (HT.sIx xs.length 0 lo)).take (HT.sIx xs.length xs.length hi - HT.sIx xs.length 0 lo)
theorem RVs.cut {lo hi : Option Int} (r : RVs K κ H xs us) : RVs K κ H (cutL xs lo hi) (cutV us lo hi) := by
  unfold cutL cutV
  rw [← r.length]
  exact (r.drop _).take _
def gSl : LV → Option Int → Option Int → M LV := fun x lo hi L => match x with
  | .str z => if z.length ≤ 16777216 then .ok (.str (cutS z lo hi)) L else .no
  | .tup xs => if HT.sIx xs.length 0 lo = 0 ∧ HT.sIx xs.length xs.length hi = xs.length then .ok (.tup xs) L else .ok (.tup (cutL xs lo hi)) L
  | .st xs => if HT.sIx xs.length 0 lo = 0 ∧ HT.sIx xs.length xs.length hi = xs.length then .ok (.st xs) L else .ok (.tup (cutL xs lo hi)) L
  | x => match lviewR L x with
    | some xs => .ok (.fl (cutL xs lo hi)) L
    | none => .no
def mSl (fe : Sl → M LV) (fl fh : Sl → M (Option Int)) : Sl → M LV := fun s L => (fe s L).bind fun x L1 => (fl s L1).bind fun lo L2 => (fh s L2).bind fun hi L3 => gSl x lo hi L3
theorem qe_slice {lo hi : Option Expr} {fl fh : Sl → M (Option Int)} {p2 : Pos} (hK : X.K = K.K) (he : QE X K W e fo) (hl : QO X K W lo fl) (hh : QO X K W hi fh) : QE X K W (.Subscript e (.Slice lo hi none p2) pos) (mSl fo fl fh) := by
  refine PE.weak (pe_slice (SlR.or sl_str (SlR.or sl_tupA sl_list)) he hl hh) fun σ H Q ⟨κ, s, L, rs, rl, h⟩ => ⟨κ, s, L, rs, rl, (HV.bind (R := RV K) h).imp fun u H1 ⟨κ1, L1, x, up, rl1, rx, q⟩ => ⟨κ1, s, L1, rs.up up, rl1, (HV.bind (R := fun _ _ a b => a = b) q).imp fun lo H2 ⟨κ2, L2, lo', up2, rl2, e1, q2⟩ =>
    ⟨κ2, s, L2, (rs.up up).up up2, rl2, (HV.bind (R := fun _ _ a b => a = b) q2).imp fun hi H3 ⟨κ3, L3, hi', up3, rl3, e2, q3⟩ => ?_⟩⟩⟩
  have e1 : lo' = lo := e1
  have e2 : hi' = hi := e2
  subst e1 e2
  have rx := (rx.up up2).up up3
  clear q q2 h
  unfold gSl at q3
  have go : ∀ {x : LV} {u : V}, RV K κ3 H3 x u → HV K W σ κ3 H3 (RV K) (match lviewR L3 x with
    | some xs => Res.ok (.fl (cutL xs lo' hi')) L3
    | none => .no) Q → rSlL X.K u lo' hi' H3 Q := fun {x u} rx q => by
    cases e : lviewR L3 x with
    | none => rw [e] at q; exact q.elim
    | some xs =>
      rw [e] at q
      obtain ⟨a, us, rfl, h1, h2⟩ := lviewR_ok rl3 rx e
      exact ⟨a, us, rfl, by rw [hK]; exact h1, fun p hp => q (κ3.more p) _ _ (Up.froz rl3 hp) (rl3.froz hp) (new_fl rl3 hp h2.cut)⟩
  split at q3
  · cases rx
    split at q3
    · exact .inl ⟨_, rfl, by rw [sizeLine_eq]; assumption, q3.now rl3 (.str _)⟩
    · exact q3.elim
  · cases rx with
    | tup g1 g2 =>
      refine .inr (.inl ⟨_, _, rfl, SqT.of g1.2, fun hw => ?_, fun hw p hp => ?_⟩)
      · rw [← g2.length] at hw
        rw [if_pos hw] at q3
        exact q3.now rl3 (.tup g1 g2)
      · rw [← g2.length] at hw
        rw [if_neg hw] at q3
        exact q3 (κ3.more p) _ _ (Up.froz rl3 hp) (rl3.froz hp) (new_tup rl3 hp g2.cut)
  · cases rx with
    | st g1 g2 =>
      refine .inr (.inl ⟨_, _, rfl, by rw [hK]; exact g1.sq, fun hw => ?_, fun hw p hp => ?_⟩)
      · rw [← g2.length] at hw
        rw [if_pos hw] at q3
        exact q3.now rl3 (.st g1 g2)
      · rw [← g2.length] at hw
        rw [if_neg hw] at q3
        exact q3 (κ3.more p) _ _ (Up.froz rl3 hp) (rl3.froz hp) (new_tup rl3 hp g2.cut)
  · exact .inr (.inr (go rx q3))
/-! ### chains of comparisons -/
def mChain (g g' : LV → LV → M LV) (fa fb fc : Sl → M LV) : Sl → M LV := fun s L => (fa s L).bind fun x L1 => (fb s L1).bind fun y L2 => (g x y L2).bind fun z L3 => (toB z L3).bind fun k L4 => if k = true then (fc s L4).bind fun w L5 => g' y w L5 else .ok (.bl false) L4
theorem qe_chain {op op' : CmpOp} {g g' : LV → LV → M LV} (ho : OpQ X K (compareOp op) g) (ho' : OpQ X K (compareOp op') g') (ha : QE X K W a fa) (hb : QE X K W b fb) (hc : QE X K W c' fc)
    (hm : lastMarks [op, op'] [b, c'] = false := by with_unfolding_all rfl) : QE X K W (.Compare a [op, op'] [b, c'] pos) (mChain g g' fa fb fc) := by
  obtain ⟨r, h1, h2⟩ := ho
  obtain ⟨r', h1', h2'⟩ := ho'
  refine PE.weak (pe_chain h1 h1' ha hb hc hm) fun σ H Q ⟨κ, s, L, rs, rl, h⟩ => ⟨κ, s, L, rs, rl, (HV.bind (R := RV K) h).imp fun u H1 ⟨κ1, L1, x, up, rl1, rx, q⟩ => ⟨κ1, s, L1, rs.up up, rl1, (HV.bind (R := RV K) q).imp fun v H2 ⟨κ2, L2, y, up2, rl2, ry, q2⟩ => h2 W κ2 H2 L2 x y u v σ _ rl2 (rx.up up2) ry ((HV.bind (R := RV K) q2).imp fun z H3 ⟨κ3, L3, zl, up3, rl3, rz, q3⟩ => ?_)⟩⟩
  obtain ⟨k, rfl, q4⟩ := toB_bind rz q3
  refine ⟨k, rfl, ?_⟩
  cases k with
  | true =>
    rw [if_pos rfl]
    rw [if_pos rfl] at q4
    exact ⟨κ3, s, L3, ((rs.up up).up up2).up up3, rl3, (HV.bind (R := RV K) q4).imp fun w H4 ⟨κ4, L4, wl, up4, rl4, rw', q5⟩ => h2' W κ4 H4 L4 y wl v w σ Q rl4 ((ry.up up3).up up4) rw' q5⟩
  | false =>
    rw [if_neg (by decide)]
    rw [if_neg (by decide)] at q4
    exact q4.now rl3 (.bl _)
theorem qt_chain {op op' : CmpOp} {g g' : LV → LV → M LV} (ho : OpQ X K (compareOp op) g) (ho' : OpQ X K (compareOp op') g') (ha : QE X K W a fa) (hb : QE X K W b fb) (hc : QE X K W c' fc)
    (hm : lastMarks [op, op'] [b, c'] = false := by with_unfolding_all rfl) : QT X K W (.Compare a [op, op'] [b, c'] pos) (mTest (mChain g g' fa fb fc)) := by
  obtain ⟨r, h1, h2⟩ := ho
  obtain ⟨r', h1', h2'⟩ := ho'
  refine PT.weak (pt_chain h1 h1' ha hb hc hm) fun σ H Q ⟨κ, s, L, rs, rl, h⟩ => ⟨κ, s, L, rs, rl, ?_⟩
  have e : mTest (mChain g g' fa fb fc) s L = (fa s L).bind fun x L1 => (fb s L1).bind fun y L2 => (g x y L2).bind fun z L3 => (toB z L3).bind fun k L4 => if k = true then (fc s L4).bind fun w L5 => (g' y w L5).bind toB else .ok false L4 := by
    unfold mTest mChain
    cases fa s L with
    | ok x L1 =>
      show Res.bind (Res.bind (fb s L1) _) toB = Res.bind (fb s L1) _
      cases fb s L1 with
      | ok y L2 =>
        show Res.bind (Res.bind (g x y L2) _) toB = Res.bind (g x y L2) _
        cases g x y L2 with
        | ok z L3 =>
          show Res.bind (Res.bind (toB z L3) _) toB = Res.bind (toB z L3) _
          cases toB z L3 with
          | ok k L4 =>
            cases k with
            | true =>
              show Res.bind (Res.bind (fc s L4) _) toB = Res.bind (fc s L4) _
              cases fc s L4 <;> rfl
            | false => rfl
          | exc => rfl
          | no => rfl
        | exc => rfl
        | no => rfl
      | exc => rfl
      | no => rfl
    | exc => rfl
    | no => rfl
  rw [e] at h
  refine (HV.bind (R := RV K) h).imp fun u H1 ⟨κ1, L1, x, up, rl1, rx, q⟩ => ⟨κ1, s, L1, rs.up up, rl1, (HV.bind (R := RV K) q).imp fun v H2 ⟨κ2, L2, y, up2, rl2, ry, q2⟩ => h2 W κ2 H2 L2 x y u v σ _ rl2 (rx.up up2) ry ((HV.bind (R := RV K) q2).imp fun z H3 ⟨κ3, L3, zl, up3, rl3, rz, q3⟩ => ?_)⟩
  obtain ⟨k, rfl, q4⟩ := toB_bind rz q3
  refine ⟨k, rfl, ?_⟩
  cases k with
  | true =>
    rw [if_pos rfl]
    rw [if_pos rfl] at q4
    exact ⟨κ3, s, L3, ((rs.up up).up up2).up up3, rl3, (HV.bind (R := RV K) q4).imp fun w H4 ⟨κ4, L4, wl, up4, rl4, rw', q5⟩ => h2' W κ4 H4 L4 y wl v w σ _ rl4 ((ry.up up3).up up4) rw' ((HV.bind (R := RV K) q5).imp fun w H3 ⟨κ3, L3, z, up3, rl3, rz, q3⟩ => toB_ok rl3 rz q3)⟩
  | false =>
    rw [if_neg (by decide)]
    rw [if_neg (by decide)] at q4
    exact ⟨false, rfl, q4 κ3 H3 false Up.refl rl3 rfl⟩
/-! ### truth -/
def truthL (x : LV) (L : LH) : Res Bool := match x with
  | .non => .ok false L
  | .bl b => .ok b L
  | .int i => .ok (i != 0) L
  | .str z => if z.length ≤ 16777216 then .ok ((z.length : Int) != 0) L else .no
  | x => match tview x with
    | some xs => .ok (!xs.isEmpty) L
    | none => match lviewR L x with
      | some xs => .ok (!xs.isEmpty) L
      | none => .no
def mTru (f : Sl → M LV) : Sl → M Bool := fun s L => (f s L).bind truthL
theorem RVs.isEmpty (r : RVs K κ H xs us) : us.isEmpty = xs.isEmpty := by cases r <;> rfl
theorem qt_truth (hK : X.K = K.K) (ha : QE X K W a fa) (he : ∀ whole, isTrue a X.env whole = (do let v ← whole; standAt a.pos; holding [v] (truthy v)) := by intro _; rfl) : QT X K W a (mTru fa) :=
  PT.weak (pt_truth ha he) fun σ H Q ⟨κ, s, L, rs, rl, h⟩ => ⟨κ, s, L, rs, rl, (HV.bind (R := RV K) h).imp fun u H1 ⟨κ1, L1, x, up, rl1, rx, q⟩ => by
    have nw : ∀ {k : Bool}, HV K W σ κ1 H1 RB (.ok k L1) Q → Q k H1 := fun {k} h => h κ1 H1 k Up.refl rl1 rfl
    unfold truthL at q
    split at q
    · cases rx; exact ⟨_, rfl, nw q⟩
    · cases rx; exact ⟨_, rfl, nw q⟩
    · cases rx; exact ⟨_, rfl, nw q⟩
    · cases rx
      split at q
      · exact ⟨_, ⟨by rw [sizeLine_eq]; assumption, rfl⟩, nw q⟩
      · exact q.elim
    · split at q
      · rename_i xs hx
        obtain ⟨a, us, rfl, h1, h2⟩ := tview_ok rx hx
        exact ⟨_, .inr (.inl ⟨us, by rw [hK]; exact h1, rfl⟩), by rw [h2.isEmpty]; exact nw q⟩
      · split at q
        · rename_i xs hx
          obtain ⟨a, us, rfl, h1, h2⟩ := lviewR_ok rl1 rx hx
          exact ⟨_, .inl ⟨us, by rw [hK]; exact h1, rfl⟩, by rw [h2.isEmpty]; exact nw q⟩
        · exact q.elim⟩
/-! ### in -/
def flatL : LV → Bool
  | .non => true | .bl _ => true | .int _ => true | .str _ => true | _ => false
def eqL : LV → LV → Bool
  | .non, .non => true
  | .bl a, .bl b => a == b
  | .bl a, .int b => (if a then 1 else 0) == b
  | .int a, .bl b => a == (if b then 1 else 0)
  | .int a, .int b => a == b
  | .str a, .str b => a == b
  | _, _ => false
theorem flat_ok (rx : RV K κ H x u) (h : flatL x = true) : flatV u = true := by cases rx <;> first | rfl | cases h
theorem eqL_ok (rx : RV K κ H x u) (ry : RV K κ H y v) : eqV u v = eqL x y := by cases rx <;> cases ry <;> rfl
theorem all_ok : ∀ {xs : List LV} {us : List V}, RVs K κ H xs us → xs.all flatL = true → us.all flatV = true
  | _, _, .nil, _ => rfl
  | _, _, .cons h r, f => by
    rw [List.all_cons, Bool.and_eq_true] at f ⊢
    exact ⟨flat_ok h f.1, all_ok r f.2⟩
theorem any_ok (rx : RV K κ H x u) : ∀ {xs : List LV} {us : List V}, RVs K κ H xs us → inV u us = xs.any fun y => eqL y x
  | _, _, .nil => rfl
  | _, _, .cons h r => by
    have ih := any_ok rx r
    unfold inV at ih ⊢
    rw [List.any_cons, List.any_cons, ih, eqL_ok h rx]
def gIn (neg : Bool) : LV → LV → M LV := fun x y L => match x, y with
  | .str a, .str z => match a.cps.toList with
    | [c] => .ok (.bl (if neg then !decide (c ∈ z.cps.toList) else decide (c ∈ z.cps.toList))) L
    | _ => .no
  | x, y => match tview y with
    | some ys => if flatL x = true ∧ ys.all flatL = true then .ok (.bl (if neg then !(ys.any fun y => eqL y x) else ys.any fun y => eqL y x)) L else .no
    | none => match lviewR L y with
      | some ys => if flatL x = true ∧ ys.all flatL = true then .ok (.bl (if neg then !(ys.any fun y => eqL y x) else ys.any fun y => eqL y x)) L else .no
      | none => .no
theorem gIn_ok {neg : Bool} {Q : VK} (h : HV K W σ κ H (RV K) (gIn neg x y L) Q) (rl : RL K κ H L) (rx : RV K κ H x u) (ry : RV K κ H y v) :
    (∃ (c : Nat) (z : Str), u = .str ⟨#[c]⟩ ∧ v = .str z ∧ Q (.bl (if neg then !decide (c ∈ z.cps.toList) else decide (c ∈ z.cps.toList))) H) ∨ rIn K.K neg u v H Q := by
  unfold gIn at h
  split at h
  · cases rx; cases ry
    rename_i a z
    split at h
    · rename_i c hc
      have e : a = ⟨#[c]⟩ := by
        cases a with
        | mk cps =>
          have : cps.toList = [c] := hc
          rw [← Array.toArray_toList (xs := cps), this]
      exact .inl ⟨c, _, by rw [e], rfl, h.now rl (.bl _)⟩
    · exact h.elim
  · split at h
    · rename_i ys hy
      obtain ⟨a, us, rfl, h1, h2⟩ := tview_ok ry hy
      split at h
      · rename_i hf
        refine .inr ⟨a, us, rfl, .inr h1, flat_ok rx hf.1, all_ok h2 hf.2, ?_⟩
        rw [any_ok rx h2]
        exact h.now rl (.bl _)
      · exact h.elim
    · split at h
      · rename_i ys hy
        obtain ⟨a, us, rfl, h1, h2⟩ := lviewR_ok rl ry hy
        split at h
        · rename_i hf
          refine .inr ⟨a, us, rfl, .inl h1, flat_ok rx hf.1, all_ok h2 hf.2, ?_⟩
          rw [any_ok rx h2]
          exact h.now rl (.bl _)
        · exact h.elim
      · exact h.elim
theorem oq_in (hK : X.K = K.K) : OpQ X K (compareOp .In) (gIn false) := ⟨_, OpR.or op_in_sign op_in_seq, fun W κ H L x y u v σ Q rl rx ry h => (gIn_ok h rl rx ry).imp id fun z => by rw [hK]; exact z⟩
theorem oq_notIn (hK : X.K = K.K) : OpQ X K (compareOp .NotIn) (gIn true) := ⟨_, OpR.or op_notIn_sign op_notIn_seq, fun W κ H L x y u v σ Q rl rx ry h => (gIn_ok h rl rx ry).imp id fun z => by rw [hK]; exact z⟩
/-! ### dicts -/
def keyOf : LV → Option Key
  | .int i => some (.inl i)
  | .str x => some (.inr x)
  | _ => none
def keysOf : List LV → Option (List Key)
  | [] => some []
  | x :: xs => match keyOf x, keysOf xs with
    | some k, some ks => some (k :: ks)
    | _, _ => none
theorem keyOf_ok {k : Key} (rx : RV K κ H x u) (h : keyOf x = some k) : u = kV k := by cases rx <;> cases h <;> rfl
theorem keysOf_ok : ∀ {xs : List LV} {us : List V} {ks : List Key}, RVs K κ H xs us → keysOf xs = some ks → us = ks.map kV
  | _, _, _, .nil, h => by cases h; rfl
  | x :: xs, _, ks, .cons r t, h => by
    unfold keysOf at h
    cases e : keyOf x with
    | none => rw [e] at h; cases h
    | some k =>
      cases e2 : keysOf xs with
      | none => rw [e, e2] at h; cases h
      | some ks' =>
        rw [e, e2] at h
        cases h
        rw [List.map_cons, keyOf_ok r e, keysOf_ok t e2]
section
variable {T : Type} [DecidableEq T]
def lookK (kvs : List (T × LV)) (k : T) : Option LV := (kvs.find? fun kv => decide (kv.1 = k)).map (·.2)
def putKL (kvs : List (T × LV)) (k : T) (v : LV) : List (T × LV) := if (kvs.any fun kv => decide (kv.1 = k)) = true then kvs.map (fun kv => if kv.1 = k then (kv.1, v) else kv) else kvs ++ [(k, v)]
def dropKL (kvs : List (T × LV)) (k : T) : List (T × LV) := kvs.filter fun kv => decide (kv.1 ≠ k)
def OptV (K : Kt) (κ : Kp) (H : Hp) : Option LV → Option V → Prop
  | some x, some u => RV K κ H x u
  | none, none => True
  | _, _ => False
theorem Keyed.lookV {k : T} : ∀ {kvs : List (T × LV)} {us : List (T × V)}, Keyed K κ H kvs us → OptV K κ H (lookK kvs k) (valV us k)
  | _, _, .nil => trivial
  | (g, w) :: kvs, (g', w') :: us, .cons h t => by
    have e : g = g' := h.1
    subst e
    unfold lookK valV
    rw [List.find?_cons, List.find?_cons]
    by_cases hk : g = k
    · rw [decide_eq_true hk]; exact h.2
    · rw [decide_eq_false hk]; exact Keyed.lookV t
theorem Keyed.anyV {k : T} : ∀ {kvs : List (T × LV)} {us : List (T × V)}, Keyed K κ H kvs us → (kvs.any fun kv => decide (kv.1 = k)) = (us.any fun kv => decide (kv.1 = k))
  | _, _, .nil => rfl
  | (g, w) :: kvs, (g', w') :: us, .cons h t => by
    have e : g = g' := h.1
    subst e
    rw [List.any_cons, List.any_cons, Keyed.anyV t]
theorem Keyed.append {k : T} {w : LV} {w' : V} (r : RV K κ H w w') : ∀ {kvs : List (T × LV)} {us : List (T × V)}, Keyed K κ H kvs us → Keyed K κ H (kvs ++ [(k, w)]) (us ++ [(k, w')])
  | _, _, .nil => .cons ⟨rfl, r⟩ .nil
  | _, _, .cons h t => .cons h (Keyed.append r t)
theorem Keyed.mapV {k : T} {w : LV} {w' : V} (r : RV K κ H w w') : ∀ {kvs : List (T × LV)} {us : List (T × V)}, Keyed K κ H kvs us → Keyed K κ H (kvs.map fun kv => if kv.1 = k then (kv.1, w) else kv) (us.map fun kv => if kv.1 = k then (kv.1, w') else kv)
  | _, _, .nil => .nil
  | (g, z) :: kvs, (g', z') :: us, .cons h t => by
    have e : g = g' := h.1
    subst e
    rw [List.map_cons, List.map_cons]
    by_cases hk : g = k
    · rw [if_pos hk, if_pos hk]; exact .cons ⟨rfl, r⟩ (Keyed.mapV r t)
    · rw [if_neg hk, if_neg hk]; exact .cons ⟨rfl, h.2⟩ (Keyed.mapV r t)
theorem Keyed.putV {k : T} {w : LV} {w' : V} {kvs : List (T × LV)} {us : List (T × V)} (r : RV K κ H w w') (h : Keyed K κ H kvs us) : Keyed K κ H (putKL kvs k w) (putK us k w') := by
  unfold putKL putK
  rw [h.anyV]
  split
  · exact h.mapV r
  · exact h.append r
theorem Keyed.dropV {k : T} : ∀ {kvs : List (T × LV)} {us : List (T × V)}, Keyed K κ H kvs us → Keyed K κ H (dropKL kvs k) (dropK us k)
  | _, _, .nil => .nil
  | (g, z) :: kvs, (g', z') :: us, .cons h t => by
    have e : g = g' := h.1
    subst e
    unfold dropKL dropK
    rw [List.filter_cons, List.filter_cons]
    by_cases hk : g = k
    · rw [if_neg (by simp [hk]), if_neg (by simp [hk])]; exact Keyed.dropV t
    · rw [if_pos (by simp [hk]), if_pos (by simp [hk])]; exact .cons h (Keyed.dropV t)
end
/-- what the dict x has at y; none: it cannot be told -/
def dGet (L : LH) (x y : LV) : Option (Option LV) := match x with
  | .ref n => match L[n]? with
    | some (.dK kvs) => (keyOf y).map (lookK kvs)
    | some (.lkK kvs) => (keyOf y).map (lookK kvs)
    | some (.dT kvs) => (match y with
      | .tup ys => (keysOf ys).map (lookK kvs)
      | _ => none)
    | _ => none
  | _ => none
theorem dGet_ok {r : Option LV} (rl : RL K κ H L) (rx : RV K κ H x u) (ry : RV K κ H y v) (h : dGet L x y = some r) : ∃ a ro, u = .ref a ∧ IsD H a ∧ DGet H a v ro ∧ OptV K κ H r ro := by
  unfold dGet at h
  cases x with
  | ref n =>
    simp only [] at h
    cases e : L[n]? with
    | none => rw [e] at h; cases h
    | some ob =>
      rw [e] at h
      cases ob with
      | dK kvs =>
        simp only [Option.map_eq_some_iff] at h
        obtain ⟨k, hk, rfl⟩ := h
        obtain ⟨a, rfl, ha, _, us, h1, h2⟩ := rl.at e rx (fun z => nomatch z)
        rw [keyOf_ok ry hk]
        exact ⟨a, _, rfl, .inl ⟨us, .of h1⟩, DGet.k h1, h2.lookV⟩
      | lkK kvs =>
        simp only [Option.map_eq_some_iff] at h
        obtain ⟨k, hk, rfl⟩ := h
        obtain ⟨a, rfl, ha, _, od, us, h1, h2⟩ := rl.at e rx (fun z => nomatch z)
        rw [keyOf_ok ry hk]
        exact ⟨a, _, rfl, .inl ⟨us, .inr ⟨od, h1⟩⟩, .inl ⟨us, k, .inr ⟨od, h1⟩, rfl, rfl⟩, h2.lookV⟩
      | dT kvs =>
        simp only [] at h
        cases y with
        | tup ys =>
          simp only [Option.map_eq_some_iff] at h
          obtain ⟨ks, hk, rfl⟩ := h
          obtain ⟨a, rfl, ha, _, us, h1, h2⟩ := rl.at e rx (fun z => nomatch z)
          cases ry with
          | tup g1 g2 =>
            have g3 := g1.2
            rw [keysOf_ok g2 hk] at g3
            exact ⟨a, _, rfl, .inr ⟨us, .of h1⟩, DGet.t h1 g3, h2.lookV⟩
        | _ => cases h
      | _ => cases h
  | _ => cases h
def dPut (L : LH) (x y w : LV) : Option LH := match x with
  | .ref n => match L[n]? with
    | some (.dK kvs) => if kvs.length < 1000000 then (keyOf y).map fun k => L.set n (.dK (putKL kvs k w)) else none
    | some (.dT kvs) => if kvs.length < 1000000 then (match y with
      | .tup ys => (keysOf ys).map fun k => L.set n (.dT (putKL kvs k w))
      | _ => none) else none
    | _ => none
  | _ => none
theorem dPut_ok {L' : LH} {w : LV} {w' : V} (rl : RL K κ H L) (rx : RV K κ H x u) (ry : RV K κ H y v) (rw' : RV K κ H w w') (h : dPut L x y w = some L') : ∃ a H', u = .ref a ∧ DPut H a v w' H' ∧ Up K κ H κ H' ∧ RL K κ H' L' := by
  unfold dPut at h
  cases x with
  | ref n =>
    simp only [] at h
    cases e : L[n]? with
    | none => rw [e] at h; cases h
    | some ob =>
      rw [e] at h
      cases ob with
      | dK kvs =>
        simp only [] at h
        split at h
        · rename_i hl
          simp only [Option.map_eq_some_iff] at h
          obtain ⟨k, hk, rfl⟩ := h
          obtain ⟨a, rfl, ha, _, us, h1, h2⟩ := rl.at e rx (fun z => nomatch z)
          rw [keyOf_ok ry hk]
          have up := Up.chg (ho := .dK (putK us k w')) rl e (fun z => nomatch z) ha
          exact ⟨a, _, rfl, DPut.k h1 (by rw [← Keyed.length h2, sizeLine_eq]; omega), up, rl.chg e (fun z => nomatch z) ha ⟨_, upd_same, (Keyed.putV rw' h2).up up⟩⟩
        · cases h
      | dT kvs =>
        simp only [] at h
        split at h
        · rename_i hl
          cases y with
          | tup ys =>
            simp only [Option.map_eq_some_iff] at h
            obtain ⟨ks, hk, rfl⟩ := h
            obtain ⟨a, rfl, ha, _, us, h1, h2⟩ := rl.at e rx (fun z => nomatch z)
            cases ry with
            | tup g1 g2 =>
              have g3 := g1.2
              rw [keysOf_ok g2 hk] at g3
              have up := Up.chg (ho := .dT (putK us ks w')) rl e (fun z => nomatch z) ha
              exact ⟨a, _, rfl, DPut.t h1 g3 (by rw [← Keyed.length h2, sizeLine_eq]; omega), up, rl.chg e (fun z => nomatch z) ha ⟨_, upd_same, (Keyed.putV rw' h2).up up⟩⟩
          | _ => cases h
        · cases h
      | _ => cases h
  | _ => cases h
def gDGet : LV → LV → M LV := fun x y L => match dGet L x y with
  | some (some w) => .ok w L
  | _ => .no
theorem qe_dget (hu : X.A.units + 1 < cLine) (ho : QE X K W o fo) (hi : QE X K W i fb) (hs : NoSl i := by intro _ _; rfl) : QE X K W (.Subscript o i pos) (mOp gDGet fo fb) :=
  PE.weak (pe_dget hu ho hi hs) fun σ H Q ⟨κ, s, L, rs, rl, h⟩ => ⟨κ, s, L, rs, rl, (HV.bind (R := RV K) h).imp fun u H1 ⟨κ1, L1, x, up, rl1, rx, q⟩ => ⟨κ1, s, L1, rs.up up, rl1, (HV.bind (R := RV K) q).imp fun v H2 ⟨κ2, L2, y, up2, rl2, ry, q2⟩ => by
    unfold gDGet at q2
    split at q2
    · rename_i w hw
      obtain ⟨a, ro, rfl, h1, h2, h3⟩ := dGet_ok rl2 (rx.up up2) ry hw
      cases ro with
      | none => exact h3.elim
      | some r => exact ⟨a, r, rfl, h2, q2.now rl2 h3⟩
    · exact q2.elim⟩⟩
def mDIn (neg : Bool) (fy fd : Sl → M LV) : Sl → M LV := fun s L => (fy s L).bind fun y L1 => (fd s L1).bind fun x L2 => match dGet L2 x y with
  | some r => .ok (.bl (if neg then !r.isSome else r.isSome)) L2
  | none => .no
theorem OptV.isSome {r : Option LV} {ro : Option V} (h : OptV K κ H r ro) : ro.isSome = r.isSome := by
  cases r <;> cases ro <;> first | rfl | exact h.elim
theorem dIn_ok {neg : Bool} {Q : VK} {s : Sl} (rs : RS K κ H s σ) (rl : RL K κ H L) (h : HV K W σ κ H (RV K) (mDIn neg fb fo s L) Q) :
    tE K W fb σ H fun y H1 => tE K W fo σ H1 fun x H2 => ∃ a o, x = .ref a ∧ DGet H2 a y o ∧ Q (.bl (if neg then !o.isSome else o.isSome)) H2 :=
  ⟨κ, s, L, rs, rl, (HV.bind (R := RV K) h).imp fun v H1 ⟨κ1, L1, y, up, rl1, ry, q⟩ => ⟨κ1, s, L1, rs.up up, rl1, (HV.bind (R := RV K) q).imp fun u H2 ⟨κ2, L2, x, up2, rl2, rx, q2⟩ => by
    cases e : dGet L2 x y with
    | none => rw [e] at q2; exact q2.elim
    | some r =>
      rw [e] at q2
      obtain ⟨a, ro, rfl, h1, h2, h3⟩ := dGet_ok rl2 rx (ry.up up2) e
      exact ⟨a, ro, rfl, h2, by rw [h3.isSome]; exact q2.now rl2 (.bl _)⟩⟩⟩
theorem qe_din (hu : X.A.units + 1 < cLine) (hi : QE X K W i fb) (ho : QE X K W o fo) (hm : behindInMarks .In o = false := by rfl) : QE X K W (.Compare i [.In] [o] pos) (mDIn false fb fo) :=
  PE.weak (pe_cmp (pc_din hu hi ho) hm) fun σ H Q ⟨κ, s, L, rs, rl, h⟩ => dIn_ok rs rl h
theorem qe_dnotin (hu : X.A.units + 1 < cLine) (hi : QE X K W i fb) (ho : QE X K W o fo) (hm : behindInMarks .NotIn o = false := by rfl) : QE X K W (.Compare i [.NotIn] [o] pos) (mDIn true fb fo) :=
  PE.weak (pe_cmp (pc_dnotin hu hi ho) hm) fun σ H Q ⟨κ, s, L, rs, rl, h⟩ => dIn_ok rs rl h
theorem dInT {neg : Bool} {s : Sl} {Q : Bool → Hp → Prop} (h : HV K W σ κ H RB (mTest (mDIn neg fb fo) s L) Q) : HV K W σ κ H (RV K) (mDIn neg fb fo s L) fun z H3 => ∃ k, z = .bl k ∧ Q k H3 :=
  (HV.bind (R := RV K) h).imp fun w H3 ⟨κ3, L3, z, up3, rl3, rz, q3⟩ => toB_ok rl3 rz q3
theorem qt_din (hu : X.A.units + 1 < cLine) (hi : QE X K W i fb) (ho : QE X K W o fo) (hm : behindInMarks .In o = false := by rfl) : QT X K W (.Compare i [.In] [o] pos) (mTest (mDIn false fb fo)) :=
  PT.weak (pt_cmp (pc_din hu hi ho) hm) fun σ H Q ⟨κ, s, L, rs, rl, h⟩ => dIn_ok rs rl (dInT h)
theorem qt_dnotin (hu : X.A.units + 1 < cLine) (hi : QE X K W i fb) (ho : QE X K W o fo) (hm : behindInMarks .NotIn o = false := by rfl) : QT X K W (.Compare i [.NotIn] [o] pos) (mTest (mDIn true fb fo)) :=
  PT.weak (pt_cmp (pc_dnotin hu hi ho) hm) fun σ H Q ⟨κ, s, L, rs, rl, h⟩ => dIn_ok rs rl (dInT h)
/-- d[y] = v -/
def mDPut (fd fy fv : Sl → M LV) : MS := fun s L => lift s (fun v L1 => lift s (fun x L2 => lift s (fun y L3 => match dPut L3 x y v with
  | some L4 => .next s L4
  | none => .no) (fy s L2)) (fd s L1)) (fv s L)
theorem qs_dput (hu : X.A.units + 1 < cLine) (ho : QE X K W o fo) (hi : QE X K W i fb) (hv : QE X K W value fc) (hs : swapsWith value (some (.Subscript o i pos')) pos.line X.env = pure false := by rfl) : QS X K W (.Assign [.Subscript o i pos'] value pos) (mDPut fo fb fc) :=
  PS.weak (ps_dput hu ho hi hv hs) fun D σ H ⟨κ, s, L, rs, rl, h⟩ => ⟨κ, s, L, rs, rl, (HS.lift (R := RV K) rs h).imp fun w H1 ⟨κ1, L1, z, up, rl1, rz, q⟩ => ⟨κ1, s, L1, rs.up up, rl1, (HS.lift (R := RV K) (rs.up up) q).imp fun u H2 ⟨κ2, L2, x, up2, rl2, rx, q2⟩ =>
    ⟨κ2, s, L2, (rs.up up).up up2, rl2, (HS.lift (R := RV K) ((rs.up up).up up2) q2).imp fun v H3 ⟨κ3, L3, y, up3, rl3, ry, q3⟩ => by
      cases e : dPut L3 x y z with
      | none => rw [e] at q3; exact q3.elim
      | some L4 =>
        rw [e] at q3
        obtain ⟨a, H4, rfl, h3, h5, h6⟩ := dPut_ok rl3 (rx.up up3) ry ((rz.up up2).up up3) e
        exact ⟨a, H4, rfl, h3, q3 κ3 _ σ h5 h6 ((((rs.up up).up up2).up up3).up h5)⟩⟩⟩⟩
def mDNew (o : LO) : Sl → M LV := fun _ L => .ok (.ref L.length) (L ++ [o])
theorem qe_dnewK : QE X K W (.Dict [] [] pos) (mDNew (.dK [])) := PE.weak pe_dnewK fun σ H Q ⟨κ, s, L, rs, rl, h⟩ p hp => h (κ.num p) _ _ (Up.numb rl hp) (rl.numb hp ⟨[], upd_same, .nil⟩) (new_ref rl)
theorem qe_dnewT : QE X K W (.Dict [] [] pos) (mDNew (.dT [])) := PE.weak pe_dnewT fun σ H Q ⟨κ, s, L, rs, rl, h⟩ p hp => h (κ.num p) _ _ (Up.numb rl hp) (rl.numb hp ⟨[], upd_same, .nil⟩) (new_ref rl)
def isDL (L : LH) (x : LV) : Bool := match x with
  | .ref n => match L[n]? with
    | some (.dK _) => true
    | some (.lkK _) => true
    | some (.dT _) => true
    | _ => false
  | _ => false
theorem isDL_ok (rl : RL K κ H L) (rx : RV K κ H x u) (h : isDL L x = true) : ∃ a, u = .ref a ∧ IsD H a := by
  unfold isDL at h
  cases x with
  | ref n =>
    simp only [] at h
    cases e : L[n]? with
    | none => rw [e] at h; cases h
    | some ob =>
      rw [e] at h
      cases ob with
      | dK kvs =>
        obtain ⟨a, rfl, ha, _, us, h1, h2⟩ := rl.at e rx (fun z => nomatch z)
        exact ⟨a, rfl, .inl ⟨us, .of h1⟩⟩
      | lkK kvs =>
        obtain ⟨a, rfl, ha, _, od, us, h1, h2⟩ := rl.at e rx (fun z => nomatch z)
        exact ⟨a, rfl, .inl ⟨us, .inr ⟨od, h1⟩⟩⟩
      | dT kvs =>
        obtain ⟨a, rfl, ha, _, us, h1, h2⟩ := rl.at e rx (fun z => nomatch z)
        exact ⟨a, rfl, .inr ⟨us, .of h1⟩⟩
      | _ => cases h
  | _ => cases h
/-- d.get(y), d.get(y, z) -/
def mDGet1 (fd fy : Sl → M LV) : Sl → M LV := fun s L => (fd s L).bind fun x L1 => if isDL L1 x = true then (fy s L1).bind fun y L2 => (match dGet L2 x y with
  | some r => .ok (r.getD .non) L2
  | none => .no) else .no
def mDGet2 (fd fy fz : Sl → M LV) : Sl → M LV := fun s L => (fd s L).bind fun x L1 => if isDL L1 x = true then (fy s L1).bind fun y L2 => (fz s L2).bind fun z L3 => (match dGet L3 x y with
  | some r => .ok (r.getD z) L3
  | none => .no) else .no
theorem OptV.getD {r : Option LV} {ro : Option V} (h : OptV K κ H r ro) (rx : RV K κ H x u) : RV K κ H (r.getD x) (ro.getD u) := by
  cases r <;> cases ro <;> first | exact rx | exact h | exact h.elim
theorem qe_dget1 (hu : X.A.units + 1 < cLine) (ho : QE X K W o fo) (he : QE X K W e fb) (m : M1 X o "get" apos e cpos := by exact ⟨by rfl, by rfl, by rfl, by rfl⟩) : QE X K W (.Call (.Attribute o "get" apos) [e] [] cpos) (mDGet1 fo fb) :=
  PE.weak (pe_dget1 hu ho he m) fun σ H Q ⟨κ, s, L, rs, rl, h⟩ => ⟨κ, s, L, rs, rl, (HV.bind (R := RV K) h).imp fun u H1 ⟨κ1, L1, x, up, rl1, rx, q⟩ => by
    split at q
    · rename_i hi
      obtain ⟨a, rfl, hd⟩ := isDL_ok rl1 rx hi
      refine ⟨a, rfl, hd, κ1, s, L1, rs.up up, rl1, (HV.bind (R := RV K) q).imp fun v H2 ⟨κ2, L2, y, up2, rl2, ry, q2⟩ => ?_⟩
      cases e : dGet L2 x y with
      | none => rw [e] at q2; exact q2.elim
      | some r =>
        rw [e] at q2
        obtain ⟨a', ro, ea, h1, h2, h3⟩ := dGet_ok rl2 (rx.up up2) ry e
        cases ea
        exact ⟨ro, h2, q2.now rl2 (h3.getD .non)⟩
    · exact q.elim⟩
theorem qe_dget2 (hu : X.A.units + 1 < cLine) (ho : QE X K W o fo) (he : QE X K W e fb) (hf : QE X K W e2 fc) (m : M2 X o "get" apos e e2 cpos := by exact ⟨by rfl, by rfl, by rfl, by rfl⟩) : QE X K W (.Call (.Attribute o "get" apos) [e, e2] [] cpos) (mDGet2 fo fb fc) :=
  PE.weak (pe_dget2 hu ho he hf m) fun σ H Q ⟨κ, s, L, rs, rl, h⟩ => ⟨κ, s, L, rs, rl, (HV.bind (R := RV K) h).imp fun u H1 ⟨κ1, L1, x, up, rl1, rx, q⟩ => by
    split at q
    · rename_i hi
      obtain ⟨a, rfl, hd⟩ := isDL_ok rl1 rx hi
      refine ⟨a, rfl, hd, κ1, s, L1, rs.up up, rl1, (HV.bind (R := RV K) q).imp fun v H2 ⟨κ2, L2, y, up2, rl2, ry, q2⟩ => ⟨κ2, s, L2, (rs.up up).up up2, rl2, (HV.bind (R := RV K) q2).imp fun w H3 ⟨κ3, L3, z, up3, rl3, rz, q3⟩ => ?_⟩⟩
      cases e : dGet L3 x y with
      | none => rw [e] at q3; exact q3.elim
      | some r =>
        rw [e] at q3
        obtain ⟨a', ro, ea, h1, h2, h3⟩ := dGet_ok rl3 ((rx.up up2).up up3) (ry.up up3) e
        cases ea
        exact ⟨ro, h2, q3.now rl3 (h3.getD rz)⟩
    · exact q.elim⟩
/-! ### exceptions -/
def mRaise (c : Nat) : MS := fun s L => .exc c s L
theorem qs_raise {ex : Expr} (hc : X.calm = true) (tk : Takes X W) (he : PMk X ex (fun _ H Q => Q (.ref (K.cl c)) none H)) : QS X K W (.Raise (some ex) none pos) (mRaise c) :=
  PS.weak (ps_raise hc tk he) fun D σ H ⟨κ, s, L, rs, rl, h⟩ => h κ H σ none Up.refl rl rs
/-- try: .. except X: .. ; m tells which class is caught, none for one that is not asked for -/
def mTry (f : MS) (m : Nat → Option Bool) (g : MS) : MS := fun s L => match f s L with
  | .exc c s1 L1 => (match m c with
    | some true => (match g s1 L1 with
      | .exc _ _ _ => .no
      | r => r)
    | some false => .exc c s1 L1
    | none => .no)
  | r => r
theorem qs_try {z : Str} {cc : Value} {body suite : List Stmt} {b₀ : Stmt} {np : Pos} {f g : MS} {m : Nat → Option Bool} (hK : X.K = K.K) (hs : X.stack = X.env :: X.outer) (hf : X.env.frame = some X.env.locals) (hc : Names X z cc) (tk : Takes X W)
    (hm : ∀ c b, m c = some b → PySem.W.exmOne K.K (.ref (K.cl c)) cc = some b)
    (hb : ∀ (W' : WX) (pn : List (Addr × Obj)) (xe : Value → Shared → Prop), Takes (X.tr pn xe) W' → PassesOwn (model X.prog X.w) X.A X.env xe → QSs (X.tr pn xe) K W' body f)
    (hsu : ∀ (a : Addr) (pn : List (Addr × Obj)), QSs (X.suite a pn) K W0 (b₀ :: suite) g) : QS X K W (.Try body [.ExceptHandler (some (.Name z np)) none (b₀ :: suite) pos'] [] [] pos) (mTry f m g) := by
  refine PS.weak (ps_try_only (tb := fun W' => tS K W' f) (ts := fun _ _ _ => tS K W0 g) (Wout := W) hs hf hc tk hb fun a oe cls d pn _ _ => hsu a _) fun D σ H ⟨κ, s, L, rs, rl, h⟩ => ⟨κ, s, L, rs, rl, ?_⟩
  unfold mTry at h
  cases e : f s L with
  | next s1 L1 => rw [e] at h; exact h
  | ret v L1 => rw [e] at h; exact h
  | brk s1 L1 => rw [e] at h; exact h
  | cont s1 L1 => rw [e] at h; exact h
  | no => rw [e] at h; exact h
  | exc c s1 L1 =>
    rw [e] at h
    simp only [] at h
    intro κ' H' σ' d up rl' rs'
    cases em : m c with
    | none => rw [em] at h; exact h.elim
    | some b =>
      rw [em] at h
      cases b with
      | false => exact ⟨false, by rw [hK]; exact hm c false em, fun (z : false = true) => Bool.noConfusion z, fun _ => h κ' H' σ' d up rl' rs'⟩
      | true =>
        refine ⟨true, by rw [hK]; exact hm c true em, fun _ a _ => ⟨κ', s1, L1, rs', rl', ?_⟩, fun (z : true = false) => Bool.noConfusion z⟩
        simp only [] at h
        cases eg : g s1 L1 with
        | exc c2 s2 L2 => rw [eg] at h; exact h.elim
        | next s2 L2 => rw [eg] at h; exact HS.up (W := W0) (r := .next s2 L2) h up
        | ret v L2 => rw [eg] at h; exact HS.up (W := W0) (r := .ret v L2) h up
        | brk s2 L2 => rw [eg] at h; exact HS.up (W := W0) (r := .brk s2 L2) h up
        | cont s2 L2 => rw [eg] at h; exact HS.up (W := W0) (r := .cont s2 L2) h up
        | no => rw [eg] at h; exact h.elim
/-! ### what stands in the module -/
theorem qe_st {z : Str} {ad : Addr} {zs : List LV} {ws : List V} (hK : X.K = K.K) (hg : Gl X z) (hm : X.mg z = some (.ref ad)) (ht : StT K ad ws) (hv : ∀ κ H, RVs K κ H zs ws) (hd : (z == ("__debug__" : Str)) = false := by decide) : QE X K W (.Name z pos) (mC (.st zs)) :=
  qe_c (pe_glob (v := .ref ad) hg hm rfl hd) fun κ H => .st ht (hv κ H)
theorem qe_gl {z : Str} {v : LV} {w : V} {u : Value} (hg : Gl X z) (hm : X.mg z = some u) (r : RelV w u) (hv : ∀ κ H, RV K κ H v w) (hd : (z == ("__debug__" : Str)) = false := by decide) : QE X K W (.Name z pos) (mC v) :=
  qe_c (pe_glob hg hm r hd) hv
end
end Q
end
section
set_option Elab.async false
set_option linter.all false
set_option maxRecDepth 100000
set_option maxHeartbeats 4000000
/-! Qi: generator expressions whose elements may call and make: walked whole by their consumer -/
namespace Q
open PySem PySem.Spec L2
open PyProof.Rows (AllBare)
open GenW

/-- a generator expression's code -/
abbrev gxCode (elt tg iter : Expr) (ifs : List Expr) (scope : Scope) (pos : Pos) (it : Addr) (env : Env) : Code := .compLoop (.GeneratorExp elt [⟨tg, iter, ifs, 0⟩] scope pos) 0 (.ref it) .none env
theorem gx_frames {A : Around} {outer : List Env} {elt tg iter : Expr} {ifs : List Expr} {scope : Scope} {pos : Pos} {it : Addr} {env : Env} (h : A.frames = some outer) : (A.over (gxCode elt tg iter ifs scope pos it env) []).frames = some (env :: outer) := by
  obtain ⟨hd, d, fr, gs, u⟩ := A
  have h : fr = some outer := h
  subst h
  rfl
theorem gx_room {A : Around} {k : Nat} {elt tg iter : Expr} {ifs : List Expr} {scope : Scope} {pos : Pos} {it : Addr} {env : Env} (r : Room (k + 1) A) : Room k (A.over (gxCode elt tg iter ifs scope pos it env) []) :=
  ⟨r.hd, by have := r.dp; show A.depth + 1 + 3 * k + 5 < _; omega, by have := r.un; show A.units + 3 + 16 * k + 200 < _; omega⟩
/-- the context of its frame -/
abbrev gxc (X : Cx) (A : Around) (s : Shared) (H : Hp) (env : Env) (fp : List Addr) : Cx :=
  { X with A := A, s_0 := s, H_0 := H, env := env, outer := X.stack, stack := env :: X.stack, ex := fp, fn := fun _ => false, calm := true, pn := [], xe := fun _ _ => False }
abbrev gxe (X : Cx) (scope : Scope) (C : Addr) (code : Value) : Env := genEnv scope (cloFrom X.env.cells scope.names []) C code builtinsNs X.env
section
variable {X : Cx} {pins : List (Addr × Obj)} {σ : St} {H H' : Hp} {s s1 s2 : Shared}
theorem gx_start {scope : Scope} {own : List (Str × Nat)} {fp : List Addr} {A : Around} {code itv : Value} (I : Inv X pins σ H s) (ok : BlkOk X.N X.env.scope scope own) (hN : X.N.Nodup) (hcell : ∀ y ∈ scope.names, y.2 ≠ .cell) (hfp : ∀ b ∈ fp, FpOk X pins H b ∧ b < s.heap.objs.size)
    (hA : A.handled = none) (hAf : A.frames = some (gxe X scope s.heap.objs.size code :: X.stack)) (os : s2.os = s.os) (bare : AllBare s2.gens) (kp : ∀ b o, s.heap.get? b = some o → s2.heap.get? b = some o) {m : Str → Option Value} (hn : s2.heap.Ns s.heap.objs.size m) :
    Inv (gxc X A s H (gxe X scope s.heap.objs.size code) fp) [] (wipe σ (own.map (·.2))) H s2 := by
  have has_free : ∀ y ∈ scope.names, y.2 = .free → ∃ c, X.env.cells.lookup y.1 = some c := fun y hy e => by
    rcases ok.free y hy e with k | k
    · exact I.ok.has _ (.inl k)
    · exact I.ok.has _ (.inr k)
  have of_clo : ∀ {y c}, (y, c) ∈ cloFrom X.env.cells scope.names [] → X.env.cells.lookup y = some c ∧ c < s.heap.objs.size := fun {y c} hm => by
    rcases cloFrom_mem hm with hm | ⟨h1, rfl⟩
    · cases hm
    · obtain ⟨c, hc⟩ := has_free _ h1 rfl
      rw [hc]
      obtain ⟨w, z⟩ := I.cell _ _ hc
      exact ⟨rfl, z.lt⟩
  have mem : ∀ {y c}, (cloFrom X.env.cells scope.names []).lookup y = some c → X.env.cells.lookup y = some c ∧ c < s.heap.objs.size := fun {y c} e => of_clo (PySem.mem_of_lookup e)
  have look : ∀ {y}, scope.names.lookup y = some .free → ∃ c, (cloFrom X.env.cells scope.names []).lookup y = some c ∧ X.env.cells.lookup y = some c := fun {y} hl => by
    have hy : (y, NameKind.free) ∈ scope.names := PySem.mem_of_lookup hl
    obtain ⟨c', e'⟩ := mem_lookup (cloFrom_has (cells := X.env.cells) (acc := []) hy)
    exact ⟨c', e', (mem e').1⟩
  have nocell : ∀ {y}, scope.names.lookup y = some .cell → False := fun {y} h => hcell _ (PySem.mem_of_lookup h) rfl
  have ok_frame : (gxc X A s H (gxe X scope s.heap.objs.size code) fp).Ok := by
    refine ⟨I.ok.mod, ok.kind, I.ok.glob, rfl, Nat.le_refl _, fun y z c e1 e2 => I.ok.inj y z c (mem e1).1 (mem e2).1, fun y hy => ?_, fun y c z e => absurd (show false = true from z) (by decide), fun _ => hA, hAf, .inr ⟨rfl, rfl⟩, fun b hb => ⟨Nat.ne_of_lt (hfp b hb).2, fun y c e z => (hfp b hb).1.2.2.2.2.1 y c (mem e).1 z⟩,
      I.bs, Nat.le_trans I.ok.bsz I.sz, fun b o e hb => ?_, fun b hb z => ?_, I.stack, I.stkFree⟩
    · rcases hy with hy | hy
      · exact (nocell hy).elim
      · obtain ⟨c, h1, _⟩ := look hy
        exact ⟨c, h1⟩
    · rcases (hfp b hb).1.2.2.2.1 with z | z
      · exact I.ok.noex b o e z
      · exact absurd (Nat.lt_of_lt_of_le (Heap.lt_size e) (Nat.le_trans I.ok.bsz z)) (Nat.lt_irrefl _)
    · rcases List.mem_cons.mp (I.stkSub b z) with z | z
      · exact (hfp b hb).1.2.1 z
      · exact (hfp b hb).1.2.2.1 z
  refine ⟨ok_frame, os, bare, Un.kept kp, ⟨m, hn, fun i y av e1 e2 e3 => ?_⟩, fun y c e => ?_, I.hok.fresh (Nat.le_refl _), fun y c e => I.freeC y c (mem e).1, fun p hp => absurd (show p ∈ ([] : List (Addr × Obj)) ++ [] from hp) (by simp), I.hok.kept kp, by rw [wipe_length]; exact I.len⟩
  · obtain ⟨e2, not_own⟩ := wipe_some e2
    have no : ∀ k, scope.names.lookup y = some k → ¬ (k = .local ∨ k = .cell) := fun k e hh => by
      rcases ok.own _ (PySem.mem_of_lookup e) hh with e' | e'
      · obtain ⟨p, hp, hpy⟩ := List.mem_map.mp e'
        have e3 := ok.ix p hp
        have : p.1 = y := hpy
        rw [this] at e3
        exact not_own (List.mem_map.mpr ⟨p, hp, nodup_ix hN e3 e1⟩)
      · exact e' (List.mem_of_getElem? e1)
    have e3 : Vis scope y := e3
    have is_free : scope.names.lookup y = some .free := by
      rcases e3 with e3 | e3 | e3
      · exact (no _ e3 (.inl rfl)).elim
      · exact (no _ e3 (.inr rfl)).elim
      · exact e3
    obtain ⟨m', hn', hl⟩ := I.loc
    have seen_out : Vis X.env.scope y := (ok.free _ (PySem.mem_of_lookup is_free) rfl).elim (fun k => .inr (.inl k)) (fun k => .inr (.inr k))
    obtain ⟨w, r, q⟩ := hl i y av e1 e2 seen_out
    refine ⟨w, r, .inr ⟨.inr is_free, ?_⟩⟩
    obtain ⟨c, h1, h2⟩ := look is_free
    rcases q with ⟨k, _⟩ | ⟨_, c', e', z⟩
    · have k : X.env.scope.names.lookup y = some .local := k
      rcases ok.free _ (PySem.mem_of_lookup is_free) rfl with k' | k' <;> rw [show X.env.scope.names.lookup y = _ from k'] at k <;> cases k
    · rw [h2] at e'; cases e'
      exact ⟨c, h1, z.keeps kp⟩
  · obtain ⟨w, z⟩ := I.cell y c (mem e).1
    exact ⟨w, z.keeps kp⟩

def tGx (P : Addr) (wi : TI) (g : TG) (tt : TT) (te : TE) (vs : List Nat) : TGen := fun σ H cont => wi σ H fun J H1 => GxR.TabG H1 P ∧ ∀ H1', Tb P H1 H1' → ∃ W : Nat → Nat → List V → Hp → Prop, (∃ m, W 0 m [] H1') ∧ ∀ i m ys H, W i m ys H →
  (J.stop i H ∧ cont ys H) ∨ (J.go i H ∧ ∃ Nx : List V → Hp → Prop, (∀ ys' H', Nx ys' H' → ∃ m', m' < m ∧ W (i + 1) m' ys' H') ∧ ∀ x H', J.yld i H x H' → g x (wipe σ vs) H' fun σ2 H2 => wipe σ2 vs = wipe σ vs ∧ tt σ2 H2 fun b H3 =>
    if b = true then te σ2 H3 fun y H4 => ys.length < sizeLine ∧ Nx (ys ++ [y]) H4 else Nx ys H3)

/-- the loop -/
theorem gx_loop {elt tg iter : Expr} {ifs : List Expr} {scope : Scope} {gpos : Pos} {it a S : Addr} {go : Obj} {gn : Nat} {genv : Env} {fp : List Addr} {Aw : Around} {g : TG} {tt : TT} {te : TE} {vs : List Nat} {sc : Shared} {Hc : Hp} {J : It} {tn : Nat → Heap → Prop} {cont : List V → Hp → Prop} {W : Nat → Nat → List V → Hp → Prop}
    (hco : scope.isCoroutine = false) (hsc : genv.scope = scope) (T : Turn X.prog X.w X.K tg J fp it tn) (hgo : ∀ h : Heap, h.get? a = some go → h.IsGen a gn) (hgd : ∀ v, go.data ≠ .cell v) (haS : a ≠ S)
    (hX : gxc X (Aw.over (gxCode elt tg iter ifs scope gpos it genv) []) sc Hc genv fp = X') (hA : Apart X' S) (hfS : ∀ b ∈ fp, b ≠ S ∧ b ≠ a)
    (hg : PG X' tg g) (ht : PTs X' ifs tt) (he : PE X' elt te)
    (turn : ∀ i m ys H, W i m ys H → (J.stop i H ∧ cont ys H) ∨ (J.go i H ∧ ∃ Nx : List V → Hp → Prop, (∀ ys' H', Nx ys' H' → ∃ m', m' < m ∧ W (i + 1) m' ys' H') ∧ ∀ x H', J.yld i H x H' → g x (wipe σ vs) H' fun σ2 H2 => wipe σ2 vs = wipe σ vs ∧ tt σ2 H2 fun b H3 =>
      if b = true then te σ2 H3 fun y H4 => ys.length < sizeLine ∧ Nx (ys ++ [y]) H4 else Nx ys H3)) :
    ∀ (m n i : Nat) (ys : List V) (s₀ s : Shared) (H : Hp), n + ys.length = sizeLine → W i m ys H → GI X' S [(a, go)] ys (wipe σ vs) H s → tn i s.heap → (∀ b ∈ fp, H b = none) →
      Seg (model X.prog X.w) Aw (REnd X.prog X.w X.stack Hc sc fp S a gn cont fun _ _ _ => False) (YItem sc S a gn) n s₀ (gxCode elt tg iter ifs scope gpos it genv) ((model X.prog X.w).den (gxCode elt tg iter ifs scope gpos it genv)) [] s := by
  subst hX
  intro m
  induction m using Nat.strongRecOn with
  | ind m ih =>
    intro n i ys s₀ s H hn w hI st nf
    have stat : ∀ {pins' : List (Addr × Obj)} {σ' : St} {H' : Hp} {s' : Shared}, Inv (gxc X (Aw.over (gxCode elt tg iter ifs scope gpos it genv) []) sc Hc genv fp) pins' σ' H' s' → (∀ p ∈ pins', p.1 ∉ fp) → (∀ b ∈ fp, H' b = none) → ∀ b ∈ fp, FpOk (gxc X (Aw.over (gxCode elt tg iter ifs scope gpos it genv) []) sc Hc genv fp) pins' H' b := fun {pins' σ' H' s'} I' hp hn b hb =>
      ⟨hn b hb, (I'.ok.exf b hb).1, I'.ok.exfs b hb, .inl hb, fun x c e => (I'.ok.exf b hb).2 x c e, fun p hp' z => hp p (by simpa using hp') (z ▸ hb)⟩
    obtain ⟨acc, cc, racc, I⟩ := hI
    have np : ∀ p ∈ ((S, lstObj acc cc) :: [(a, go)] : List (Addr × Obj)), p.1 ∉ fp := fun p hp z => by
      rcases List.mem_cons.mp hp with e | e
      · subst e; exact (hfS _ z).1 rfl
      · rw [List.mem_singleton.mp e] at z; exact (hfS _ z).2 rfl
    show Seg _ Aw _ _ _ s₀ _ ((compTurn (.GeneratorExp elt [⟨tg, iter, ifs, 0⟩] scope gpos) 0 (.ref it) .none genv).onRaise (leaving genv)) [] s
    rw [compTurn_gen, Sem.onRaise_eq_wrap]
    refine seg_bind_wrap (wpAny_standAt ?_)
    rcases turn i m ys H w with ⟨stop, qq⟩ | ⟨go', Nx, hNx, step⟩
    · have td := T.done (gxc X (Aw.over (gxCode elt tg iter ifs scope gpos it genv) []) sc Hc genv fp) rfl rfl rfl rfl i _ s _ H (fun _ _ => False) I (stat I np nf) st stop
      refine seg_bind_wrap (thnF td fun r s6 ⟨hr, I6⟩ => ?_)
      subst hr
      refine seg_end (.ok .next) (.inl ⟨.inr rfl, H, ys, acc, cc, I6.os, I6.bare, I6.base, I6.hok, ?_, ?_, racc, by omega, qq⟩)
      · exact (I6.pin (S, lstObj acc cc) (List.mem_append_right _ List.mem_cons_self)).2.1
      · exact (I6.pin (S, lstObj acc cc) (List.mem_append_right _ List.mem_cons_self)).1
    · have ti := T.item (gxc X (Aw.over (gxCode elt tg iter ifs scope gpos it genv) []) sc Hc genv fp) rfl rfl rfl rfl i _ s _ H (fun _ _ => False) I (stat I np nf) st go'
      refine seg_bind_wrap (thnF ti fun r s6 ⟨u, hr, h6⟩ => ?_)
      subst hr
      refine seg_bind_wrap (thnF h6 fun _ s7 ⟨x, H7, I7, r7, y7, st7, n7⟩ => ?_)
      have I7' := I7.pinned (stat I7 np n7) (T.obj _ _ st7)
      refine seg_bind_wrap (thnF (hg.run _ s7 _ H7 x u _ I7' r7 (step x H7 y7)) fun _ s8 ⟨σ8, H8, I8, hw8, q8⟩ => ?_)
      refine seg_bind_wrap (thnF (ht.run _ s8 σ8 H8 _ I8 q8) fun b s9 ⟨H9, I9, q9⟩ => ?_)
      have hl : (wipe σ vs).length = σ8.length := by rw [← hw8, wipe_length]
      -- the turn's end
      have fin : ∀ {ip : List (Addr × Obj)} {acc' : List V} {s' : Shared} {H' : Hp}, GI (gxc X (Aw.over (gxCode elt tg iter ifs scope gpos it genv) []) sc Hc genv fp) S ((a, go) :: pinsAt fp s7.heap) acc' σ8 H' s' →
          GI (gxc X (Aw.over (gxCode elt tg iter ifs scope gpos it genv) []) sc Hc genv fp) S [(a, go)] acc' (wipe σ vs) H' s' ∧ tn (i + 1) s'.heap ∧ (∀ b ∈ fp, H' b = none) := fun {ip acc' s' H'} I' => by
        obtain ⟨ac, c', r', I'⟩ := I'
        have pin' : ∀ b ∈ fp, ∀ o, s7.heap.get? b = some o → s'.heap.get? b = some o ∧ H' b = none := fun b hb o e =>
          let z := I'.pin (b, o) (List.mem_append_right _ (List.mem_cons_of_mem _ (List.mem_cons_of_mem _ (mem_pinsAt hb e))))
          ⟨z.1, z.2.1⟩
        refine ⟨⟨ac, c', r', (I'.pins_of fun p hp => I'.pin p (List.mem_append_right _ ?_)).weak hl fun j v e => ?_⟩, T.keep _ _ _ st7 fun b hb o e => (pin' b hb o e).1, fun b hb => ?_⟩
        · rcases List.mem_cons.mp hp with z | z
          · rw [z]; exact List.mem_cons_self
          · rw [List.mem_singleton.mp z]; exact List.mem_cons_of_mem _ List.mem_cons_self
        · rw [← hw8] at e
          exact (wipe_some e).1
        · obtain ⟨o, e, _⟩ := T.obj _ _ st7 b hb
          exact (pin' b hb o e).2
      cases b with
      | false =>
        simp only [Bool.false_eq_true, if_false] at q9 ⊢
        obtain ⟨m', hm, w'⟩ := hNx ys H9 q9
        obtain ⟨G1, t1, n1⟩ := fin (ip := []) ⟨acc, cc, racc, I9⟩
        exact seg_again rfl (ih m' hm n (i + 1) ys s₀ s9 H9 hn w' G1 t1 n1)
      | true =>
        simp only [if_true] at q9 ⊢
        have hy : ∀ v, yieldOut genv v = yieldValue v := fun v => by simp only [yieldOut, hsc, hco, Bool.false_eq_true, if_false]
        simp only [hy]
        rw [Sem.bind_eq_wrap', Sem.bind_eq_wrap', Sem.wrap_wrap, Sem.wrap_wrap]
        refine seg_wrap (thnF (he.run _ s9 σ8 H9 _ I9 q9) fun v s10 ⟨y, H10, I10, r10, hlt, nx⟩ => ?_)
        obtain ⟨n, rfl⟩ : ∃ n', n = n' + 1 := ⟨n - 1, by omega⟩
        obtain ⟨m', hm, w'⟩ := hNx _ H10 nx
        have G10 : GI (gxc X (Aw.over (gxCode elt tg iter ifs scope gpos it genv) []) sc Hc genv fp) S ((a, go) :: pinsAt fp s7.heap) ys σ8 H10 s10 := ⟨acc, cc, racc, I10⟩
        have size_acc : acc.size = ys.length := by
          have e1 := racc.length
          have e2 : acc.toList.length = acc.size := by simp
          omega
        refine seg_at (seg_yield rfl rfl rfl ⟨I10.os, I10.bare, I10.nolimit, hgo _ (I10.pin (a, go) (List.mem_append_right _ (List.mem_cons_of_mem _ List.mem_cons_self))).1, ⟨acc, cc, (I10.pin (S, lstObj acc cc) (List.mem_append_right _ List.mem_cons_self)).1, by rw [size_acc]; exact hn⟩, fun s' z => ?_⟩)
        have G11 := G10.woken (fun p hp => absurd (show p ∈ ([] : List (Addr × Obj)) from hp) (by simp)) (fun p hp => ?_) hA r10 z
        · obtain ⟨G1, t1, n1⟩ := fin (ip := []) G11
          exact seg_again rfl (ih m' hm n (i + 1) _ s' s' H10 (by rw [List.length_append, List.length_singleton]; omega) w' G1 t1 n1)
        · rcases List.mem_cons.mp hp with e | e
          · rw [e]; exact haS
          · exact (hfS _ (of_pinsAt e).1).1

/-- a generator expression is a generator that has not begun -/
theorem pgen_gx {c P : Addr} {elt tg iter : Expr} {ifs : List Expr} {scope : Scope} {own : List (Str × Nat)} {gpos : Pos} {wi : TI} {g : TG} {tt : TT} {te : TE} {k : Nat}
    (hN : X.N.Nodup) (hdep : X.A.depth < recursionLimit) (TB : GxR.TabB X.base X.mg c P) (hcode : X.env.code = .ref c) (ok : BlkOk X.N X.env.scope scope own) (hcell : ∀ y ∈ scope.names, y.2 ≠ .cell) (hco : scope.isCoroutine = false) (h0 : scope.names.lookup (".0" : Str) = some NameKind.local)
    (hi : PI X tg iter wi)
    (hg : ∀ (A : Around) (s : Shared) (H : Hp) (C : Addr) (code : Value) (fp : List Addr), Room k A → PG (gxc X A s H (gxe X scope C code) fp) tg g)
    (ht : ∀ (A : Around) (s : Shared) (H : Hp) (C : Addr) (code : Value) (fp : List Addr), Room k A → PTs (gxc X A s H (gxe X scope C code) fp) ifs tt)
    (he : ∀ (A : Around) (s : Shared) (H : Hp) (C : Addr) (code : Value) (fp : List Addr), Room k A → PE (gxc X A s H (gxe X scope C code) fp) elt te)
    (hs : ∀ v, genFold iter X.env v = pure v) :
    PGen X (k + 1) (.GeneratorExp elt [⟨tg, iter, ifs, 0⟩] scope gpos) (tGx P wi g tt te (own.map (·.2))) (fun _ _ _ => False) := by
  refine ⟨fun pins s σ H cont I h => ?_⟩
  have has_free : ∀ y ∈ scope.names, y.2 = .free → ∃ c, X.env.cells.lookup y.1 = some c := fun y hy e => by
    rcases ok.free y hy e with k | k
    · exact I.ok.has _ (.inl k)
    · exact I.ok.has _ (.inr k)
  refine wpAny_GeneratorExp_make hco (closure_ok has_free) hcell h0 ok.kind hdep ?_ hs
  refine thn (hi.run pins s σ H _ I h) fun xv s1 hx => thn hx fun itv s2 h2 => ?_
  obtain ⟨it, fp, tn, J, H2, e, I2, T, st2, f2, ⟨ps, hP, ht3⟩, q⟩ := h2
  subst e
  have hPs : s2.heap.get? P = some { cls := .none, data := .fields ps } := I2.hok P _ hP
  have cd : PySem.W.CodeHd s2.heap c P := TB.code.keeps fun b u e => I2.bk b u e
  have fin : ∀ (code : Value) (h3 : Heap) (tk : Nat) (ps' : Array Value), Heap.ExtBut P s2.heap h3 → s2.heap.objs.size ≤ h3.objs.size → h3.get? P = some { cls := .none, data := .fields ps' } → (∃ more, ps' = ps ++ more) → TriplesOk ps'.toList →
      wpAny (model X.prog X.w) X.A (builtinsFor X.env.globals X.env.builtins) (fun bi s₄ =>
        ∀ h', h'.Ns s₄.heap.objs.size (fun y => if y = (".0" : Str) then some (.ref it) else none) → Heap.SameBut s₄.heap.objs.size (s₄.heap.push { cls := .type "frame", data := .dict #[] }) h' →
          (fun u s' => ∃ H1 sc ex, Inv X pins σ H1 sc ∧ ExOk X pins ex ∧ GMade X.prog X.w (k + 1) X.stack H1 sc ex cont (fun _ _ _ => False) u s') (.ref h'.objs.size) { s₄ with
            gens := s₄.gens.push (.fresh (.compStart (.GeneratorExp elt [⟨tg, iter, ifs, 0⟩] scope gpos) 0 (.ref it) .none (genEnv scope (cloFrom X.env.cells scope.names []) s₄.heap.objs.size code bi X.env))),
            toks := s₄.toks + 1 + 1 + 1,
            heap := h'.push { cls := .type "generator", data := .fields #[.int s₄.gens.size 0, .str "<genexpr>" (s₄.toks + 1), .str (X.env.qual ++ "<genexpr>") (s₄.toks + 1 + 1)] } }) X.xe { s2 with heap := h3, toks := tk } := by
    intro code h3 tk ps' hx hsz3 hP3 ⟨more, em⟩ htr
    obtain ⟨bm, ob, e1, e2, e3, e4, e5, e6, e7, e8⟩ := TB.bm
    have keep3 : ∀ b u, b ≠ P → s2.heap.get? b = some u → h3.get? b = some u := fun b u hb e => hx b u hb e
    refine wpAny_builtinsFor (m := X.mg) (by rw [I2.ok.glob]; exact (I2.mod.glob.keeps I2.bk).extBut hx TB.gP) e1 e2 (keep3 _ _ e4 (I2.bk _ _ e5)) e6 e7 e8 ?_
    generalize hs4 : ({ s2 with heap := h3, toks := tk } : Shared) = s4
    have I4 : Inv X pins σ (upd H2 P (.tbl (ps ++ more))) s4 := by
      have J := GxR.inv_tab (more := more) (h' := h3) (g' := s2.gens) (d' := s2.drawn) (t' := tk) I2 hP keep3 (by rw [← em]; exact hP3) I2.bare
      rw [← hs4]
      exact J
    have h34 : s4.heap = h3 := by rw [← hs4]
    have g34 : s4.gens = s2.gens := by rw [← hs4]
    have nP : ∀ b ∈ fp, b ≠ P := fun b hb z => by
      have := (f2 b hb).1
      rw [z, hP] at this
      cases this
    have nf : ∀ b ∈ fp, (upd H2 P (.tbl (ps ++ more))) b = none := fun b hb => by rw [upd_ne (nP b hb)]; exact (f2 b hb).1
    have st4 : tn 0 s4.heap := T.keep _ _ _ st2 fun b hb o e => by rw [h34]; exact keep3 b o (nP b hb) e
    have lt4 : ∀ b ∈ fp, b < s4.heap.objs.size := fun b hb => by
      obtain ⟨o, e, _⟩ := T.obj _ _ st4 b hb
      exact Heap.lt_size e
    obtain ⟨W, ⟨m0, w0⟩, turn⟩ := q (upd H2 P (.tbl (ps ++ more))) ⟨ps, more, hP, by rw [← em]; exact htr, rfl⟩
    generalize hH4 : upd H2 P (.tbl (ps ++ more)) = H4 at I4 nf w0
    intro h' hn' hs'
    have size_acc : h'.objs.size = s4.heap.objs.size + 1 := by rw [hs'.1, Heap.size_push]
    have keep' : ∀ b o, s4.heap.get? b = some o → h'.get? b = some o := fun b o e => hs'.extBut b o (Nat.ne_of_lt (Heap.lt_size e)) (Heap.get?_push_of_some _ e)
    have sg : s4.gens.size = s4.gens.size := rfl
    generalize hgo : ({ cls := .type "generator", data := .fields #[.int s4.gens.size 0, .str "<genexpr>" (s4.toks + 1), .str (X.env.qual ++ "<genexpr>") (s4.toks + 1 + 1)] } : Obj) = go
    have isg : ∀ h : Heap, h.get? h'.objs.size = some go → h.IsGen h'.objs.size s4.gens.size := fun h e => by
      subst hgo
      exact ⟨_, _, _, e, rfl, rfl, rfl⟩
    have god : ∀ v, go.data ≠ .cell v := fun v z => by subst hgo; cases z
    have hpushed : (h'.push go).get? h'.objs.size = some go := by subst hgo; exact Heap.get?_push_size _ rfl
    have keep5 : ∀ b o, s4.heap.get? b = some o → (h'.push go).get? b = some o := fun b o e => Heap.get?_push_of_some _ (keep' b o e)
    refine ⟨H4, s4, fp, I4, fun b hb => ⟨(f2 b hb).2.2.2.1, (f2 b hb).2.1, (f2 b hb).2.2.2.2.1, (f2 b hb).2.2.2.2.2⟩, h'.objs.size, s4.gens.size, _, rfl, by omega, ?_, isg _ hpushed, Array.getElem?_push_size .., rfl, AllBare.push I4.bare rfl, I4.nolimit.keeps keep5, keep5, ?_⟩
    · show _ < (h'.push go).objs.size
      rw [Heap.size_push]; exact Nat.lt_succ_self _
    intro Aw S sw hrw is_free hSx hk2 hSo hos hba
    have hSx' : (h'.push go).objs.size ≤ S := hSx
    rw [Heap.size_push] at hSx'
    have hS1 : s4.heap.objs.size < h'.objs.size := by omega
    have hS2 : h'.objs.size < S := hSx'
    have hS3 : s4.heap.objs.size < S := Nat.lt_trans hS1 hS2
    have kpw : ∀ b o, s4.heap.get? b = some o → sw.heap.get? b = some o := fun b o e => hk2 b o (keep5 b o e)
    have hos' : sw.os = s4.os := hos
    have I5 := gx_start (A := Aw.over (gxCode elt tg iter ifs scope gpos it (gxe X scope s4.heap.objs.size code)) []) (code := code) (itv := .ref it) (s2 := sw) I4 ok hN hcell (fp := fp) (fun b hb => ⟨⟨nf b hb, (f2 b hb).2⟩, lt4 b hb⟩) hrw.hd (gx_frames is_free) hos' hba kpw ((hn'.push _).keeps hk2)
    obtain ⟨cS, heS⟩ := hSo
    have hea : sw.heap.get? h'.objs.size = some go := hk2 h'.objs.size go hpushed
    have young : ∀ b, s4.heap.objs.size < b → H4 b = none ∧ b ≠ s4.heap.objs.size ∧ b ∉ frs X.stack := fun b hb => by
      refine ⟨I4.hok.fresh (Nat.le_of_lt hb), Nat.ne_of_gt hb, fun z => ?_⟩
      rcases List.mem_cons.mp (I4.stkSub b z) with e | e
      · have := I4.lt
        rw [← e] at this
        exact absurd (Nat.lt_trans hb this) (Nat.lt_irrefl _)
      · exact I4.nofs (Nat.le_of_lt hb) e
    have hG : GI (gxc X (Aw.over (gxCode elt tg iter ifs scope gpos it (gxe X scope s4.heap.objs.size code)) []) s4 H4 (gxe X scope s4.heap.objs.size code) fp) S [(h'.objs.size, go)] [] (wipe σ (own.map (·.2))) H4 sw := by
      refine ⟨#[], cS, .nil, I5.pins_of fun p hp => ?_⟩
      rcases List.mem_cons.mp hp with z | z
      · rw [z]
        obtain ⟨y1, y2, y3⟩ := young S hS3
        exact ⟨heS, y1, y2, y3, fun v q => by cases q⟩
      · rw [List.mem_singleton.mp z]
        obtain ⟨y1, y2, y3⟩ := young h'.objs.size hS1
        exact ⟨hea, y1, y2, y3, god⟩
    have hAp : Apart (gxc X (Aw.over (gxCode elt tg iter ifs scope gpos it (gxe X scope s4.heap.objs.size code)) []) s4 H4 (gxe X scope s4.heap.objs.size code) fp) S := by
      refine ⟨Nat.le_of_lt hS3, Nat.ne_of_gt hS3, fun x c e z => ?_⟩
      obtain ⟨v, o, ho, hd⟩ := I5.cell x c e
      rw [z, heS] at ho
      cases ho
      cases hd
    have stw : tn 0 sw.heap := T.keep _ _ _ st4 fun b _ o e => kpw b o e
    have rm := gx_room (elt := elt) (tg := tg) (iter := iter) (ifs := ifs) (scope := scope) (pos := gpos) (it := it) (env := gxe X scope s4.heap.objs.size code) hrw
    have loop := gx_loop (gn := s4.gens.size) (sc := s4) (Hc := H4) hco rfl T isg god (Nat.ne_of_lt hS2) rfl hAp (fun b hb => ⟨Nat.ne_of_lt (Nat.lt_trans (lt4 b hb) hS3), Nat.ne_of_lt (Nat.lt_trans (lt4 b hb) hS1)⟩) (hg _ s4 H4 s4.heap.objs.size code fp rm) (ht _ s4 H4 s4.heap.objs.size code fp rm) (he _ s4 H4 s4.heap.objs.size code fp rm) turn
      m0 sizeLine 0 [] sw sw H4 (Nat.add_zero _) w0 hG stw nf
    show Seg _ Aw _ _ _ sw _ ((compStart (.GeneratorExp elt [⟨tg, iter, ifs, 0⟩] scope gpos) 0 (.ref it) .none (gxe X scope s4.heap.objs.size code)).onRaise (leaving (gxe X scope s4.heap.objs.size code))) [] sw
    unfold compStart
    rw [Sem.onRaise_eq_wrap]
    show Seg _ Aw _ _ _ sw _ ((ask >>= _).wrap _ _ _ _) [] sw
    refine seg_bind_wrap (wpAny_askSetting ?_)
    split
    · exact seg_again rfl loop
    · refine seg_bind_wrap (wpAny_rule ?_)
      show Seg _ Aw _ _ _ sw _ ((standAt iter.pos >>= _).wrap _ _ _ _) [] sw
      exact seg_bind_wrap (wpAny_standAt (seg_bind_wrap (T.self _ 0 sw _ _ stw (seg_again rfl loop))))
  refine ⟨I2.nolimit, ?_⟩
  cases hf : codeAmong gpos ps.toList with
  | none =>
    refine wpAny_genexprCodeX hcode (cd.code hPs ht3) (cd.tab hPs) hf fun c' h' tk hx hge hlt hco' _ htab' _ => ?_
    obtain ⟨o1, vs, f1, tf, fl, tg', inF, tx, tt', op, _, _, _, _, _, _, _, _, _, htr, _⟩ := hco'
    exact fin _ h' tk _ hx (Nat.le_trans hge (Nat.le_of_lt hlt)) htab'.2 ⟨_, rfl⟩ htr
  | some cv =>
    refine wpAny_genexprCode_hit hcode (cd.code hPs ht3) hf ?_
    exact fin cv s2.heap s2.toks ps (Heap.ExtBut.refl _ _) (Nat.le_refl _) hPs ⟨#[], by simp⟩ ht3
end
end Q
end
section
set_option Elab.async false
set_option linter.all false
set_option maxRecDepth 100000
set_option maxHeartbeats 4000000
/-! Qj: tuple(generator), list(generator) over values -/
namespace Q
open PySem PySem.Spec L2
open PyProof.Rows (AllBare)
open GenW
abbrev NoX : XK := fun _ _ _ => False
theorem noStop_none {P : Program} {w : World} {outer : List Env} {H : Hp} {sc s : Shared} {e : Value} (c : CX P w outer H sc NoX e s) : False := by
  obtain ⟨_, _, _, _, _, _, _, _, _, _, _, _, h⟩ := c
  exact h
/-- all that a generator hands out, collected -/
theorem collectG {P : Program} {w : World} {outer : List Env} {H : Hp} {sc s : Shared} {ex : List Addr} {cont : List V → Hp → Prop} {A : Around} {k : Nat} {u : Value} {Q' : List Value → Shared → Prop} {E : Value → Shared → Prop}
    (hr : Room (k + 3) A) (hfr : A.frames = some outer) (h : GMade P w k outer H sc ex cont NoX u s)
    (hQ : ∀ (s' : Shared) (acc : List Value) (H' : Hp) (ys : List V), s.heap.objs.size ≤ s'.heap.objs.size → Vals ys acc → ys.length ≤ sizeLine → s'.os = sc.os → AllBare s'.gens → Un (frs outer) ex H H' sc.heap s'.heap → HOk P w H' s'.heap → cont ys H' → Q' acc s') :
    wpAny (model P w) A (collect u) Q' E s := by
  obtain ⟨a, g, c, rfl, ge_a, lt_a, hg, at_g, hos, hb, hl, kept, wake⟩ := h
  have lst_gen : s.heap.objs.size ≠ a := Nat.ne_of_gt lt_a
  have stat_old : cStatics < s.heap.objs.size := let ⟨_, hn, _⟩ := hl; hn.lt
  have lst_stat : s.heap.objs.size ≠ cStatics := Nat.ne_of_gt stat_old
  unfold collect
  refine wpAny_bind (wpAny_runValue (codeAny_builtin F.entry_proto_collect ?_))
  rw [Around.under_plainId F.plain_proto_collect _]
  show wpAny _ A.in1 (newList [] >>= fun l => again (.builtin "list.__iadd__" ⟨[l, .ref a], []⟩)) _ _ s
  refine wpAny_bind (wpAny_newObj_type ?_)
  refine wpAny_pure ⟨plainId_quiet F.plain_list_iadd _, codeAny_builtin F.entry_list_iadd ?_⟩
  rw [Around.under_plainId F.plain_list_iadd _]
  have old1 : ∀ b o, s.heap.get? b = some o → (s.heap.push { cls := .type "list", data := .seq ([] : List Value).toArray }).get? b = some o := fun b o e => Heap.get?_push_of_some _ e
  have old_upd : ∀ (h : Heap) (f : Obj → Obj), (∀ b o, s.heap.get? b = some o → h.get? b = some o) → ∀ b o, s.heap.get? b = some o → (h.update s.heap.objs.size f).get? b = some o := fun h f q b o e =>
    (Heap.get?_update_other _ _ (Ne.symm (Nat.ne_of_lt (Heap.lt_size e)))).trans (q b o e)
  have stays_gen : ∀ {h : Heap}, (∀ b o, s.heap.get? b = some o → h.get? b = some o) → h.IsGen a g := fun {h} q => hg.keeps q
  show wpAny _ A.in1 (Builtin.List.listExtendWith (.ref s.heap.objs.size) (.ref a) (.ref s.heap.objs.size)) _ _ _
  unfold Builtin.List.listExtendWith
  refine wpAny_bind (wpAny_typeOf (Heap.IsGen.typeIs (s := { s with heap := _ }) (stays_gen old1)) ?_)
  have not_same : Builtin.List.listSameRef (.ref s.heap.objs.size) (.ref a) = false := by simp [Builtin.List.listSameRef, lst_gen]
  have no_list : (Value.type "generator" == Value.type "list") = false := by decide
  have no_tuple : (Value.type "generator" == Value.type "tuple") = false := by decide
  simp only [not_same, no_list, no_tuple, Bool.or_false, Bool.false_eq_true, if_false]
  refine wpAny_bind (wpAny_pyIter_gen (s := { s with heap := _ }) (stays_gen old1) ?_)
  refine wpAny_bind (wpAny_holding ?_)
  unfold Builtin.List.listLengthHint
  refine wpAny_bind (wpAny_specialOf (Heap.IsGen.typeIs (s := { s with heap := _ }) (stays_gen old1)) F.gen_no_len ?_)
  show wpAny _ A.in1 (specialOf (Value.ref a) (Str.ofString "__length_hint__") >>= _) _ _ _
  refine wpAny_bind (wpAny_specialOf (Heap.IsGen.typeIs (s := { s with heap := _ }) (stays_gen old1)) F.gen_no_hint ?_)
  refine wpAny_pure ?_
  show wpAny _ A.in1 (rule "list.extend.makes-room" >>= fun _ => Builtin.List.listTouch (.ref s.heap.objs.size) >>= fun _ =>
    again (.builtin "list.extend.loop" ⟨[.ref s.heap.objs.size, .ref a, .ref s.heap.objs.size], []⟩)) _ _ _
  refine wpAny_bind (wpAny_rule ?_)
  have made : (s.heap.push { cls := .type "list", data := .seq ([] : List Value).toArray }).get? s.heap.objs.size = some { cls := .type "list", data := .seq ([] : List Value).toArray } := Heap.get?_push_size _ rfl
  refine wpAny_bind ?_
  show wpAny _ A.in1 (updateSeq s.heap.objs.size (·.push .none) >>= fun _ => updateSeq s.heap.objs.size (·.pop)) _ _ _
  refine wpAny_bind (wpAny_updateSeq made rfl ?_)
  have grown := Heap.get?_update_self (Obj.mapSeq (·.push Value.none)) made rfl
  refine wpAny_updateSeq (hz := by seq_fits) grown rfl ?_
  have shrunk := Heap.get?_update_self (Obj.mapSeq (·.pop)) grown rfl
  have old4 := old_upd _ (Obj.mapSeq (·.pop)) (old_upd _ (Obj.mapSeq (·.push Value.none)) old1)
  refine wpAny_pure ⟨plainId_quiet F.plain_extend_loop _, ?_⟩
  refine drain (P := P) (w := w) (outer := outer) (H := H) (sc := sc) (ex := ex) (Q := cont) (EX := NoX) (A := A) (g := g) hr.hd (by have := hr.dp; omega) lst_gen lst_stat
    (fun s' acc c H' ys q1 q2 q3 q4 q5 q6 q7 q8 q9 => ?_) (fun e s' hc => (noStop_none hc).elim)
    sizeLine _ (stays_gen old4) (hl.keeps old4) ⟨_, at_g, rfl, ?_⟩
  · show wpAny _ A (load s.heap.objs.size >>= _) _ _ s'
    refine wpAny_bind (wpAny_load q1 ?_)
    exact wpAny_pure (hQ s' acc.toList H' ys (Nat.le_of_lt (Heap.lt_size q1)) q2 q3 q4 q5 q6 q7 q9)
  refine wake _ _ _ ⟨hr.hd, ?_, ?_⟩ hfr (Nat.le_refl _) old4 ⟨_, shrunk⟩ hos (allBare_setGen (s := { s with heap := _ }) hb rfl)
  · have := hr.dp
    show A.depth + 3 * k + 5 < _
    omega
  · have := hr.un
    show A.units + 1 + 1 + 16 * k + 200 < _
    omega
/-- tuple(g) -/
theorem callTupleG {P : Program} {w : World} {outer : List Env} {H : Hp} {sc s : Shared} {ex : List Addr} {cont : List V → Hp → Prop} {A : Around} {k : Nat} {u : Value} {Q' : Value → Shared → Prop} {E : Value → Shared → Prop}
    (hr : Room (k + 4) A) (hfr : A.frames = some outer) (h : GMade P w k outer H sc ex cont NoX u s)
    (hQ : ∀ (s' : Shared) (acc : List Value) (H' : Hp) (ys : List V), s.heap.objs.size ≤ s'.heap.objs.size → Vals ys acc → ys.length ≤ sizeLine → s'.os = sc.os → AllBare s'.gens → Un (frs outer) ex H H' sc.heap s'.heap → HOk P w H' s'.heap → cont ys H' →
      Q' (.ref s'.heap.objs.size) { s' with heap := s'.heap.push { cls := .type "tuple", data := .seq acc.toArray } }) :
    wpAny (model P w) A (call (.type "tuple") [u]) Q' E s := by
  obtain ⟨a, g, c, eu, ge_a, lt_a, hg, hrest⟩ := id h
  subst eu
  refine callType_codes (Q₁ := fun obj s₁ => s₁.TypeIs obj "tuple" ∧ Q' obj s₁) F.called_tuple (F.typeCall_tuple_1 _) F.entry_object_init ?_ fun obj s₁ h₁ =>
    ⟨h₁.1, F.args_object_init_2 obj _, object_init_meets F.called_tuple.init.lookup F.called_tuple.made (by decide) P w A.in1 _ s₁ ⟨h₁.1, rfl, h₁.2⟩⟩
  refine codeAny_of_tree ?_
  show wpAny _ A.in1.in1 (do checkBuiltinCall "tuple.__new__" ⟨[.type "tuple", .ref a], []⟩; again (.builtin "tuple.__new__" ⟨[.type "tuple", .ref a], []⟩)) _ _ s
  refine wpAny_bind (wpAny_of_eq (F.newCall_tuple_1 _) (wpAny_pure ⟨plainId_quiet F.plain_tuple_new _, codeAny_builtin F.entry_tuple_new ?_⟩))
  rw [Around.under_plainId F.plain_tuple_new _]
  have e_sub := sub_tuple_self
  have e_init := init_tuple_lookup
  have e_made := madeHere_tuple
  have is_gen : s.TypeIs (.ref a) "generator" := hg.typeIs
  have hr2 : Room (k + 3) A.in1.in1 := ⟨hr.hd, by have := hr.dp; show A.depth + 3 * (k + 3) + 5 < _; omega, by have := hr.un; show A.units + 1 + 1 + 16 * (k + 3) + 200 < _; omega⟩
  have hfr2 : A.in1.in1.frames = some outer := hfr
  wp_walk using wpAny_typeOf is_gen, collectG hr2 hfr2 h
  intro s' acc H' ys q0 q1 q2 q3 q4 q5 q6 q7
  show wpAny _ _ (Builtin.Tuple.tupleExact acc.toArray >>= fun v => ret v) _ _ _
  unfold Builtin.Tuple.tupleExact
  have hl : acc.length = ys.length := q1.length.symm
  refine wpAny_bind (wpAny_newObj_type ?_ (by show acc.toArray.size ≤ sizeLine; rw [List.size_toArray, hl]; exact q2))
  refine wpAny_pure ?_
  exact ⟨⟨_, Heap.get?_push_size _ rfl, rfl⟩, hQ s' acc H' ys q0 q1 q2 q3 q4 q5 q6 q7⟩
end Q
end
section
set_option Elab.async false
set_option linter.all false
set_option maxRecDepth 100000
set_option maxHeartbeats 4000000
/-! Qk: generator expressions as functions -/
namespace Q
open PySem PySem.Spec L2
open PyProof.Rows (AllBare)
open GenW
section
variable {X : Cx} {K : Kt} {κ κ1 κ2 : Kp} {H H1 H2 : Hp} {L : LH} {W : WX} {σ : St} {e o tg iter elt : Expr} {es ifs : List Expr} {pos p gpos : Pos} {fe : Sl → M LV} {ft : Sl → M Bool} {fi : Sl → M IT} {c n k : Nat} {gg : LV → Sl → Option Sl} {ix : List Nat}
theorem PGen.weak {t u : TGen} {E : XK} (h : PGen X k e t E) (q : ∀ σ H Q, u σ H Q → t σ H Q) : PGen X k e u E := ⟨fun pins s σ H cont I z => h.run pins s σ H cont I (q _ _ _ z)⟩
def tTupG (tg : TGen) : TE := fun σ H Q => tg σ H fun out H2 => ∀ p, H2 p = none → Q (.ref p) (upd H2 p (.tup out))
theorem pe_tupG {tg : TGen} (h : PGen X k e tg NoX) (hr : Room (k + 4) X.A) (hg : Gl X "tuple") (hm : X.mg "tuple" = none) (he : starEach [e] X.env = (false, eval e X.env) :: starEach [] X.env := by rfl) : PE X (.Call (.Name "tuple" p) [e] [] pos) (tTupG tg) := by
  refine ⟨fun pins s σ H Q I hq => ?_⟩
  refine wpAny_Call_Name_kw (ld_blt I hg hm (PyProof.Rows.boot_tuple) ?_)
  refine PyProof.Rows.callWith_type1 ?_ he rfl
  rw [he]
  show wpAny _ _ (spliced ((false, eval e X.env) :: backTo pos (starEach [] X.env))) _ _ s
  refine Calls.spliced_cons (thn (h.run pins s σ H _ I hq) fun u s1 ⟨H1, sc, ex, I1, hex, hG⟩ => ?_)
  refine Calls.spliced_nil ?_
  refine callTupleG hr I1.ok.frames hG (fun s' acc H' ys q0 q1 hl q3 q4 q5 q6 q7 => ?_)
  have I2 : Inv X pins σ H' s' := I1.call' (ch := ex) q3 q5 q6 q4 hex
  have hn : H' s'.heap.objs.size = none := I2.hok.fresh (Nat.le_refl _)
  exact ⟨.ref s'.heap.objs.size, upd H' s'.heap.objs.size (.tup ys), I2.laid (t' := s'.toks) (fun c o e => Heap.get?_push_of_some _ e) (Nat.le_refl _) (show ObjOk X.prog X.w _ _ _ (.tup ys) from ⟨hl, acc, q1, PyProof.Rows.IsTup.new _ _⟩), rfl, q7 _ hn⟩
/-- what is handed out -/
def RG (K : Kt) : Kp → Hp → LV → List V → Prop := fun κ H v us => ∃ xs, v = .fl xs ∧ RVs K κ H xs us
def tGen (K : Kt) (W : WX) (f : Sl → M LV) : TGen := fun σ H cont => ∃ κ s L, RS K κ H s σ ∧ RL K κ H L ∧ HV K W σ κ H (RG K) (f s L) cont
def QGen (X : Cx) (K : Kt) (W : WX) (k : Nat) (e : Expr) (f : Sl → M LV) : Prop := PGen X k e (tGen K W f) NoX
theorem gx_ok {J : It} {it : IT} {s : Sl} {vs : List Nat} {Z : List V → Hp → Prop} {P : Addr} (hP : P ∈ K.T) (ok : ItOk K J κ H it) (rs : RS K κ H s σ) (rl : RL K κ H L) (hv : ∀ j, j ∈ ix → j ∈ vs) (h : HV K W σ κ H (RG K) (lcGo it gg ft fe (wipeL s vs) FUEL 0 [] L) Z) :
    GxR.TabG H P ∧ ∀ H1', Tb P H H1' → ∃ Wi : Nat → Nat → List V → Hp → Prop, (∃ m, Wi 0 m [] H1') ∧ ∀ i m ys H, Wi i m ys H → (J.stop i H ∧ Z ys H) ∨ (J.go i H ∧ ∃ Nx : List V → Hp → Prop, (∀ ys' H', Nx ys' H' → ∃ m', m' < m ∧ Wi (i + 1) m' ys' H') ∧ ∀ x H', J.yld i H x H' →
      tG K gg ix x (wipe σ vs) H' fun σ2 H2 => wipe σ2 vs = wipe σ vs ∧ tT K W0 ft σ2 H2 fun b H3 => if b = true then tE K W0 fe σ2 H3 fun y H4 => ys.length < sizeLine ∧ Nx (ys ++ [y]) H4 else Nx ys H3) := by
  refine ⟨(rl.tab P hP).1, fun H1' hT => ⟨fun i m ys H2 => ∃ κ2 L2 acc, RVs K κ2 H2 acc ys ∧ RL K κ2 H2 L2 ∧ Up K κ H κ2 H2 ∧ HV K W σ κ H (RG K) (lcGo it gg ft fe (wipeL s vs) m i acc L2) Z,
    ⟨FUEL, κ, L, [], .nil, rl.tabbed hP hT, Up.tabbed rl hP hT, h⟩, ?_⟩⟩
  rintro i m ys H2 ⟨κ2, L2, acc, racc, rl2, up2, q⟩
  cases m with
  | zero => exact q.elim
  | succ m =>
    have o := ok κ2 H2 L2 i up2 rl2
    unfold lcGo at q
    cases e : it i L2 with
    | none => rw [e] at q; exact q.elim
    | some r =>
      rw [e] at q o
      cases r with
      | none => exact .inl ⟨o, q κ2 H2 ys up2 rl2 ⟨acc, rfl, racc⟩⟩
      | some v =>
        simp only [] at q
        obtain ⟨o1, o2⟩ := o
        refine .inr ⟨o1, fun ys' H3 => ∃ κ2 L2 acc, RVs K κ2 H3 acc ys' ∧ RL K κ2 H3 L2 ∧ Up K κ H κ2 H3 ∧ HV K W σ κ H (RG K) (lcGo it gg ft fe (wipeL s vs) m (i + 1) acc L2) Z, fun ys' H3 z => ⟨m, Nat.lt_succ_self m, z⟩, fun x H3 y => ?_⟩
        obtain ⟨κ3, up3, rl3, rx⟩ := o2 x H3 y
        cases eg : gg v (wipeL s vs) with
        | none => rw [eg] at q; exact q.elim
        | some s1 =>
          rw [eg] at q
          simp only [] at q
          refine ⟨κ3, wipeL s vs, v, s1, (rs.wipe vs).up (up2.trans up3), rx, eg, fun σ3 rs3 l3 k3 => ⟨?_, ?_⟩⟩
          · exact wipe_eq (by rw [l3, wipe_length]) hv k3
          · cases et : ft s1 L2 with
            | no => rw [et] at q; exact q.elim
            | exc c L3 => rw [et] at q; exact q.elim
            | ok b L3 =>
              rw [et] at q
              simp only [] at q
              refine ⟨κ3, s1, L2, rs3, rl3, ?_⟩
              rw [et]
              refine HV.w0 fun κ4 H4 b' up4 rl4 eb => ?_
              have eb : b = b' := eb
              subst eb
              cases b with
              | false =>
                rw [if_neg (by decide)]
                rw [if_neg (by decide)] at q
                exact ⟨κ4, L3, acc, (racc.up up3).up up4, rl4, (up2.trans up3).trans up4, q⟩
              | true =>
                rw [if_pos rfl]
                rw [if_pos rfl] at q
                refine ⟨κ4, s1, L3, rs3.up up4, rl4, ?_⟩
                cases ee : fe s1 L3 with
                | no => rw [ee] at q; exact q.elim
                | exc c L4 => rw [ee] at q; exact q.elim
                | ok z L4 =>
                  rw [ee] at q
                  simp only [] at q
                  refine HV.w0 fun κ5 H5 w up5 rl5 rw' => ?_
                  split at q
                  · rename_i hl
                    exact ⟨by rw [← racc.length, sizeLine_eq]; omega, κ5, L4, acc ++ [z], (((racc.up up3).up up4).up up5).append (.cons rw' .nil), rl5, ((up2.trans up3).trans up4).trans up5, q⟩
                  · exact q.elim
theorem qgen_gx {c P : Addr} {scope : Scope} {own : List (Str × Nat)} (hP : P ∈ K.T) (hN : X.N.Nodup) (hdep : X.A.depth < recursionLimit) (TB : GxR.TabB X.base X.mg c P) (hcode : X.env.code = .ref c) (ok : BlkOk X.N X.env.scope scope own) (hi : QI X K W tg iter fi) (hv : ∀ j, j ∈ ix → j ∈ own.map (·.2))
    (hg : ∀ (A : Around) (s : Shared) (H : Hp) (C : Addr) (code : Value) (fp : List Addr), Room k A → QG (gxc X A s H (gxe X scope C code) fp) K tg gg ix)
    (ht : ∀ (A : Around) (s : Shared) (H : Hp) (C : Addr) (code : Value) (fp : List Addr), Room k A → QTs (gxc X A s H (gxe X scope C code) fp) K W0 ifs ft)
    (he : ∀ (A : Around) (s : Shared) (H : Hp) (C : Addr) (code : Value) (fp : List Addr), Room k A → QE (gxc X A s H (gxe X scope C code) fp) K W0 elt fe)
    (hcell : ∀ y ∈ scope.names, y.2 ≠ .cell := by decide) (hco : scope.isCoroutine = false := by rfl) (h0 : scope.names.lookup (".0" : Str) = some NameKind.local := by decide)
    (hs : ∀ v, genFold iter X.env v = pure v := by intro _; rfl) :
    QGen X K W (k + 1) (.GeneratorExp elt [⟨tg, iter, ifs, 0⟩] scope gpos) (mLc fi gg ft fe (own.map (·.2))) :=
  PGen.weak (pgen_gx hN hdep TB hcode ok hcell hco h0 hi hg ht he hs) fun σ H Q ⟨κ, s, L, rs, rl, h⟩ => ⟨κ, s, L, rs, rl, (HV.bind (R := fun κ' H' it J => ItOk K J κ' H' it) h).imp fun J H1 ⟨κ1, L1, it, up, rl1, oki, q⟩ => gx_ok hP oki (rs.up up) rl1 hv q⟩
def gTupG : LV → LH → Res LV := fun v L => match v with
  | .fl xs => .ok (.tup xs) L
  | _ => .no
def mTupG (f : Sl → M LV) : Sl → M LV := fun s L => (f s L).bind gTupG
/-- tuple(element for ..) -/
theorem qe_tupG {f : Sl → M LV} (h : QGen X K W k e f) (hr : Room (k + 4) X.A) (hg : Gl X "tuple") (hm : X.mg "tuple" = none) (he : starEach [e] X.env = (false, eval e X.env) :: starEach [] X.env := by rfl) : QE X K W (.Call (.Name "tuple" p) [e] [] pos) (mTupG f) :=
  PE.weak (pe_tupG h hr hg hm he) fun σ H Q ⟨κ, s, L, rs, rl, h⟩ => ⟨κ, s, L, rs, rl, (HV.bind (R := RG K) h).imp fun us H1 ⟨κ1, L1, x, up, rl1, ⟨xs, ex, rx⟩, q⟩ p hp => by
    subst ex
    exact q (κ1.more p) _ _ (Up.froz rl1 hp) (rl1.froz hp) (new_tup rl1 hp rx)⟩
/-- list(element for ..) -/
theorem qe_listG {f : Sl → M LV} (h : QGen X K W k e f) (hr : Room (k + 3) X.A) (hg : Gl X "list") (hm : X.mg "list" = none) (he : starEach [e] X.env = (false, eval e X.env) :: starEach [] X.env := by rfl) : QE X K W (.Call (.Name "list" p) [e] [] pos) f :=
  PE.weak (pe_listG h (fun pins σ H s e s' I c => (noStop_none c).elim) (fun cls d H z => z.elim) hr hg hm Vc.b_list (he := he)) fun σ H Q ⟨κ, s, L, rs, rl, h⟩ => ⟨κ, s, L, rs, rl, by
    cases e : f s L with
    | no => rw [e] at h; exact h.elim
    | exc c L1 => rw [e] at h; exact h
    | ok v L1 =>
      rw [e] at h
      intro κ1 H1 us up rl1 ⟨xs, ex, rx⟩ p hp
      subst ex
      exact h (κ1.more p) _ _ (up.trans (Up.froz rl1 hp)) (rl1.froz hp) (new_fl rl1 hp rx)⟩
end
end Q
end
section
set_option Elab.async false
set_option linter.all false
set_option maxRecDepth 100000
set_option maxHeartbeats 4000000
/-! Ql: a def that is given a lambda and calls it within a try -/
namespace Q
open PySem PySem.Spec L2
section
variable {X : Cx} {K : Kt} {κ κ1 κ2 : Kp} {H H1 H2 : Hp} {L : LH} {W : WX} {σ : St} {pins : List (Addr × Obj)} {s : Shared} {e o : Expr} {pos p : Pos} {fb : Sl → M LV} {c n k : Nat} {P : Addr} {q : Str}
/-- the table of lambdas may have grown by one -/
def Lm (P : Addr) (q : Str) (H H1 : Hp) : Prop := H1 = H ∨ ∃ (ps more : Array Value) (c : Addr), H P = some (.tbl ps) ∧ H c = none ∧ TriplesOk (ps ++ more).toList ∧ LamX.TabS H1 P q ∧ H1 = upd (upd H P (.tbl (ps ++ more))) c (LamX.CodeO c q)
theorem Up.lamd (r : RL K κ H L) (hp : (P, q) ∈ K.TS) (hu : ∀ p ∈ K.TS, p.1 = P → p.2 = q) (h : Lm P q H H1) : Up K κ H κ H1 := by
  rcases h with rfl | ⟨ps, more, c, e, hc, triples, t1, rfl⟩
  · exact Up.refl
  obtain ⟨t, n1, n2, n3⟩ := r.tls _ hp
  have nPc : P ≠ c := ne_of_none e hc
  refine ⟨⟨[], by simp⟩, fun _ h => .inl h, fun a h => ⟨h, ?_⟩, fun b o h n => ?_, fun b qs h => ?_, fun _ h => .inl h, fun p hp' t => ?_⟩
  · rw [upd_ne (show a ≠ c from fun z => r.fz a h (by rw [z]; exact hc)), upd_ne (show a ≠ P from fun z => n1 (by rw [← z]; exact h))]
  · by_cases z : b = P
    · subst z; rw [e] at h; cases h; exact .inl ⟨_, rfl⟩
    · exact .inr (by rw [upd_ne (ne_of_none h hc), upd_ne z]; exact h)
  · by_cases z : b = P
    · subst z; rw [e] at h; cases h
      exact ⟨more, by rw [upd_ne nPc, upd_same], fun _ => triples⟩
    · exact ⟨#[], by rw [upd_ne (ne_of_none h hc), upd_ne z, h]; simp, by simp⟩
  · by_cases z : p.1 = P
    · rw [hu p hp' z, z]; exact t1
    · obtain ⟨qs, e1, e2, e3⟩ := t
      refine ⟨qs, by rw [upd_ne (ne_of_none e1 hc), upd_ne z]; exact e1, e2, fun pos cv hcv => ?_⟩
      obtain ⟨c0, e4, e5⟩ := e3 pos cv hcv
      exact ⟨c0, e4, by rw [upd_ne (ne_of_none e5 hc), upd_ne (show c0 ≠ P from fun z => by rw [z, e] at e5; exact LamX.codeO_ne _ (Option.some.inj e5).symm)]; exact e5⟩
theorem RL.lamd (r : RL K κ H L) (hp : (P, q) ∈ K.TS) (hu : ∀ p ∈ K.TS, p.1 = P → p.2 = q) (h : Lm P q H H1) : RL K κ H1 L := by
  have u := Up.lamd r hp hu h
  rcases h with rfl | ⟨ps, more, c, e, hc, triples, t1, rfl⟩
  · exact r
  obtain ⟨t, n1, n2, n3⟩ := r.tls _ hp
  refine r.up u rfl (fun a ha => ?_) (fun a h => .inl h) fun a h => by rw [(u.frz a h).2]; exact r.fz a h
  rw [upd_ne (show a ≠ c from fun z => r.liv a ha (by rw [z]; exact hc)), upd_ne (show a ≠ P from fun z => n2 (by rw [← z]; exact ha))]
/-- a lambda is made; what its table is then -/
theorem lam_mk {c : Addr} {params : Arguments} {body : Expr} {scope : Scope} {E : Value → Shared → Prop} {Z : Value → Shared → Prop} (I : Inv X pins σ H s) (TB : LamX.TabB X.base X.mg c P) (hcode : X.env.code = .ref c)
    (hT : LamX.TabS H P (X.env.qual ++ "<lambda>")) (hdef : defaultsOf params X.env = ([], [])) (hfree : ∀ y ∈ scope.names, y.2 = .free → ∃ c, X.env.cells.lookup y.1 = some c)
    (h : ∀ (f c' : Addr) (pm ctv : Value) (H1 : Hp) (s' : Shared), Inv X pins σ H1 s' → Lm P (X.env.qual ++ "<lambda>") H H1 →
      s'.heap.get? f = some (PySem.W.kla_obj "<lambda>" (X.env.qual ++ "<lambda>") params body scope (cloFrom X.env.cells scope.names []) pm c' ctv) → H1 f = none → f ∉ frs X.stack → H1 c' = some (LamX.CodeO c' (X.env.qual ++ "<lambda>")) → Z (.ref f) s') :
    wpAny (model X.prog X.w) X.A (eval (.Lambda params body scope pos) X.env) Z E s := by
  obtain ⟨ps, hP, ht, ha⟩ := hT
  have tab_at : s.heap.get? P = some { cls := .none, data := .fields ps } := I.hok P _ hP
  have far : ∀ f, s.heap.objs.size ≤ f → f ∉ frs X.stack := fun f hf z => (List.mem_cons.mp (I.stkSub _ z)).elim (fun e => absurd (Nat.lt_of_lt_of_le (by rw [← e] at *; exact I.lt) hf) (by rw [e]; exact Nat.lt_irrefl _)) (I.nofs hf)
  refine PySem.W.kla_eval hdef ?_
  cases hc : codeAmong pos ps.toList with
  | some cv =>
    obtain ⟨c', e, hco⟩ := ha pos cv hc
    subst e
    exact PySem.W.kla_makeFunctionHit (mg := X.mg) (c := c) (P := P) (ps := ps) (closure_ok hfree) I.ok.glob (I.mod.glob.keeps I.bk) hcode (TB.code.keeps I.bk) tab_at ht hc (TB.bm.keeps I.bk) fun ctv h' tk hx size_le =>
      h h'.objs.size c' _ ctv H _ (I.kept fun b o e => Heap.get?_push_of_some _ (hx b o e)) (.inl rfl) (Heap.get?_push_size _ rfl) (I.hok.fresh size_le) (far _ size_le) hco
  | none =>
    refine PySem.W.kla_makeFunction (mg := X.mg) (c := c) (P := P) (ps := ps) (closure_ok hfree) I.ok.glob (I.mod.glob.keeps I.bk) hcode (TB.code.keeps I.bk) tab_at ht hc TB.gP (TB.bm.keeps I.bk) fun c' ctv h' tk hx hge hlt hrec htb => ?_
    obtain ⟨c2, oc, vs, t, e2, hoc, hd, hv⟩ := hrec
    cases e2
    have size_le : s.heap.objs.size ≤ h'.objs.size := Nat.le_trans hge (Nat.le_of_lt hlt)
    have new_c : H c' = none := I.hok.fresh hge
    have e_list : (ps ++ #[rawInt pos.line, rawInt pos.col, .ref c']).toList = ps.toList ++ [rawInt pos.line, rawInt pos.col, .ref c'] := by simp
    have triples : TriplesOk (ps ++ #[rawInt pos.line, rawInt pos.col, .ref c']).toList := by rw [e_list]; exact PySem.TriplesOk_snoc _ _ _ _ ht
    refine h h'.objs.size c' _ ctv _ _ (LamX.inv_table (t' := tk) (more := #[rawInt pos.line, rawInt pos.col, .ref c']) (h' := h'.push _) I hP (fun b o hb e => Heap.get?_push_of_some _ (hx b o hb e)) (Heap.get?_push_of_some _ htb) hge ⟨oc, vs, t, Heap.get?_push_of_some _ hoc, hd, hv⟩)
      (.inr ⟨ps, _, c', hP, new_c, triples, ⟨_, by rw [upd_ne (ne_of_none hP new_c), upd_same], triples, fun p' cv hcv => ?_⟩, rfl⟩) (Heap.get?_push_size _ rfl) ?_ (far _ size_le) upd_same
    · rw [e_list] at hcv
      rcases LamX.among_app _ ht hcv with z | z
      · obtain ⟨c0, e1, e2⟩ := ha p' cv z
        exact ⟨c0, e1, by rw [upd_ne (ne_of_none e2 new_c), upd_ne (show c0 ≠ P from fun z => by rw [z, hP] at e2; exact LamX.codeO_ne _ (Option.some.inj e2).symm)]; exact e2⟩
      · exact ⟨c', z, upd_same⟩
    · rw [upd_ne (Nat.ne_of_gt hlt), upd_ne (Nat.ne_of_gt (Nat.lt_of_lt_of_le (Heap.lt_size tab_at) size_le))]
      exact I.hok.fresh size_le
def tLm (P : Addr) (q : Str) (TT : (XK → Hp → VK → Prop) → Hp → VK → Prop) (t : XK → TE) : TE := fun σ H Z => LamX.TabS H P q ∧ ∀ H1, Lm P q H H1 → TT (fun E H' Z' => t E σ H' Z') H1 Z
/-- x(lambda: body) -/
theorem pe_lmcall {TT : (XK → Hp → VK → Prop) → Hp → VK → Prop} {x a : Str} {g c : Addr} {k : Nat} {pg : Arguments} {bg : List Stmt} {sg : Scope} {dV kV doc pm cdv ct oc : Value} {an od : Option Addr} {osl : Array (Option Value)} {Ng : List Str}
    {params : Arguments} {body : Expr} {scope : Scope} {t : XK → TE} {lpos : Pos} (hg : Gl X x) (hm : X.mg x = some (.ref g)) (hk : PySem.W.keepIn X.K (.ref g) = true)
    (lk : X.K.lookup g = some ⟨oc, od, .func (PySem.W.fnOf x x pg bg sg dV kV doc pm an cdv ct), osl⟩) (hcg : PySem.W.codeIn X.K cdv x = true) (hb : L2.Binds X.K (PySem.W.fnOf x x pg bg sg dV kV doc pm an cdv ct) [a] []) (Sg : FnScope Ng [a] sg) (hNg : Ng[0]? = some a) (hva : Vis sg a)
    (hG : LamX.GivesTo X Ng x sg g cdv bg a (X.env.qual ++ "<lambda>") TT)
    (TB : LamX.TabB X.base X.mg c P) (hcode : X.env.code = .ref c) (hr : Room (k + 2) X.A) (Ls : LamX.LamS X.env.scope scope) (hdef : defaultsOf params X.env = ([], []))
    (hbind : ∀ (q : Str) (cl : List (Str × Addr)) (pm cv ctv : Value), bindArgs (PySem.W.kla_fn "<lambda>" q params body scope cl pm cv ctv) ⟨[], []⟩ = pure [])
    (hbody : ∀ (A : Around) (outer : List Env) (s : Shared) (H : Hp) (E : XK) (f c' : Addr), Room k (A.deeper (LamX.lamEnv X scope s.heap.objs.size f c')) → PE (LamX.lamCx X A outer s H E scope f c') body (t E))
    (hdb : (x == ("__debug__" : Str)) = false := by decide) (hd : (a == ("__debug__" : Str)) = false := by decide) (hcd : (a == ("__classdict__" : Str)) = false := by decide) :
    PE X (.Call (.Name x p) [.Lambda params body scope lpos] [] pos) (tLm P (X.env.qual ++ "<lambda>") TT t) := by
  refine ⟨fun pins s σ H Z I ⟨hT, h⟩ => ?_⟩
  refine wpAny_Call_Name_kw (ld_glob I hg hm ?_ hdb)
  refine PySem.W.callWith_K (h₀ := X.base) I.ok.mod.kin hk ?_ (by rfl) (by rfl)
  refine Calls.spliced_cons (lam_mk I TB hcode hT hdef (Ls.has I.ok) fun f c' pm' ctv H1 s' I1 hl hf hfn hfr hco => Calls.spliced_nil ⟨I1.kIn, ?_⟩)
  have rc : codeAny (model X.prog X.w) X.A (.call (.ref g) ⟨[.ref f], []⟩) (CR C8.CX0 X.stack X.prog X.w H1 s' Z C8.E0) s' :=
    LamX.run_ofS (N := Ng) (ps := [a]) (us := [.ref f]) (vs := [.ref f]) lk hcg Sg hr I1.env0 (hb s' [.ref f] I1.kIn rfl) (.cons rfl .nil) rfl fun hr' => by
      obtain ⟨t', ht', hq'⟩ := hG f c' s' H1 Z (fun E H' Z' => t E σ H' Z') (fun W pn xe E p1 p2 tk hW => LamX.pe_act (i := 0) I1 Ls hf hfn hfr (hbind _ _ _ _ _) tk hW hr' (fun A outer s H hr2 => hbody A outer s H E f c' hr2) hNg hva hd hcd) hco (h H1 hl)
      exact ⟨t', ht'.nox, hq'⟩
  refine wpAny_call (codeAny_mono rc fun r s2 hq => ?_)
  match r, hq with
  | .ok (.ret u), hq => exact I1.after hq
  | .ok .next, hq => exact False.elim hq
  | .ok .brk, hq => exact False.elim hq
  | .ok .cont, hq => exact False.elim hq
  | .error e, hq => exact (show False from hq).elim
/-- .. within try: return a() except CE: return ret -/
def mTold (cg : Nat → Bool) (ret : Str) (fb : Sl → M LV) : Sl → M LV := fun s L => match fb s L with
  | .ok v L1 => .ok v L1
  | .exc c L1 => if cg c = true then .ok (.str ret) L1 else .no
  | .no => .no
theorem qe_told {cg : Nat → Bool} {ret x a eN : Str} {g c CE : Addr} {k : Nat} {pg : Arguments} {sg : Scope} {dV kV doc pm cdv ct oc : Value} {an od : Option Addr} {osl : Array (Option Value)} {Ng : List Str} {j : Nat} {p1 p2 p3 p4 p5 p6 p7 p8 : Pos}
    {params : Arguments} {body : Expr} {scope : Scope} {lpos : Pos} (hg : Gl X x) (hm : X.mg x = some (.ref g)) (hk : PySem.W.keepIn X.K (.ref g) = true)
    (lk : X.K.lookup g = some ⟨oc, od, .func (PySem.W.fnOf x x pg [.Try [.Return (some (.Call (.Name a p1) [] [] p2)) p3] [.ExceptHandler (some (.Name eN p4)) none [.Return (some (.Constant (.str ret) j p5)) p6] p7] [] [] p8] sg dV kV doc pm an cdv ct), osl⟩)
    (hcg : PySem.W.codeIn X.K cdv x = true) (hb : L2.Binds X.K (PySem.W.fnOf x x pg [.Try [.Return (some (.Call (.Name a p1) [] [] p2)) p3] [.ExceptHandler (some (.Name eN p4)) none [.Return (some (.Constant (.str ret) j p5)) p6] p7] [] [] p8] sg dV kV doc pm an cdv ct) [a] []) (Sg : FnScope Ng [a] sg) (hNg : Ng[0]? = some a) (hva : Vis sg a) (h0 : ∀ f : Addr, (L2.start Ng [V.ref f])[0]? = some (some (V.ref f)))
    (hge : sg.names.lookup eN = some .globalImplicit) (hme : X.mg eN = some (.ref CE)) (hde : (eN == ("__debug__" : Str)) = false)
    (hx : ∀ c, cg c = true → PySem.W.exmOne X.K (.ref (K.cl c)) (.ref CE) = some true)
    (hp : (P, X.env.qual ++ "<lambda>") ∈ K.TS) (hu : ∀ p ∈ K.TS, p.1 = P → p.2 = X.env.qual ++ "<lambda>")
    (TB : LamX.TabB X.base X.mg c P) (hcode : X.env.code = .ref c) (hr : Room (k + 2) X.A) (Ls : LamX.LamS X.env.scope scope) (hdef : defaultsOf params X.env = ([], []))
    (hbind : ∀ (q : Str) (cl : List (Str × Addr)) (pm cv ctv : Value), bindArgs (PySem.W.kla_fn "<lambda>" q params body scope cl pm cv ctv) ⟨[], []⟩ = pure [])
    (hbody : ∀ (A : Around) (outer : List Env) (s : Shared) (H : Hp) (E : XK) (f c' : Addr), Room k (A.deeper (LamX.lamEnv X scope s.heap.objs.size f c')) → QE (LamX.lamCx X A outer s H E scope f c') K (WD E) body fb)
    (hdb : (x == ("__debug__" : Str)) = false := by decide) (hd : (a == ("__debug__" : Str)) = false := by decide) (hcd : (a == ("__classdict__" : Str)) = false := by decide) :
    QE X K W (.Call (.Name x p) [.Lambda params body scope lpos] [] pos) (mTold cg ret fb) :=
  PE.weak (pe_lmcall (TT := LamX.TTold X.K CE ret) (t := fun E => tE K (WD E) fb) hg hm hk lk hcg hb Sg hNg hva (LamX.told_gives hge hme hde h0) TB hcode hr Ls hdef hbind hbody hdb hd hcd) fun σ H Z ⟨κ, s, L, rs, rl, h⟩ => ⟨(rl.tls _ hp).1, fun H1 hl => by
    have up := Up.lamd rl hp hu hl
    refine ⟨κ, s, L, rs.up up, rl.lamd hp hu hl, ?_⟩
    unfold mTold at h
    cases e : fb s L with
    | no => rw [e] at h; exact h.elim
    | ok v L1 => rw [e] at h; exact fun κ2 H2 u u2 rl2 r2 => h κ2 H2 u (up.trans u2) rl2 r2
    | exc c L1 =>
      rw [e] at h
      simp only [] at h
      split at h
      · rename_i hc
        exact fun κ2 H2 d u2 rl2 => ⟨true, hx c hc, fun _ => h κ2 H2 _ (up.trans u2) rl2 (.str _), fun z => nomatch z⟩
      · exact h.elim⟩
end
end Q
end
section
set_option Elab.async false
set_option linter.all false
set_option maxRecDepth 100000
set_option maxHeartbeats 4000000
/-! Qm: join; a def whose code object is known; small helpers of derivations -/
namespace Q
open PySem PySem.Spec L2
open PyProof.Rows (envOfC)
section
variable {X : Cx} {K : Kt} {κ κ1 κ2 : Kp} {H H1 H2 : Hp} {L : LH} {W : WX} {σ : St} {e o : Expr} {pos p apos : Pos} {fo fe : Sl → M LV} {c n k : Nat}
def strsOf : List LV → Option (List Str)
  | [] => some []
  | .str a :: r => (strsOf r).map (a :: ·)
  | _ => none
theorem strsOf_ok : ∀ {xs : List LV} {us : List V} {ys : List Str}, RVs K κ H xs us → strsOf xs = some ys → us = ys.map V.str
  | [], _, ys, r, h => by cases r; cases h; rfl
  | .str a :: r, _, ys, rv, h => by
    cases rv with
    | cons r1 r2 =>
      cases r1
      unfold strsOf at h
      cases e : strsOf r with
      | none => rw [e] at h; cases h
      | some zs => rw [e] at h; cases h; rw [strsOf_ok r2 e]; rfl
  | .non :: _, _, _, _, h => by cases h
  | .bl _ :: _, _, _, _, h => by cases h
  | .int _ :: _, _, _, _, h => by cases h
  | .ref _ :: _, _, _, _, h => by cases h
  | .tup _ :: _, _, _, _, h => by cases h
  | .st _ :: _, _, _, _, h => by cases h
  | .fl _ :: _, _, _, _, h => by cases h
  | .sl _ :: _, _, _, _, h => by cases h
  | .adr _ :: _, _, _, _, h => by cases h
  | .ty _ :: _, _, _, _, h => by cases h
def itemsV : LV → Option (List LV)
  | .fl xs => some xs
  | .tup xs => some xs
  | _ => none
def gJoin (a : Str) (y : LV) (L : LH) : Res LV := match (itemsV y).bind strsOf with
  | some ys => if (ys.map (·.length)).sum + ys.length * a.length ≤ 16777216 then .ok (.str (Txt.join a ys)) L else .no
  | none => .no
def mJoin (fo fe : Sl → M LV) : Sl → M LV := fun s L => (fo s L).bind fun x L1 => match x with
  | .str a => (fe s L1).bind fun y L2 => gJoin a y L2
  | _ => .no
theorem qe_join (hK : X.K = K.K) (ho : QE X K W o fo) (he : QE X K W e fe) (hs : starEach [e] X.env = [(false, eval e X.env)] := by rfl) (hbase : attributeBase o "join" X.env (eval o X.env) = eval o X.env := by rfl) (hline : (apos.endLine == pos.line) = true := by rfl) :
    QE X K W (.Call (.Attribute o "join" apos) [e] [] pos) (mJoin fo fe) :=
  PE.weak (Vc.pe_joinK hK ho he hs hbase hline) fun σ H Q ⟨κ, s, L, rs, rl, h⟩ => ⟨κ, s, L, rs, rl, (HV.bind (R := RV K) h).imp fun u H1 ⟨κ1, L1, x, up, rl1, rx, q⟩ => by
    cases x with
    | str a =>
      cases rx
      refine ⟨⟨a, rfl⟩, κ1, s, L1, rs.up up, rl1, (HV.bind (R := RV K) q).imp fun v H2 ⟨κ2, L2, y, up2, rl2, ry, q2⟩ => ?_⟩
      unfold gJoin at q2
      split at q2
      · rename_i ys e
        split at q2
        · rename_i hb
          cases y with
          | fl xs =>
            cases ry with
            | fl g1 g2 =>
              have e : strsOf xs = some ys := e
              exact ⟨a, _, ys, rfl, rfl, .inl (by rw [← strsOf_ok g2 e]; exact SqL.of g1.2), hb, q2.now rl2 (.str _)⟩
          | tup xs =>
            cases ry with
            | tup g1 g2 =>
              have e : strsOf xs = some ys := e
              exact ⟨a, _, ys, rfl, rfl, .inr (by rw [← strsOf_ok g2 e]; exact SqT.of g1.2), hb, q2.now rl2 (.str _)⟩
          | _ => cases e
        · exact q2.elim
      · exact q2.elim
    | _ => exact q.elim⟩
end
section
variable {P : Program} {w : World} {K : Kt} {mg : Str → Option Value} {base : Heap}
/-- a def whose code object stands at c -/
structure FunC (K : PySem.W.Frag) (x qual : Str) (st : Stmt) (f : Addr) (fd : FuncData) (c : Addr) : Prop where
  ex : ∃ (oc : Value) (od : Option Addr) (dV kV doc pm : Value) (an : Option Addr) (ct : Value) (osl : Array (Option Value)),
    fd = PySem.W.fnOf x qual (defArgs st) (defBody st) (defScope st) dV kV doc pm an (.ref c) ct ∧ K.lookup f = some ⟨oc, od, .func fd, osl⟩ ∧ PySem.W.codeIn K (.ref c) qual = true
  kp : PySem.W.keepIn K (.ref f) = true
theorem q_fnC {x qual : Str} {st : Stmt} {f c : Addr} {fd : FuncData} {N ps : List Str} {k : Nat} {body : MS} (F : FunC K.K x qual st f fd c) (S : FnScope N ps (defScope st))
    (hb : ∀ (A : Around) (outer : List Env) (s : Shared) (H : Hp) (E : XK), Room k (A.deeper (envOfC qual (defScope st) s.heap.objs.size f (.ref c))) → QSs (cxOf (L2.CX P w) P w K.K mg base N qual (defScope st) f (.ref c) A outer s H E) K (WD E) (defBody st) body) :
    FnOk P w K.K mg base (L2.CX P w) (k + 1) f fd ps (spF K ps.length (callF N.length body)) := by
  obtain ⟨⟨oc, od, dV, kV, doc, pm, an, ct, osl, rfl, lk, hcd⟩, kp⟩ := F
  refine fn_of lk hcd S (fun vs H Q E h => h.1) fun A outer s H vs Q E hr h => ⟨_, hb A outer s H E hr, ?_⟩
  obtain ⟨_, κ, L, xs, rv, rl, h⟩ := h
  refine ⟨κ, _, L, RS.start rv N, rl, ?_⟩
  unfold callF at h
  cases e : body (xs.map some ++ List.replicate (N.length - xs.length) none) L with
  | next s L => rw [e] at h; exact fun κ' H' σ' a b c => h κ' H' _ a b .non
  | ret v L => rw [e] at h; exact fun κ' H' u a b c => h κ' H' u a b c
  | brk s L => rw [e] at h; exact h.elim
  | cont s L => rw [e] at h; exact h.elim
  | exc c s L => rw [e] at h; exact fun κ' H' σ' d a b c => h κ' H' d a b
  | no => rw [e] at h; exact h.elim
end
theorem hu64 {A : Around} {k : Nat} (hr : Room k A) : A.units + 64 < cLine := by have := hr.un; omega
theorem tkE {P : Program} {w : World} {K : PySem.W.Frag} {mg : Str → Option Value} {base : Heap} {N : List Str} {qual : Str} {scope : Scope} {f : Addr} {cd : Value} {A : Around} {outer : List Env} {s : Shared} {H : Hp} {E : XK} :
    Takes (cxOf (L2.CX P w) P w K mg base N qual scope f cd A outer s H E) (WD E) := takes_of rfl rfl rfl rfl
abbrev gSub : LV → LV → M LV := gI fun i j => .int (i - j)
abbrev gAddI : LV → LV → M LV := gI fun i j => .int (i + j)
abbrev gFdiv : LV → LV → M LV := gIc (fun _ j => decide (0 < j) && decide (j < 1073741824)) fun i j => .int (i / j)
abbrev gMod : LV → LV → M LV := gIc (fun _ j => decide (0 < j)) fun i j => .int (i % j)
abbrev gPow : LV → LV → M LV := gIc (fun i j => decide (0 ≤ j) && decide (j ≤ 1000) && decide (i.natAbs < 2 ^ 64)) fun i j => .int (i ^ j.toNat)
abbrev gNeg : LV → M LV := fun x L => match x with | .int i => .ok (.int (-i)) L | _ => .no
theorem own_def {P : Program} {w : World} {K : PySem.W.Frag} {mg : Str → Option Value} {base : Heap} {N : List Str} {qual : Str} {scope : Scope} {f : Addr} {cd : Value} {A : Around} {outer : List Env} {s : Shared} {H : Hp} {E : XK} :
    PassesOwn (model (cxOf (L2.CX P w) P w K mg base N qual scope f cd A outer s H E).prog (cxOf (L2.CX P w) P w K mg base N qual scope f cd A outer s H E).w) (cxOf (L2.CX P w) P w K mg base N qual scope f cd A outer s H E).A (cxOf (L2.CX P w) P w K mg base N qual scope f cd A outer s H E).env (cxOf (L2.CX P w) P w K mg base N qual scope f cd A outer s H E).xe := passes_of rfl
end Q
end
section
set_option Elab.async false
set_option linter.all false
set_option maxRecDepth 100000
set_option maxHeartbeats 4000000
/-! Qn: from the head's facts to what derivations ask; the end -/
namespace Q
open PySem PySem.Spec L2
theorem tls_nil {H : Hp} {P : Addr} {q : Str} (h : H P = some (.tbl #[])) : LamX.TabS H P q := LamX.TabS.nil h
/-- a def and its code object -/
theorem funC_of {K : PySem.W.Frag} {x qual : Str} {st : Stmt} {p : He.Defn} {fd : FuncData} (F : L2.FunD K x qual (L2.defArgs st) (L2.defBody st) (L2.defScope st) [] [] (He.fAd K p) fd) : FunC K x qual st (He.fAd K p) fd (He.cT K p).1 := by
  obtain ⟨oc, od, dV, kV, doc, pm, an, cdv, ct, osl, e, l, c, hd, _⟩ := F.ex
  obtain ⟨cc, e2⟩ := He.codeIn_ref c
  have e3 : (He.cT K p).1 = cc := He.codeOf_eq (fd := fd) l (by rw [e, e2])
  subst e2
  exact ⟨⟨oc, od, dV, kV, doc, pm, an, ct, osl, by rw [e3]; exact e, l, by rw [e3]; exact c⟩, F.kp⟩
/-- a tuple of the module -/
theorem stT_of {K : Kt} {x : Str} {vs : List He.Dv} (h : He.tupB K.K x vs = true) : StT K (He.ga K.K x) (vs.map (He.Dv.v K.K)) := by
  rcases He.tupB_ok h (fun _ => none) with q | q
  · rcases q with q | ⟨o, q⟩ <;> cases q
  · exact q
theorem gx_of {base : Heap} {mg : Str → Option Value} {c P : Addr} (h : LamX.TabB base mg c P) : GxR.TabB base mg c P := ⟨h.code, h.bm, h.gP⟩
theorem ints_rv {K : Kt} {κ : Kp} {H : Hp} : ∀ ns : List Int, RVs K κ H (ns.map LV.int) (ns.map V.int)
  | [] => .nil
  | n :: r => .cons (.int n) (ints_rv r)
/-- where a law begins: the script, tables that are empty -/
theorem law_starts {K : Kt} {F : List LV → M LV} {a : Addr} {ns : List Int} {H : Hp} (hT : ∀ P, P ∈ K.T → H P = some (.tbl #[])) (hS : ∀ p, p ∈ K.TS → H p.1 = some (.tbl #[]) ∧ p.1 ∉ K.T) (hs : SqL K.K H a (ns.map V.int)) (h : ∃ L, F [.sl (ns.map LV.int)] [] = .ok (.bl true) L) :
    spF K 1 F [.ref a] H (fun v _ => v = .bl true) fun _ _ _ => False := by
  obtain ⟨L, e⟩ := h
  have noT : ∀ P, H P = some (.tbl #[]) → ¬ (P = a ∧ Rd H a (.lst (ns.map V.int))) := fun P hP ⟨z, r⟩ => by
    subst z
    rcases r with r | ⟨o, r⟩ <;> (rw [hP] at r; cases r)
  refine ⟨rfl, ⟨[], fun b => b = a ∧ Rd H a (.lst (ns.map V.int))⟩, [], [.sl (ns.map LV.int)], .cons (.sl ?_ (ints_rv ns)) .nil, ⟨rfl, List.nodup_nil, fun b hb => absurd hb (by simp), fun b hb => ?_, fun n o b h1 _ => by simp at h1, fun P hP => ⟨⟨#[], hT P hP, trivial⟩, noT P (hT P hP), by simp⟩,
    fun p hp => ⟨tls_nil (hS p hp).1, noT _ (hS p hp).1, by simp, (hS p hp).2⟩⟩, ?_⟩
  · rcases hs with z | z
    · exact .inl ⟨⟨rfl, z⟩, z⟩
    · exact .inr z
  · obtain ⟨rfl, z⟩ := hb
    rcases z with z | ⟨o, z⟩ <;> (rw [z]; exact fun q => nomatch q)
  · rw [e]
    intro κ' H' u _ _ r
    cases r
    rfl
end Q
end
section
set_option Elab.async false
set_option linter.all false
set_option maxRecDepth 100000
set_option maxHeartbeats 1000000
/-! Qo: what is wanted behind a function of values, step by step -/
namespace Q
open PySem L2
def WP {α : Type} (r : Res α) (P : α → LH → Prop) : Prop := match r with
  | .ok v L => P v L
  | _ => False
/-- what is wanted behind a statement -/
structure EW where
  nx : Sl → LH → Prop
  rt : LV → LH → Prop := fun _ _ => False
  bk : Sl → LH → Prop := fun _ _ => False
  ct : Sl → LH → Prop := fun _ _ => False
def WS (r : Fl) (D : EW) : Prop := match r with
  | .next s L => D.nx s L
  | .ret v L => D.rt v L
  | .brk s L => D.bk s L
  | .cont s L => D.ct s L
  | _ => False
section
variable {α β : Type} {r : Res α} {k : α → LH → Res β} {P : β → LH → Prop} {Z : α → LH → Prop} {v : α} {L : LH} {s : Sl} {D : EW}
theorem WP_ok : WP (.ok v L) Z = Z v L := rfl
theorem WP_no : WP (.no : Res α) Z = False := rfl
theorem WP_bind : WP (r.bind k) P = WP r fun x L1 => WP (k x L1) P := by cases r <;> rfl
theorem WP_ite {b : Bool} {r1 r2 : Res α} : WP (if b = true then r1 else r2) Z = ((b = true → WP r1 Z) ∧ (b = false → WP r2 Z)) := by cases b <;> simp
theorem WP_dite {p : Prop} [Decidable p] {r1 r2 : Res α} : WP (if p then r1 else r2) Z = ((p → WP r1 Z) ∧ (¬ p → WP r2 Z)) := by
  by_cases h : p <;> simp [h]
theorem WP.imp {Z' : α → LH → Prop} (h : WP r Z) (k : ∀ v L, Z v L → Z' v L) : WP r Z' := by
  cases r with
  | ok v L => exact k v L h
  | _ => exact h
theorem WP.ex (h : WP r Z) : ∃ v L, r = .ok v L ∧ Z v L := by
  cases r with
  | ok v L => exact ⟨v, L, rfl, h⟩
  | _ => exact h.elim
theorem WS_lift {k : α → LH → Fl} : WS (lift s k r) D = WP r (fun x L1 => WS (k x L1) D) ∨ ∃ c L1, r = .exc c L1 := by cases r <;> first | exact .inl rfl | exact .inr ⟨_, _, rfl⟩
theorem WS_lift' {k : α → LH → Fl} : WS (lift s k r) D = WP r (fun x L1 => WS (k x L1) D) := by cases r <;> rfl
theorem WS_next {s : Sl} : WS (.next s L) D = D.nx s L := rfl
theorem WS_ret {v : LV} : WS (.ret v L) D = D.rt v L := rfl
theorem WS_brk {s : Sl} : WS (.brk s L) D = D.bk s L := rfl
theorem WS_cont {s : Sl} : WS (.cont s L) D = D.ct s L := rfl
theorem WS_seq {f : Fl} {g : MS} : WS (f.andThen g) D = WS f { D with nx := fun s L => WS (g s L) D } := by cases f <;> rfl
theorem WS_ite {b : Bool} {f g : Fl} : WS (if b = true then f else g) D = ((b = true → WS f D) ∧ (b = false → WS g D)) := by cases b <;> simp
theorem WS_dite {p : Prop} [Decidable p] {f g : Fl} : WS (if p then f else g) D = ((p → WS f D) ∧ (¬ p → WS g D)) := by
  by_cases h : p <;> simp [h]
theorem WS.imp {D' : EW} {f : Fl} (h : WS f D) (h1 : ∀ s L, D.nx s L → D'.nx s L) (h2 : ∀ v L, D.rt v L → D'.rt v L) (h3 : ∀ s L, D.bk s L → D'.bk s L) (h4 : ∀ s L, D.ct s L → D'.ct s L) : WS f D' := by
  cases f with
  | next s L => exact h1 _ _ h
  | ret s L => exact h2 _ _ h
  | brk s L => exact h3 _ _ h
  | cont s L => exact h4 _ _ h
  | exc c s L => exact h
  | no => exact h
theorem WP_call {N : Nat} {body : MS} {xs : List LV} {Z : LV → LH → Prop} : WP (callF N body xs L) Z = WS (body (xs.map some ++ List.replicate (N - xs.length) none) L) { nx := fun _ L => Z .non L, rt := Z } := by
  unfold callF
  cases body (xs.map some ++ List.replicate (N - xs.length) none) L <;> rfl
end
/-- a loop: what holds at each turn -/
theorem WS_for {it : IT} {g : LV → Sl → Option Sl} {body : MS} {D : EW} {n : Nat} (I : Nat → Sl → LH → Prop) (hn : n < FUEL)
    (step : ∀ i s L, i < n → I i s L → ∃ v s1, it i L = some (some v) ∧ g v s = some s1 ∧ WS (body s1 L) { nx := I (i + 1), ct := I (i + 1), rt := D.rt, bk := D.nx })
    (stop : ∀ s L, I n s L → it n L = some none ∧ D.nx s L) {s : Sl} {L : LH} (h : I 0 s L) : WS (forGo it g body FUEL 0 s L) D := by
  have go : ∀ (m i : Nat) (s : Sl) (L : LH), i ≤ n → n < m + i → I i s L → WS (forGo it g body m i s L) D := by
    intro m
    induction m with
    | zero => intro i s L h1 h2; omega
    | succ m ih =>
      intro i s L h1 h2 hI
      unfold forGo
      by_cases e : i = n
      · subst e
        obtain ⟨e1, e2⟩ := stop s L hI
        rw [e1]
        exact e2
      · obtain ⟨v, s1, e1, e2, e3⟩ := step i s L (by omega) hI
        rw [e1]
        simp only []
        rw [e2]
        simp only []
        cases eb : body s1 L with
        | next s2 L2 => rw [eb] at e3; exact ih (i + 1) s2 L2 (by omega) (by omega) e3
        | cont s2 L2 => rw [eb] at e3; exact ih (i + 1) s2 L2 (by omega) (by omega) e3
        | brk s2 L2 => rw [eb] at e3; exact e3
        | ret v L2 => rw [eb] at e3; exact e3
        | exc c s2 L2 => rw [eb] at e3; exact e3
        | no => rw [eb] at e3; exact e3
  exact go FUEL 0 s L (Nat.zero_le _) (by omega) h
/-- a comprehension -/
theorem WP_lc {it : IT} {g : LV → Sl → Option Sl} {tt : Sl → M Bool} {fe : Sl → M LV} {s0 : Sl} {Z : LV → LH → Prop} {n : Nat} (I : Nat → List LV → LH → Prop) (hn : n < FUEL) (hl : ∀ i acc L, i ≤ n → I i acc L → acc.length < 1000000)
    (step : ∀ i acc L, i < n → I i acc L → ∃ v s1, it i L = some (some v) ∧ g v s0 = some s1 ∧ WP (tt s1 L) fun b L1 => if b = true then WP (fe s1 L1) fun y L2 => I (i + 1) (acc ++ [y]) L2 else I (i + 1) acc L1)
    (stop : ∀ acc L, I n acc L → it n L = some none ∧ Z (.fl acc) L) {L : LH} (h : I 0 [] L) : WP (lcGo it g tt fe s0 FUEL 0 [] L) Z := by
  have go : ∀ (m i : Nat) (acc : List LV) (L : LH), i ≤ n → n < m + i → I i acc L → WP (lcGo it g tt fe s0 m i acc L) Z := by
    intro m
    induction m with
    | zero => intro i acc L h1 h2; omega
    | succ m ih =>
      intro i acc L h1 h2 hI
      unfold lcGo
      by_cases e : i = n
      · subst e
        obtain ⟨e1, e2⟩ := stop acc L hI
        rw [e1]
        exact e2
      · obtain ⟨v, s1, e1, e2, e3⟩ := step i acc L (by omega) hI
        rw [e1]
        simp only []
        rw [e2]
        simp only []
        obtain ⟨b, L2, et, e4⟩ := e3.ex
        rw [et]
        simp only []
        cases b with
        | false =>
          rw [if_neg (by decide)] at e4 ⊢
          exact ih (i + 1) acc L2 (by omega) (by omega) e4
        | true =>
          rw [if_pos rfl] at e4 ⊢
          obtain ⟨y, L3, ey, e5⟩ := e4.ex
          rw [ey]
          simp only []
          rw [if_pos (hl i acc L h1 hI)]
          exact ih (i + 1) _ L3 (by omega) (by omega) e5
  exact go FUEL 0 [] L (Nat.zero_le _) (by omega) h
section
variable {L R : LH} {i j : Int} {a b c d v : LV} {p : Int → Int → LV} {q : Int → Int → Bool} {o : List Nat → List Nat → Bool} {x y : Str} {neg : Bool}
theorem e_gI : gI p (.int i) (.int j) L = .ok (p i j) L := rfl
theorem e_gIc : gIc q p (.int i) (.int j) L = if q i j = true then .ok (p i j) L else .no := rfl
theorem e_gMul : gMul (.int i) (.int j) L = if cMul i j = true then .ok (.int (i * j)) L else .no := rfl
theorem e_gAdd : gAdd (.int i) (.int j) L = .ok (.int (i + j)) L := rfl
theorem e_gCmp : gCmp q o (.int i) (.int j) L = .ok (.bl (q i j)) L := rfl
theorem e_gEq : gEq neg (.int i) (.int j) L = .ok (.bl (if neg then !decide (i = j) else decide (i = j))) L := rfl
theorem e_gEqS : gEq neg (.str x) (.str y) L = .ok (.bl (if neg then !decide (x = y) else decide (x = y))) L := rfl
theorem e_ix30 : gIx (.ref 0) (.int 0) (.lst [a, b, c] :: R) = .ok a (.lst [a, b, c] :: R) := rfl
theorem e_ix31 : gIx (.ref 0) (.int 1) (.lst [a, b, c] :: R) = .ok b (.lst [a, b, c] :: R) := rfl
theorem e_ix32 : gIx (.ref 0) (.int 2) (.lst [a, b, c] :: R) = .ok c (.lst [a, b, c] :: R) := rfl
theorem e_set30 : setIx (.lst [a, b, c] :: R) (.ref 0) (.int 0) v = some (.lst [v, b, c] :: R) := rfl
theorem e_set31 : setIx (.lst [a, b, c] :: R) (.ref 0) (.int 1) v = some (.lst [a, v, c] :: R) := rfl
theorem e_set32 : setIx (.lst [a, b, c] :: R) (.ref 0) (.int 2) v = some (.lst [a, b, v] :: R) := rfl
theorem e_tup0 : gIx (.tup (a :: xs)) (.int 0) L = .ok a L := by
  show (match atI (a :: xs) 0 with | some v => Res.ok v L | none => .no) = _
  have : atI (a :: xs) 0 = some a := by
    unfold atI ixN
    simp
  rw [this]
theorem e_t40 : gIx (.tup [a, b, c, d]) (.int 0) L = .ok a L := rfl
theorem e_t41 : gIx (.tup [a, b, c, d]) (.int 1) L = .ok b L := rfl
theorem e_t42 : gIx (.tup [a, b, c, d]) (.int 2) L = .ok c L := rfl
theorem e_t43 : gIx (.tup [a, b, c, d]) (.int 3) L = .ok d L := rfl
end
theorem WP_exc {α : Type} {c : Nat} {L : LH} {Z : α → LH → Prop} : WP (.exc c L : Res α) Z = False := rfl
theorem WS_exc {c : Nat} {s : Sl} {L : LH} {D : EW} : WS (.exc c s L) D = False := rfl
end Q
end
section
set_option Elab.async false
set_option linter.all false
set_option maxRecDepth 100000
set_option maxHeartbeats 4000000
/-! Qp: lambdas that are kept in a list and called within a comprehension's test -/
namespace Q
open PySem PySem.Spec L2
open PyProof.Rows hiding St
/-! ### a comprehension whose tests know the def's own state -/
section
variable {X : Cx}
/-- like L2's, but what is known of a block is told at the def's own state ahead of it -/
theorem lc_own {pl : List (Addr × Obj)} {z : Shared} {τ : St} {J0 : Hp} {Z : VK} {y tgt src : Expr} {cs : List Expr} {sc : Scope} {mine : List (Str × Nat)} {at1 at2 : Pos} {ti : TI} {tg : TG} {tt : TT} {ty : TE} {Zf : Value → Shared → Prop}
    (calm : X.calm = true) (nod : X.N.Nodup) (IX : Inv X pl τ J0 z) (pi : PI X tgt src ti) (bo : BlkOk X.N X.env.scope sc mine)
    (kg : ∀ (z : Shared) (G : Hp) (C : Addr) (cl : List (Str × Addr)) (fp : List Addr), PG (X.blk z G sc (compEnvC sc cl C X.env) fp) tgt tg)
    (kt : ∀ (z : Shared) (G : Hp) (C : Addr) (cl : List (Str × Addr)) (fp : List Addr), Inv X pl τ G z → (∀ b ∈ fp, FpOk X pl G b) → PTs (X.blk z G sc (compEnvC sc cl C X.env) fp) cs tt)
    (ky : ∀ (z : Shared) (G : Hp) (C : Addr) (cl : List (Str × Addr)) (fp : List Addr), PE (X.blk z G sc (compEnvC sc cl C X.env) fp) y ty) (nos : ∀ x, foldedSetIterable src X.env x = pure x)
    (want : tLc ti tg tt ty (mine.map (·.2)) τ J0 Z)
    (done : ∀ D C s2 m G, Inv X pl τ G s2 → Z (.ref D) G → s2.heap.Ns C m → FpOk X pl G C → compPost (model X.prog X.w) X.A X.xe none Zf (.ref D) C (.ok .next) s2) :
    wpAny (model X.prog X.w) X.A (comprehension (.ListComp y [⟨tgt, src, cs, 0⟩] sc at1) sc X.env at2 (newList []) false (eval src X.env) none) Zf X.xe z := by
  have hf : ∀ n ∈ sc.names, n.2 = .free → ∃ c, X.env.cells.lookup n.1 = some c := fun n hn e => (bo.free n hn e).elim (fun k => IX.ok.has _ (.inl k)) fun k => IX.ok.has _ (.inr k)
  refine wpAny_comprehension_free (use := none) rfl nos (closure_ok hf) bo.kind (fun n hn e => by rw [bo.uniq n hn, e]) (thn (pi.run pl z τ J0 _ IX want) fun xv z1 hx => thn hx fun itv z2 h2 => ?_)
  obtain ⟨it, fp, tn, J, G2, rfl, I2, T, t2, f2, q⟩ := h2
  refine wpAny_newObj_type (newEnv_comp ?_) (by show 0 ≤ sizeLine; decide)
  obtain ⟨D, eD⟩ : ∃ D, z2.heap.objs.size = D := ⟨_, rfl⟩
  rw [eD]
  obtain ⟨Wi, ⟨m0, w0⟩, step⟩ := q D (I2.hok.fresh (Nat.le_of_eq eD))
  obtain ⟨z3, e3⟩ : ∃ z3, ({ z2 with heap := z2.heap.push { cls := .type "list", data := .seq ([] : List Value).toArray } } : Shared) = z3 := ⟨_, rfl⟩
  have p3 : z3.heap = z2.heap.push { cls := .type "list", data := .seq ([] : List Value).toArray } := by rw [← e3]
  have I3 : Inv X pl τ (upd G2 D (.lst [])) z3 := by
    subst e3
    exact I2.laid (t' := z2.toks) (fun b o e => Heap.get?_push_of_some _ e) (Nat.le_of_eq eD) ⟨Nat.zero_le _, [], 0, .nil, by rw [← eD]; exact Heap.get?_push_size _ rfl⟩
  have small : ∀ b ∈ fp, b < z2.heap.objs.size := fun b hb => let ⟨o, e, _⟩ := T.obj _ _ t2 b hb; Heap.lt_size e
  have f3 : ∀ b ∈ fp, FpOk X pl (upd G2 D (.lst [])) b ∧ b < z3.heap.objs.size := fun b hb =>
    ⟨⟨by rw [upd_ne (by rw [← eD]; exact Nat.ne_of_lt (small b hb))]; exact (f2 b hb).1, (f2 b hb).2⟩, by rw [p3, Heap.size_push]; exact Nat.lt_succ_of_lt (small b hb)⟩
  have t3 : tn 0 z3.heap := T.keep _ _ _ t2 fun b _ o e => by rw [p3]; exact Heap.get?_push_of_some _ e
  rw [e3]
  revert I3 f3 w0
  generalize upd G2 D (.lst []) = G3
  intro w0 I3 f3
  have I4 := block_start I3 bo nod f3
  have kt3 := kt z3 G3 z3.heap.objs.size (cellsFrom (z3.heap.objs.size + 1) sc.names (cloFrom X.env.cells sc.names [])) fp I3 fun b hb => (f3 b hb).1
  have kg3 := kg z3 G3 z3.heap.objs.size (cellsFrom (z3.heap.objs.size + 1) sc.names (cloFrom X.env.cells sc.names [])) fp
  have ky3 := ky z3 G3 z3.heap.objs.size (cellsFrom (z3.heap.objs.size + 1) sc.names (cloFrom X.env.cells sc.names [])) fp
  obtain ⟨z4, e4⟩ : ∃ z4, ({ z3 with heap := pushCells (z3.heap.push { cls := .type "dict", data := .dict #[] }) sc.names } : Shared) = z4 := ⟨_, rfl⟩
  obtain ⟨ce, ee⟩ : ∃ ce, compEnvC sc (cellsFrom (z3.heap.objs.size + 1) sc.names (cloFrom X.env.cells sc.names [])) z3.heap.objs.size X.env = ce := ⟨_, rfl⟩
  have cl : ce.locals = z3.heap.objs.size := by rw [← ee]; rfl
  rw [ee] at I4 kt3 kg3 ky3
  rw [e4] at I4
  show codeAny _ _ (.compStart (.ListComp y [⟨tgt, src, cs, 0⟩] sc at1) 0 (.ref it) (.ref D) (compEnvC sc (cellsFrom (z3.heap.objs.size + 1) sc.names (cloFrom X.env.cells sc.names [])) z3.heap.objs.size X.env)) (compPost (model X.prog X.w) X.A X.xe none Zf (.ref D) z3.heap.objs.size) { z3 with heap := pushCells (z3.heap.push { cls := .type "dict", data := .dict #[] }) sc.names }
  rw [ee, e4]
  have t4 : tn 0 z4.heap := T.keep _ _ _ t3 fun b _ o e => by rw [← e4]; exact pushCells_keeps _ _ _ _ (Heap.get?_push_of_some _ e)
  have none4 : ∀ b ∈ fp, G3 b = none := fun b hb => (f3 b hb).1.1
  have rest : ∀ {τ' : St} {G : Hp} {z' : Shared}, Inv (X.blk z3 G3 sc ce fp) [] τ' G z' → (∀ b ∈ fp, G b = none) → ∀ b ∈ fp, FpOk (X.blk z3 G3 sc ce fp) [] G b := fun {τ' G z'} I n b hb =>
    ⟨n b hb, (I.ok.exf b hb).1, I.ok.exfs b hb, .inl hb, fun x c e => (I.ok.exf b hb).2 x c e, fun p hp => absurd (show p ∈ ([] : List (Addr × Obj)) ++ [] from hp) (by simp)⟩
  have lp : codeAny (model X.prog X.w) X.A (.compLoop (.ListComp y [⟨tgt, src, cs, 0⟩] sc at1) 0 (.ref it) (.ref D) ce) (compPost (model X.prog X.w) X.A X.xe none Zf (.ref D) z3.heap.objs.size) z4 := by
    refine compLoop_any (fun n z' => ∃ i G, Inv (X.blk z3 G3 sc ce fp) [] (wipe τ (mine.map (·.2))) G z' ∧ tn i z'.heap ∧ (∀ b ∈ fp, G b = none) ∧ Wi i n G) ?_ m0 ⟨0, G3, I4, t4, none4, w0⟩
    rintro n z5 ⟨i, G5, I5, t5, n5, w5⟩
    rcases step i n G5 w5 with ⟨over, zz⟩ | ⟨goes, Nx, less, turn⟩
    · refine thnF (T.done (X.blk z3 G3 sc ce fp) rfl rfl rfl calm i [] z5 _ G5 (fun _ _ => False) I5 (rest I5 n5) t5 over) fun r z6 ⟨hr, I6⟩ => ?_
      subst hr
      have nC : G5 ce.locals = none := I6.free
      obtain ⟨m, hn, _⟩ := I6.loc
      have hn : z6.heap.Ns ce.locals m := hn
      rw [cl] at nC hn
      exact done D _ z6 m G5 (I3.call' (ch := fp) I6.os I6.base I6.hok I6.bare fun b hb => ⟨(f3 b hb).1.2.2.2.1, (f3 b hb).1.2.1, (f3 b hb).1.2.2.2.2.1, (f3 b hb).1.2.2.2.2.2⟩) zz hn (I3.fpOk (Nat.le_refl _) nC)
    · refine thnF (T.item (X.blk z3 G3 sc ce fp) rfl rfl rfl calm i [] z5 _ G5 (fun _ _ => False) I5 (rest I5 n5) t5 goes) fun r z6 ⟨u, hr, h6⟩ => ?_
      subst hr
      refine thnF h6 fun _ z7 ⟨x, G7, I7, r7, y7, t7, n7⟩ => ?_
      refine thnF (kg3.run _ z7 _ G7 x u _ (I7.pinned (rest I7 n7) (T.obj _ _ t7)) r7 (turn x G7 y7)) fun _ z8 ⟨τ8, G8, I8, w8, q8⟩ => ?_
      refine thnF (kt3.run _ z8 τ8 G8 _ I8 q8) fun b z9 ⟨G9, I9, q9⟩ => ?_
      have next : ∀ {z' : Shared} {G : Hp}, Inv (X.blk z3 G3 sc ce fp) ([] ++ pinsAt fp z7.heap) τ8 G z' → Nx G → ∃ m, m < n ∧ ∃ i G, Inv (X.blk z3 G3 sc ce fp) [] (wipe τ (mine.map (·.2))) G z' ∧ tn i z'.heap ∧ (∀ b ∈ fp, G b = none) ∧ Wi i m G := fun {z' G} I nx => by
        obtain ⟨m', hm, w'⟩ := less G nx
        have held : ∀ b ∈ fp, ∀ o, z7.heap.get? b = some o → z'.heap.get? b = some o ∧ G b = none := fun b hb o e => by
          have p := I.pin (b, o) (List.mem_append_right _ (List.mem_append_right _ (mem_pinsAt hb e)))
          exact ⟨p.1, p.2.1⟩
        refine ⟨m', hm, i + 1, G, (I.unpinned (pins := [])).weak (by rw [← w8, wipe_length]) (fun j v e => by rw [← w8] at e; exact (wipe_some e).1), T.keep _ _ _ t7 fun b hb o e => (held b hb o e).1, fun b hb => ?_, w'⟩
        obtain ⟨o, e, _⟩ := T.obj _ _ t7 b hb
        exact (held b hb o e).2
      cases b with
      | false =>
        simp only [Bool.false_eq_true, if_false] at q9 ⊢
        exact next I9 q9
      | true =>
        simp only [if_true] at q9 ⊢
        refine thnF (ky3.run _ z9 τ8 G9 _ I9 q9) fun v z10 ⟨yv, G10, I10, r10, acc, d10, l10, nx⟩ => ?_
        exact app_ok (X := X.blk z3 G3 sc ce fp) I10 d10 l10 r10 fun z11 I11 => next I11 nx
  exact codeAny_compStart_list lp (T.self X.A 0 _ _ _ t4 lp)

/-! ### lambdas that are kept -/
/-- what is known of a kept lambda at f whose code object stands at c -/
def LamH (X : Cx) (ps : Arguments) (bd : Expr) (sc : Scope) (c f : Addr) : HO := .ext fun h => ∃ pm ctv, h.get? f = some (PySem.W.kla_obj "<lambda>" (X.env.qual ++ "<lambda>") ps bd sc (cloFrom X.env.cells sc.names []) pm c ctv)
section
variable {pins : List (Addr × Obj)} {σ : L2.St} {H : Hp} {s : Shared} {P : Addr}
theorem lam_lay {h' : Heap} {t' : Nat} {ps : Arguments} {bd : Expr} {sc : Scope} {c : Addr} {pm ctv : Value} {g' : Array GenState} {d' : Drawn} {o' : _} (I : Inv X pins σ H ⟨h', g', d', t', o'⟩) :
    H h'.objs.size = none ∧ Inv X pins σ (upd H h'.objs.size (LamH X ps bd sc c h'.objs.size)) ⟨h'.push (PySem.W.kla_obj "<lambda>" (X.env.qual ++ "<lambda>") ps bd sc (cloFrom X.env.cells sc.names []) pm c ctv), g', d', t', o'⟩ :=
  ⟨I.hok.fresh (Nat.le_refl _), I.laid (t' := t') (a := h'.objs.size) (fun b u e => Heap.get?_push_of_some _ e) (Nat.le_refl _) ⟨⟨pm, ctv, Heap.get?_push_size _ rfl⟩, ⟨_, Heap.get?_push_size _ rfl⟩, fun h1 h2 ⟨pm, ctv, e⟩ k => ⟨pm, ctv, k _ e⟩⟩⟩
theorem lam_keep {c : Addr} {ps : Arguments} {bd : Expr} {sc : Scope} {pos : Pos} {E : Value → Shared → Prop} {Z : Value → Shared → Prop} (I : Inv X pins σ H s) (TB : LamX.TabB X.base X.mg c P) (hcode : X.env.code = .ref c)
    (hT : LamX.TabS H P (X.env.qual ++ "<lambda>")) (hdef : defaultsOf ps X.env = ([], [])) (hfree : ∀ y ∈ sc.names, y.2 = .free → ∃ c, X.env.cells.lookup y.1 = some c)
    (h : ∀ (f c' : Addr) (H1 : Hp) (s' : Shared), Lm P (X.env.qual ++ "<lambda>") H H1 → H1 f = none → H1 c' = some (LamX.CodeO c' (X.env.qual ++ "<lambda>")) → Inv X pins σ (upd H1 f (LamH X ps bd sc c' f)) s' → Z (.ref f) s') :
    wpAny (model X.prog X.w) X.A (eval (.Lambda ps bd sc pos) X.env) Z E s := by
  obtain ⟨es, hP, ht, ha⟩ := hT
  have atP : s.heap.get? P = some { cls := .none, data := .fields es } := I.hok P _ hP
  refine PySem.W.kla_eval hdef ?_
  cases hc : codeAmong pos es.toList with
  | some cv =>
    obtain ⟨c', rfl, hco⟩ := ha pos cv hc
    refine PySem.W.kla_makeFunctionHit (mg := X.mg) (c := c) (P := P) (ps := es) (closure_ok hfree) I.ok.glob (I.mod.glob.keeps I.bk) hcode (TB.code.keeps I.bk) atP ht hc (TB.bm.keeps I.bk) fun ctv h' tk hx sz => ?_
    have J : Inv X pins σ H { s with heap := h', toks := tk } := I.kept (t' := tk) hx
    obtain ⟨n1, J1⟩ := lam_lay (ps := ps) (bd := bd) (sc := sc) (c := c') (pm := (X.mg "__name__").getD .none) (ctv := ctv) J
    exact h _ c' H _ (.inl rfl) n1 hco J1
  | none =>
    refine PySem.W.kla_makeFunction (mg := X.mg) (c := c) (P := P) (ps := es) (closure_ok hfree) I.ok.glob (I.mod.glob.keeps I.bk) hcode (TB.code.keeps I.bk) atP ht hc TB.gP (TB.bm.keeps I.bk) fun c' ctv h' tk hx ge lt rec_ tb => ?_
    obtain ⟨c2, oc, vs, t, e2, hoc, hd, hv⟩ := rec_
    cases e2
    have nw : H c' = none := I.hok.fresh ge
    have el : (es ++ #[rawInt pos.line, rawInt pos.col, .ref c']).toList = es.toList ++ [rawInt pos.line, rawInt pos.col, .ref c'] := by simp
    have tr : TriplesOk (es ++ #[rawInt pos.line, rawInt pos.col, .ref c']).toList := by rw [el]; exact PySem.TriplesOk_snoc _ _ _ _ ht
    have J := LamX.inv_table (t' := tk) (more := #[rawInt pos.line, rawInt pos.col, .ref c']) (h' := h') I hP (fun b o hb e => hx b o hb e) tb ge ⟨oc, vs, t, hoc, hd, hv⟩
    obtain ⟨n1, J1⟩ := lam_lay (ps := ps) (bd := bd) (sc := sc) (c := c') (pm := (X.mg "__name__").getD .none) (ctv := ctv) J
    refine h _ c' _ _ (.inr ⟨es, _, c', hP, nw, tr, ⟨_, by rw [upd_ne (ne_of_none hP nw), upd_same], tr, fun p' cv hcv => ?_⟩, rfl⟩) n1 upd_same J1
    rw [el] at hcv
    rcases LamX.among_app _ ht hcv with z | z
    · obtain ⟨c0, e1, e2⟩ := ha p' cv z
      exact ⟨c0, e1, by rw [upd_ne (ne_of_none e2 nw), upd_ne (show c0 ≠ P from fun z => by rw [z, hP] at e2; exact LamX.codeO_ne _ (Option.some.inj e2).symm)]; exact e2⟩
    · exact ⟨c', z, upd_same⟩
/-- the kept one is called, in the def that got it -/
theorem act_kept {CXg : CXT} {Eg : XK} {Ng : List Str} {qg : Str} {sg : Scope} {g f c' : Addr} {cdg : Value} {ps : Arguments} {bd : Expr} {sc : Scope} {k i : Nat} {a : Str} {pn : List (Addr × Obj)} {xe : Value → Shared → Prop} {W : WX} {E : XK} {tb : TE} {p1 p2 : Pos}
    (I : Inv X pins σ H s) (Ls : LamX.LamS X.env.scope sc) (hbind : ∀ pm ctv, bindArgs (PySem.W.kla_fn "<lambda>" (X.env.qual ++ "<lambda>") ps bd sc (cloFrom X.env.cells sc.names []) pm (.ref c') ctv) ⟨[], []⟩ = pure [])
    (tk : Takes ((cxOf CXg X.prog X.w X.K X.mg X.base Ng qg sg g cdg X.A X.stack s H Eg).tr pn xe) W) (hW : ∀ cls d σ' H', E cls d H' → W cls d σ' H') (hr : Room (k + 1) (X.A.deeper (envOfC qg sg s.heap.objs.size g cdg)))
    (hbd : ∀ (A : Around) (outer : List Env) (s : Shared) (H : Hp), Room k (A.deeper (LamX.lamEnv X sc s.heap.objs.size f c')) → PE (LamX.lamCx X A outer s H E sc f c') bd tb)
    (hN : Ng[i]? = some a) (hv : Vis sg a) (hd : (a == ("__debug__" : Str)) = false := by decide) (hcd : (a == ("__classdict__" : Str)) = false := by decide) :
    PE ((cxOf CXg X.prog X.w X.K X.mg X.base Ng qg sg g cdg X.A X.stack s H Eg).tr pn xe) (.Call (.Name a p1) [] [] p2)
      (fun σZ HZ Q => σZ[i]? = some (some (.ref f)) ∧ HZ c' = some (LamX.CodeO c' (X.env.qual ++ "<lambda>")) ∧ HZ f = some (LamH X ps bd sc c' f) ∧ tb σ HZ Q) := by
  refine ⟨fun pinsZ sZ σZ HZ Q IZ ⟨at_i, co, lam, ht⟩ => ?_⟩
  refine wpAny_Call_Name_kw (thn ((pe_var (pos := p1) (i := i) hN hv hd hcd).run pinsZ sZ σZ HZ (fun v H1 => v = .ref f ∧ H1 = HZ) IZ ⟨_, at_i, rfl, rfl⟩) fun u z1 ⟨v, H1, J, r1, ev, eH⟩ => ?_)
  subst ev eH
  obtain rfl : u = Value.ref f := r1
  obtain ⟨⟨pm, ctv, of1⟩, _, _⟩ := J.hok f _ lam
  obtain ⟨⟨oc, vs, t, hoc, hdc, hvc⟩, _, _⟩ := J.hok c' _ co
  have un : Un (frs X.stack) [] H H1 s.heap z1.heap := J.base
  refine PySem.W.callWith_F0 ⟨_, _, _, _, of1⟩ (wpAny_call (codeAny_mono (?_ : codeAny (model X.prog X.w) (X.A.deeper (envOfC qg sg s.heap.objs.size g cdg)) (.call (.ref f) ⟨[], []⟩) (CR (L2.CX X.prog X.w) (envOfC qg sg s.heap.objs.size g cdg :: X.stack) X.prog X.w H1 z1 Q E) z1) fun r z2 hq => ?_))
  · refine PySem.W.kla_callFunE hr.depth of1 rfl Ls.co Ls.gen rfl ⟨c', oc, vs, t, rfl, hoc, hdc, hvc⟩ ?_
    rw [hbind]
    refine wpAny_pure (wpAny_newFunctionEnv (fun y hy => (Ls.own y hy).2) (fun y hy => absurd hy (by simp)) (fun h₁ hns hsb => ⟨J.nolimit.fresh _ hsb, ?_⟩) Ls.kind)
    have JL : Inv (LamX.lamCx X (X.A.deeper (envOfC qg sg s.heap.objs.size g cdg)) (envOfC qg sg s.heap.objs.size g cdg :: X.stack) z1 H1 E sc f c') [] σ H1 { z1 with heap := h₁, toks := z1.toks + ([] : List (Str × Value)).length } :=
      LamX.lam_start2 I Ls J.env0 hr.hd un hns fun b o e => hsb.extBut b o (Nat.ne_of_lt (Heap.lt_size e)) (Heap.get?_push_of_some _ e)
    refine PySem.W.kla_codeExpr (wpAny_mono ((hbd _ _ z1 H1 (hr.deeper _)).run [] _ _ H1 Q JL ht) (fun v z2 ⟨w', H', J', rv, q⟩ => ?_) fun e z2 hq => hq)
    exact ⟨w', H', J'.os, J'.bare, J'.base, J'.hok, rv, q⟩
  · cases r with
    | error e => exact (passes_call tk hW : Passes (L2.CX X.prog X.w) ((cxOf CXg X.prog X.w X.K X.mg X.base Ng qg sg g cdg X.A X.stack s H Eg).tr pn xe) E) pinsZ σZ H1 z1 e z2 J hq
    | ok fl => cases fl with
      | ret u => exact J.after hq
      | _ => exact False.elim hq
end
end
end Q
end
section
set_option Elab.async false
set_option linter.all false
set_option maxRecDepth 100000
set_option maxHeartbeats 4000000
namespace Q
open PySem PySem.Spec L2
section
variable {X : Cx} {K : Kt} {κ : Kp} {H : Hp} {L : LH} {W : WX} {σ : L2.St} {P : Addr}
/-- lambda: body, as a value -/
theorem qe_lam {c : Addr} {ps : Arguments} {bd : Expr} {sc : Scope} {pos : Pos} (i : Nat) (hlo : K.lo i = LamH X ps bd sc) (hlq : K.lq = X.env.qual ++ "<lambda>") (hp : (P, X.env.qual ++ "<lambda>") ∈ K.TS) (hu : ∀ p ∈ K.TS, p.1 = P → p.2 = X.env.qual ++ "<lambda>")
    (TB : LamX.TabB X.base X.mg c P) (hcode : X.env.code = .ref c) (Ls : LamX.LamS X.env.scope sc) (hdef : defaultsOf ps X.env = ([], [])) : QE X K W (.Lambda ps bd sc pos) (mC (.lam i)) :=
  ⟨fun pins s σ H Q I ⟨κ, sl, L, rs, rl, h⟩ => lam_keep I TB hcode (rl.tls _ hp).1 hdef (Ls.has I.ok) fun f c' H1 s' hl hn hco I1 => by
    have up := Up.lamd rl hp hu hl
    have rl1 := rl.lamd hp hu hl
    have nc : c' ∉ κ.ρ := fun z => by
      obtain ⟨n, hn'⟩ := List.mem_iff_getElem?.mp z
      have hlt : n < L.length := by rw [rl1.len]; exact (List.getElem?_eq_some_iff.mp hn').1
      rcases rl1.obj n _ c' (List.getElem?_eq_getElem hlt) hn' with w | ⟨_, w⟩
      · exact w.2 _ hco
      · exact w.dd _ hco
    exact ⟨.ref f, _, I1, rfl, h (κ.more f) _ _ (up.trans (Up.froz rl1 hn)) (rl1.froz hn) (.lam ⟨.inr rfl, by rw [upd_same, hlo], ⟨_, by rw [hlo]; rfl⟩⟩ ⟨by rw [upd_ne (ne_of_none hco hn), hlq]; exact hco, nc⟩)⟩⟩
end
end Q
end
section
set_option Elab.async false
set_option linter.all false
set_option maxRecDepth 100000
set_option maxHeartbeats 4000000
namespace Q
open PySem PySem.Spec L2
/-- x(f) of a kept lambda within try: .. ; vs: what the block wipes -/
def mToldK (cg : Nat → Bool) (ret : Str) (n : Nat) (fbs : Nat → Sl → M LV) (vs : List Nat) (fe : Sl → M LV) : Sl → M LV := fun s L => (fe s L).bind fun x L1 => match x with
  | .lam j => if j < n then mTold cg ret (fbs j) (wipeL s vs) L1 else .no
  | _ => .no
section
variable {X : Cx} {K : Kt} {κ : Kp} {H : Hp} {L : LH} {W : WX} {σ : L2.St} {P : Addr} {pins : List (Addr × Obj)}
theorem blk_back {z z' : Shared} {G G' : Hp} {sc : Scope} {ce : Env} {fp : List Addr} {pl : List (Addr × Obj)} {τ : L2.St} (I : Inv X pins σ G z) (f3 : ∀ b ∈ fp, FpOk X pins G b) (J : Inv (X.blk z G sc ce fp) pl τ G' z') : Inv X pins σ G' z' :=
  I.call' (ch := fp) J.os J.base J.hok J.bare fun b hb => ⟨(f3 b hb).2.2.2.1, (f3 b hb).2.1, (f3 b hb).2.2.2.2.1, (f3 b hb).2.2.2.2.2⟩
theorem pe_kept {z : Shared} {G : Hp} {scb : Scope} {ce : Env} {fp : List Addr} {i n k : Nat} {fv x a : Str} {g : Addr} {pg : Arguments} {bg : List Stmt} {sg : Scope} {dV kV doc pm cdv ct oc : Value} {an od : Option Addr} {osl : Array (Option Value)} {Ng : List Str} {p1 p2 p3 : Pos}
    {ps : Nat → Arguments} {bd : Nat → Expr} {sc : Nat → Scope} {t : Nat → XK → TE} {TT : (XK → Hp → VK → Prop) → Hp → VK → Prop} (I : Inv X pins σ G z) (f3 : ∀ b ∈ fp, FpOk X pins G b)
    (he : PE (X.blk z G scb ce fp) (.Name fv p2) (tVar i)) (hg : Gl (X.blk z G scb ce fp) x) (hm : X.mg x = some (.ref g)) (hk : PySem.W.keepIn X.K (.ref g) = true)
    (lk : X.K.lookup g = some ⟨oc, od, .func (PySem.W.fnOf x x pg bg sg dV kV doc pm an cdv ct), osl⟩) (hcg : PySem.W.codeIn X.K cdv x = true) (hb : L2.Binds X.K (PySem.W.fnOf x x pg bg sg dV kV doc pm an cdv ct) [a] []) (Sg : FnScope Ng [a] sg) (hNg : Ng[0]? = some a) (hva : Vis sg a)
    (hG : LamX.GivesTo X Ng x sg g cdv bg a (X.env.qual ++ "<lambda>") TT) (hTT : ∀ (tl tl' : XK → Hp → VK → Prop) (H : Hp) (Z : VK), (∀ E Z', tl E H Z' → tl' E H Z') → TT tl H Z → TT tl' H Z) (hr : Room (k + 2) X.A) (Ls : ∀ j, j < n → LamX.LamS X.env.scope (sc j))
    (hbind : ∀ j, j < n → ∀ (q : Str) (cl : List (Str × Addr)) (pm cv ctv : Value), bindArgs (PySem.W.kla_fn "<lambda>" q (ps j) (bd j) (sc j) cl pm cv ctv) ⟨[], []⟩ = pure [])
    (hbody : ∀ j, j < n → ∀ (A : Around) (outer : List Env) (s : Shared) (H : Hp) (E : XK) (f c' : Addr), Room k (A.deeper (LamX.lamEnv X (sc j) s.heap.objs.size f c')) → PE (LamX.lamCx X A outer s H E (sc j) f c') (bd j) (t j E))
    (hdb : (x == ("__debug__" : Str)) = false := by decide) (hd : (a == ("__debug__" : Str)) = false := by decide) (hcd : (a == ("__classdict__" : Str)) = false := by decide) :
    PE (X.blk z G scb ce fp) (.Call (.Name x p1) [.Name fv p2] [] p3) (fun σ2 H2 Z => ∃ f j c', σ2[i]? = some (some (.ref f)) ∧ j < n ∧ H2 f = some (LamH X (ps j) (bd j) (sc j) c' f) ∧ H2 c' = some (LamX.CodeO c' (X.env.qual ++ "<lambda>")) ∧ TT (fun E H3 Z3 => t j E σ H3 Z3) H2 Z) := by
  refine ⟨fun pl s1 σ2 H2 Z J ⟨f, j, c', hf, hj, hl, hco, h⟩ => ?_⟩
  refine wpAny_Call_Name_kw (ld_glob J hg hm ?_ hdb)
  refine PySem.W.callWith_K (h₀ := X.base) J.ok.mod.kin hk ?_ (by rfl) (by rfl)
  refine Calls.spliced_cons (thn (he.run pl s1 σ2 H2 (fun v H1 => v = .ref f ∧ H1 = H2) J ⟨_, hf, rfl, rfl⟩) fun u s2 ⟨v, H1, J1, r1, ev, eH⟩ => Calls.spliced_nil ⟨J1.kIn, ?_⟩)
  subst ev eH
  obtain rfl : u = Value.ref f := r1
  have I1 : Inv X pins σ H1 s2 := blk_back I f3 J1
  have rc : codeAny (model X.prog X.w) X.A (.call (.ref g) ⟨[.ref f], []⟩) (CR C8.CX0 X.stack X.prog X.w H1 s2 Z C8.E0) s2 :=
    LamX.run_ofS (N := Ng) (ps := [a]) (us := [.ref f]) (vs := [.ref f]) lk hcg Sg hr I1.env0 (hb s2 [.ref f] I1.kIn rfl) (.cons rfl .nil) rfl fun hr2 => by
      have act := hG f c' s2 H1 Z (fun E H3 Z3 => H3 f = some (LamH X (ps j) (bd j) (sc j) c' f) ∧ t j E σ H3 Z3) (fun W pn xe E p1 p2 tk hW => act_kept (i := 0) I1 (Ls j hj) (fun _ _ => hbind j hj _ _ _ _ _) tk hW hr2 (fun A outer s H hr3 => hbody j hj A outer s H E f c' hr3) hNg hva hd hcd) hco
      obtain ⟨t', ht', hq'⟩ := act (hTT _ _ _ _ (fun E Z' q => ⟨hl, q⟩) h)
      exact ⟨t', ht'.nox, hq'⟩
  refine wpAny_call (codeAny_mono rc fun r s3 hq => ?_)
  match r, hq with
  | .ok (.ret u), hq => exact J1.after hq
  | .ok .next, hq => exact False.elim hq
  | .ok .brk, hq => exact False.elim hq
  | .ok .cont, hq => exact False.elim hq
  | .error e, hq => exact (show False from hq).elim

theorem RS.of_wipe {s : Sl} {τ : L2.St} {vs : List Nat} (h : RS K κ H s (L2.wipe τ vs)) : RS K κ H s τ :=
  ⟨by rw [h.1, wipe_length], fun i v e => let ⟨u, e1, r⟩ := h.2 i v e; ⟨u, (wipe_some e1).1, r⟩⟩
/-- [elt for .. in .. if x(f) op b]: f a kept lambda -/
theorem qe_lcKept {scope : Scope} {own : List (Str × Nat)} {ix : List Nat} {tg iter elt b : Expr} {fi : Sl → M IT} {gg : LV → Sl → Option Sl} {fe fb : Sl → M LV} {op : CmpOp} {g2 : LV → LV → M LV} {i n k j0 : Nat} {fv x a eN ret : Str} {g CE : Addr} {cg : Nat → Bool} {pg : Arguments} {sg : Scope} {dV kV doc pm cdv ct oc : Value} {an od : Option Addr} {osl : Array (Option Value)} {Ng : List Str}
    {pos p1 p2 p3 p4 q1 q2 q3 q4 q5 q6 q7 q8 : Pos} {ps : Nat → Arguments} {bd : Nat → Expr} {sc : Nat → Scope} {fbs : Nat → Sl → M LV}
    (hc : X.calm = true) (hN : X.N.Nodup) (hi : QI X K W tg iter fi) (ok : BlkOk X.N X.env.scope scope own) (hv : ∀ j, j ∈ ix → j ∈ own.map (·.2))
    (htg : ∀ (s : Shared) (H : Hp) (C : Addr) (cl : List (Str × Addr)) (fp : List Addr), QG (X.blk s H scope (compEnvC scope cl C X.env) fp) K tg gg ix)
    (he : ∀ (s : Shared) (H : Hp) (C : Addr) (cl : List (Str × Addr)) (fp : List Addr), QE (X.blk s H scope (compEnvC scope cl C X.env) fp) K W0 elt fe)
    (hvar : ∀ (s : Shared) (H : Hp) (C : Addr) (cl : List (Str × Addr)) (fp : List Addr), PE (X.blk s H scope (compEnvC scope cl C X.env) fp) (.Name fv p2) (tVar i))
    (ho : ∀ (s : Shared) (H : Hp) (C : Addr) (cl : List (Str × Addr)) (fp : List Addr), OpQ (X.blk s H scope (compEnvC scope cl C X.env) fp) K (compareOp op) g2)
    (hb : ∀ (s : Shared) (H : Hp) (C : Addr) (cl : List (Str × Addr)) (fp : List Addr), QE (X.blk s H scope (compEnvC scope cl C X.env) fp) K W0 b fb)
    (hg : ∀ (s : Shared) (H : Hp) (C : Addr) (cl : List (Str × Addr)) (fp : List Addr), Gl (X.blk s H scope (compEnvC scope cl C X.env) fp) x) (hm : X.mg x = some (.ref g)) (hk : PySem.W.keepIn X.K (.ref g) = true)
    (lk : X.K.lookup g = some ⟨oc, od, .func (PySem.W.fnOf x x pg [.Try [.Return (some (.Call (.Name a q1) [] [] q2)) q3] [.ExceptHandler (some (.Name eN q4)) none [.Return (some (.Constant (.str ret) j0 q5)) q6] q7] [] [] q8] sg dV kV doc pm an cdv ct), osl⟩)
    (hcg : PySem.W.codeIn X.K cdv x = true) (hbn : L2.Binds X.K (PySem.W.fnOf x x pg [.Try [.Return (some (.Call (.Name a q1) [] [] q2)) q3] [.ExceptHandler (some (.Name eN q4)) none [.Return (some (.Constant (.str ret) j0 q5)) q6] q7] [] [] q8] sg dV kV doc pm an cdv ct) [a] []) (Sg : FnScope Ng [a] sg) (hNg : Ng[0]? = some a) (hva : Vis sg a) (h0 : ∀ f : Addr, (L2.start Ng [V.ref f])[0]? = some (some (V.ref f)))
    (hge : sg.names.lookup eN = some .globalImplicit) (hme : X.mg eN = some (.ref CE)) (hde : (eN == ("__debug__" : Str)) = false) (hx : ∀ c, cg c = true → PySem.W.exmOne X.K (.ref (K.cl c)) (.ref CE) = some true)
    (hr : Room (k + 2) X.A) (hlq : K.lq = X.env.qual ++ "<lambda>") (hlo : ∀ j, j < n → K.lo j = LamH X (ps j) (bd j) (sc j)) (Ls : ∀ j, j < n → LamX.LamS X.env.scope (sc j))
    (hbind : ∀ j, j < n → ∀ (q : Str) (cl : List (Str × Addr)) (pm cv ctv : Value), bindArgs (PySem.W.kla_fn "<lambda>" q (ps j) (bd j) (sc j) cl pm cv ctv) ⟨[], []⟩ = pure [])
    (hbody : ∀ j, j < n → ∀ (A : Around) (outer : List Env) (s : Shared) (H : Hp) (E : XK) (f c' : Addr), Room k (A.deeper (LamX.lamEnv X (sc j) s.heap.objs.size f c')) → QE (LamX.lamCx X A outer s H E (sc j) f c') K (WD E) (bd j) (fbs j))
    (hmk : behindInMarks op b = false) (hdb : (x == ("__debug__" : Str)) = false := by decide) (hd : (a == ("__debug__" : Str)) = false := by decide) (hcd : (a == ("__classdict__" : Str)) = false := by decide) (hs : ∀ x, foldedSetIterable iter X.env x = pure x := by intro _; rfl) :
    QE X K W (.ListComp elt [⟨tg, iter, [.Compare (.Call (.Name x p1) [.Name fv p2] [] p3) [op] [b] p4], 0⟩] scope pos) (mLc fi gg (mTest (mOp g2 (mToldK cg ret n fbs (own.map (·.2)) (mVar i)) fb)) fe (own.map (·.2))) := by
  refine ⟨fun pins z σ H Q I ⟨κ, s, L, rs, rl, h⟩ => ?_⟩
  rw [eval_ListComp]
  generalize hvs : own.map (·.2) = vs at *
  refine lc_own (Z := Q) (tt := fun σ2 H2 Z => wipe σ2 vs = wipe σ vs ∧ tT K W0 (mTest (mOp g2 (mToldK cg ret n fbs vs (mVar i)) fb)) σ2 H2 Z) hc hN I hi ok htg (fun z G C cl fp IG f3 => ?_) he hs ?_ fun D C s' m H' I' q hn ff => ⟨m, hn, fun h'' sb => ?_⟩
  · obtain ⟨r, h1, h2⟩ := ho z G C cl fp
    refine pts_one (PT.weak (pt_cmpR h1 (pe_kept (TT := LamX.TTold X.K CE ret) (t := fun j E => tE K (WD E) (fbs j)) IG f3 (hvar z G C cl fp) (hg z G C cl fp) hm hk lk hcg hbn Sg hNg hva (LamX.told_gives hge hme hde h0) (fun _ _ _ _ k h => k _ _ h) hr Ls hbind hbody hdb hd hcd) (hb z G C cl fp) hmk) ?_)
    rintro σ2 H2 Z ⟨hw, κ2, s2, M2, rs2, rl2, q⟩
    have q' : HV K W0 σ2 κ2 H2 RB ((mToldK cg ret n fbs vs (mVar i) s2 M2).bind fun x L1 => (fb s2 L1).bind fun y L2 => (g2 x y L2).bind toB) Z := by
      have e : mTest (mOp g2 (mToldK cg ret n fbs vs (mVar i)) fb) s2 M2 = ((mToldK cg ret n fbs vs (mVar i) s2 M2).bind fun x L1 => (fb s2 L1).bind fun y L2 => (g2 x y L2).bind toB) := by
        unfold mTest mOp
        cases mToldK cg ret n fbs vs (mVar i) s2 M2 with
        | ok x L1 =>
          show Res.bind (Res.bind (fb s2 L1) _) toB = Res.bind (fb s2 L1) _
          cases fb s2 L1 <;> rfl
        | exc => rfl
        | no => rfl
      rw [e] at q
      exact q
    unfold mToldK mVar at q'
    cases ev : s2[i]? with
    | none => rw [ev] at q'; exact q'.elim
    | some ov =>
      cases ov with
      | none => rw [ev] at q'; exact q'.elim
      | some v =>
        rw [ev] at q'
        cases v with
        | lam j =>
          obtain ⟨u, eu, ru⟩ := rs2.2 i _ ev
          have q' : HV K W0 σ2 κ2 H2 RB ((if j < n then mTold cg ret (fbs j) (wipeL s2 vs) M2 else .no).bind fun x L1 => (fb s2 L1).bind fun y L2 => (g2 x y L2).bind toB) Z := q'
          by_cases hj : j < n
          · rw [if_pos hj] at q'
            cases ru with
            | @lam _ f c' r1 r2 =>
              have rw2 : RS K κ2 H2 (wipeL s2 vs) σ := RS.of_wipe (vs := vs) (by rw [← hw]; exact RS.wipe rs2 vs)
              refine ⟨f, j, c', eu, hj, by rw [r1.2.1, hlo j hj], by rw [← hlq]; exact r2.1, κ2, wipeL s2 vs, M2, rw2, rl2, ?_⟩
              have next : ∀ {κ3 : Kp} {H3 : Hp} {x : LV} {u : V} {L3 : LH}, Up K κ2 H2 κ3 H3 → RL K κ3 H3 L3 → RV K κ3 H3 x u → HV K W0 σ2 κ3 H3 RB ((fb s2 L3).bind fun y L2 => (g2 x y L2).bind toB) Z → tE K W0 fb σ2 H3 fun v H4 => r u v H4 fun x H' => ∃ k, x = .bl k ∧ Z k H' := fun {κ3 H3 x u L3} up3 rl3 rx q3 =>
                ⟨κ3, s2, L3, rs2.up up3, rl3, (HV.bind (R := RV K) q3).imp fun v H4 ⟨κ4, L4, y, up4, rl4, ry, q4⟩ => h2 W0 κ4 H4 L4 x y u v σ2 _ rl4 (rx.up up4) ry ((HV.bind (R := RV K) q4).imp fun w H5 ⟨κ5, L5, z, up5, rl5, rz, q5⟩ => toB_ok rl5 rz q5)⟩
              unfold mTold at q'
              cases e : fbs j (wipeL s2 vs) M2 with
              | no => rw [e] at q'; exact q'.elim
              | ok v L1 =>
                rw [e] at q'
                exact fun κ3 H3 u up3 rl3 rx => next up3 rl3 rx (HV.up q' up3)
              | exc cc L1 =>
                rw [e] at q'
                by_cases hcc : cg cc = true
                · have q' : HV K W0 σ2 κ2 H2 RB ((if cg cc = true then (Res.ok (LV.str ret) L1 : Res LV) else .no).bind fun x L1 => (fb s2 L1).bind fun y L2 => (g2 x y L2).bind toB) Z := q'
                  rw [if_pos hcc] at q'
                  exact fun κ3 H3 d up3 rl3 => ⟨true, hx cc hcc, fun _ => next up3 rl3 (.str _) (HV.up q' up3), fun z => nomatch z⟩
                · have q' : HV K W0 σ2 κ2 H2 RB ((if cg cc = true then (Res.ok (LV.str ret) L1 : Res LV) else .no).bind fun x L1 => (fb s2 L1).bind fun y L2 => (g2 x y L2).bind toB) Z := q'
                  rw [if_neg hcc] at q'
                  exact q'.elim
          · rw [if_neg hj] at q'
            exact q'.elim
        | _ => exact q'.elim
  · rw [hvs]
    refine ⟨κ, s, L, rs, rl, (HV.bind (R := fun κ' H' it J => ItOk K J κ' H' it) h).imp fun J H1 ⟨κ1, L1, it, up, rl1, oki, q⟩ D hD => ?_⟩
    obtain ⟨Wi, w0, step⟩ := lc_ok oki (rs.up up) rl1 hv q D hD
    refine ⟨Wi, w0, fun i m H w => (step i m H w).imp id fun ⟨go, Nx, less, turn⟩ => ⟨go, Nx, less, fun x H' y => ?_⟩⟩
    obtain ⟨κ2, s2, x2, s3, a1, a2, a3, a4⟩ := turn x H' y
    exact ⟨κ2, s2, x2, s3, a1, a2, a3, fun σ' b1 b2 b3 => let ⟨c1, c2⟩ := a4 σ' b1 b2 b3; ⟨c1, c1, c2⟩⟩
  · obtain ⟨f0, f1, f2, f3, f4, f5⟩ := ff
    exact ⟨.ref D, H', I'.turned (t' := s'.toks) (fun b o hb e => (sb.2 b hb).trans e) f0 f1 f3 f4 f5, rfl, q⟩
end
end Q
end
section
set_option Elab.async false
set_option linter.all false
set_option maxRecDepth 100000
set_option maxHeartbeats 4000000
/-! Qr: dicts that are walked -/
namespace Q
open PySem PySem.Spec L2
section
variable {X : Cx} {K : Kt} {κ κ' κ1 κ2 : Kp} {H H' H1 H2 : Hp} {L L' : LH} {W : WX} {σ : L2.St} {x y : LV} {u v : V} {xs : List LV} {us : List V} {e o tg : Expr} {pos p apos cpos : Pos} {fo fa fb fe : Sl → M LV} {n : Nat} {a : Addr} {kvs : List (Key × LV)}
/-! ### lock, unlock -/
theorem Up.lock {ws : List (Key × V)} {od : Obj} (r : RL K κ H L) (h : L[n]? = some (.dK kvs)) (ha : κ.ρ[n]? = some a) : Up K κ H (κ.more a) (upd H a (.frz od (.dK ws))) := by
  have u := Up.chg (ho := .frz od (.dK ws)) r h (fun z => nomatch z) ha
  exact ⟨u.pre, u.new, fun b hb => ⟨.inl (u.frz b hb).1, (u.frz b hb).2⟩, u.oth, u.tbl, fun b hb => hb.elim (u.fnew b) fun (z : b = a) => .inr (.inr (by rw [z]; exact List.mem_of_getElem? ha)), u.lam⟩
theorem RL.lock {ws : List (Key × V)} {od : Obj} (r : RL K κ H L) (h : L[n]? = some (.dK kvs)) (ha : κ.ρ[n]? = some a) (hw : H a = some (.dK ws)) (kw : Keyed K κ H kvs ws) : RL K (κ.more a) (upd H a (.frz od (.dK ws))) (L.set n (.lkK kvs)) where
  len := by rw [List.length_set]; exact r.len
  nd := r.nd
  liv := fun b hb => by
    by_cases e : b = a
    · subst e; rw [upd_same]; exact fun z => nomatch z
    · rw [upd_ne e]; exact r.liv b hb
  fz := fun b hb => by
    by_cases e : b = a
    · subst e; rw [upd_same]; exact fun z => nomatch z
    · rw [upd_ne e]; exact r.fz b (hb.resolve_right e)
  obj := fun m o b h1 h2 => by
    by_cases e : m = n
    · subst e
      rw [show (κ.more a).ρ[m]? = some a from ha] at h2; cases h2
      rw [List.getElem?_set_self (List.getElem?_eq_some_iff.mp h).1] at h1
      cases h1
      exact .inr ⟨.inr rfl, od, ws, upd_same, kw.up (Up.lock r h ha)⟩
    · rw [List.getElem?_set_ne (Ne.symm e)] at h1
      have hba : b ≠ a := fun z => e (L2.nd_ix r.nd h2 (z ▸ ha))
      rcases r.obj m o b h1 h2 with z | ⟨z1, z2⟩
      · exact .inl ⟨z.1, z.2.same (upd_ne hba)⟩
      · exact .inr ⟨z1.to (fun w => .inl w) fun w => w.resolve_right hba, z2.up (Up.lock r h ha) (upd_ne hba)⟩
  tab := r.tabs (Up.lock r h ha)
  tls := r.tlss (Up.lock r h ha)
abbrev Kp.less (κ : Kp) (a : Addr) : Kp := ⟨κ.ρ, fun b => κ.F b ∧ b ≠ a⟩
theorem rd_ne {od : Obj} {ws : List (Key × V)} {b : Addr} (h : H a = some (.frz od (.dK ws))) (g : Rd H b (.lst us)) : b ≠ a := fun z => by
  subst z
  rcases g with g | ⟨o, g⟩ <;> (rw [h] at g; cases g)
mutual
theorem RV.unlk {od : Obj} {ws ws' : List (Key × V)} (h : H a = some (.frz od (.dK ws))) : ∀ {v : LV} {w : V}, RV K κ H v w → RV K (κ.less a) (upd H a (.dK ws')) v w
  | _, _, .non => .non
  | _, _, .bl b => .bl b
  | _, _, .int i => .int i
  | _, _, .str x => .str x
  | _, _, .ref h => .ref h
  | _, _, @RV.tup _ _ _ b _ _ g r => have n : b ≠ a := fun z => by rw [z, h] at g; cases g.2
    .tup ⟨⟨g.1, n⟩, by rw [upd_ne n]; exact g.2⟩ (RVs.unlk h r)
  | _, _, .st g r => .st g (RVs.unlk h r)
  | _, _, @RV.fl _ _ _ b _ _ g r => have n : b ≠ a := fun z => by rw [z, h] at g; cases g.2
    .fl ⟨⟨g.1, n⟩, by rw [upd_ne n]; exact g.2⟩ (RVs.unlk h r)
  | _, _, .sl g r => .sl (g.imp (fun g => ⟨⟨g.1, rd_ne h g.2⟩, Rd.same g.2 (upd_ne (rd_ne h g.2))⟩) id) (RVs.unlk h r)
  | _, _, .adr a => .adr a
  | _, _, .ty n => .ty n
  | _, _, @RV.lam _ _ _ i b c g k => have n : b ≠ a := fun z => by rw [z, h] at g; obtain ⟨_, g1, φ, g2⟩ := g; rw [g2] at g1; cases g1
    have m : c ≠ a := fun z => by rw [z, h] at k; cases k.1
    .lam ⟨⟨g.1, n⟩, by rw [upd_ne n]; exact g.2.1, g.2.2⟩ ⟨by rw [upd_ne m]; exact k.1, k.2⟩
theorem RVs.unlk {od : Obj} {ws ws' : List (Key × V)} (h : H a = some (.frz od (.dK ws))) : ∀ {v : List LV} {w : List V}, RVs K κ H v w → RVs K (κ.less a) (upd H a (.dK ws')) v w
  | _, _, .nil => .nil
  | _, _, .cons g r => .cons (RV.unlk h g) (RVs.unlk h r)
end
theorem Keyed.unlk {T : Type} {od : Obj} {ws ws' : List (Key × V)} (h : H a = some (.frz od (.dK ws))) : ∀ {A : List (T × LV)} {B : List (T × V)}, Keyed K κ H A B → Keyed K (κ.less a) (upd H a (.dK ws')) A B
  | _, _, .nil => .nil
  | _, _, .cons g r => .cons ⟨g.1, g.2.unlk h⟩ (Keyed.unlk h r)
theorem Up.unlk {o : HO} (u : Up K κ H κ' H') (ha : a ∈ κ.ρ) (nF : ¬ κ.F a) (nt : ∀ ps, H a ≠ some (.tbl ps)) (nc : ∀ w, H' a = some w → (∀ ps, w ≠ .tbl ps) ∧ ∀ q, w ≠ LamX.CodeO a q) : Up K κ H (κ'.less a) (upd H' a o) where
  pre := u.pre
  new := u.new
  frz := fun b hb => have n : b ≠ a := fun z => nF (z ▸ hb)
    ⟨⟨(u.frz b hb).1, n⟩, by rw [upd_ne n]; exact (u.frz b hb).2⟩
  oth := fun b o' hb hn => by
    have n : b ≠ a := fun z => hn (by rw [z]; exact ha)
    rw [upd_ne n]
    exact u.oth b o' hb hn
  tbl := fun b ps hb => by
    have n : b ≠ a := fun z => nt ps (by rw [← z]; exact hb)
    rw [upd_ne n]
    exact u.tbl b ps hb
  fnew := fun b hb => u.fnew b hb.1
  lam := fun p hp t => TabS.at (u.lam p hp t) nc
theorem RL.unlk {od : Obj} {ws : List (Key × V)} {kvs0 : List (Key × LV)} (r : RL K κ H L) (h : L[n]? = some (.lkK kvs0)) (ha : κ.ρ[n]? = some a) (hw : H a = some (.frz od (.dK ws))) (kw : Keyed K κ H kvs ws) : RL K (κ.less a) (upd H a (.dK ws)) (L.set n (.dK kvs)) where
  len := by rw [List.length_set]; exact r.len
  nd := r.nd
  liv := fun b hb => by
    by_cases e : b = a
    · subst e; rw [upd_same]; exact fun z => nomatch z
    · rw [upd_ne e]; exact r.liv b hb
  fz := fun b hb => by
    rw [upd_ne hb.2]; exact r.fz b hb.1
  obj := fun m o b h1 h2 => by
    by_cases e : m = n
    · subst e
      rw [show (κ.less a).ρ[m]? = some a from ha] at h2; cases h2
      rw [List.getElem?_set_self (List.getElem?_eq_some_iff.mp h).1] at h1
      cases h1
      exact .inr ⟨fun w => w.2 rfl, ws, upd_same, kw.unlk hw⟩
    · rw [List.getElem?_set_ne (Ne.symm e)] at h1
      have hba : b ≠ a := fun z => e (L2.nd_ix r.nd h2 (z ▸ ha))
      rcases r.obj m o b h1 h2 with z | ⟨z1, z2⟩
      · exact .inl ⟨z.1, z.2.same (upd_ne hba)⟩
      · refine .inr ⟨z1.to (fun w => ⟨w, hba⟩) fun w => w.1, ?_⟩
        have e' : upd H a (HO.dK ws) b = H b := upd_ne hba
        cases o with
        | lst xs => obtain ⟨us, q1, q2⟩ := z2; exact ⟨us, e'.trans q1, q2.unlk hw⟩
        | dK kvs => obtain ⟨us, q1, q2⟩ := z2; exact ⟨us, e'.trans q1, q2.unlk hw⟩
        | dT kvs => obtain ⟨us, q1, q2⟩ := z2; exact ⟨us, e'.trans q1, q2.unlk hw⟩
        | ins C fs => obtain ⟨dx, us, q1, q2⟩ := z2; exact ⟨dx, us, e'.trans q1, q2.unlk hw⟩
        | lkK kvs => obtain ⟨od, us, q1, q2⟩ := z2; exact ⟨od, us, e'.trans q1, q2.unlk hw⟩
        | dead => exact z2
  tab := fun P hP => by
    obtain ⟨⟨ps, e, t⟩, n1, n2⟩ := r.tab P hP
    exact ⟨⟨ps, by rw [upd_ne (show P ≠ a from fun z => n2 (by rw [z]; exact List.mem_of_getElem? ha))]; exact e, t⟩, fun z => n1 z.1, n2⟩
  tls := fun p hp => by
    obtain ⟨t, n1, n2, n3⟩ := r.tls p hp
    exact ⟨TabS.at t fun w e => by rw [hw] at e; cases e; exact ⟨fun _ q => (nomatch q), fun _ q => (nomatch q)⟩, fun z => n1 z.1, n2, n3⟩
/-! ### walking a locked dict -/
def kL : Key → LV
  | .inl i => .int i
  | .inr x => .str x
theorem kL_ok (k : Key) : RV K κ H (kL k) (kV k) := by
  cases k
  · exact .int _
  · exact .str _
def itD (n : Nat) : IT := fun i L => match L[n]? with
  | some (.lkK kvs) => some ((kvs[i]?).map fun p => kL p.1)
  | _ => none
theorem Keyed.get {T : Type} : ∀ {A : List (T × LV)} {B : List (T × V)} {i : Nat} {p : T × LV}, Keyed K κ H A B → A[i]? = some p → ∃ w, B[i]? = some (p.1, w) ∧ RV K κ H p.2 w
  | _, _, 0, p, .cons g r, e => by
    cases e
    exact ⟨_, by rw [g.1]; rfl, g.2⟩
  | _, _, i + 1, p, .cons _ r, e => Keyed.get (i := i) r e
theorem itOk_keys {od : Obj} {ws : List (Key × V)} (ha : κ.ρ[n]? = some a) (hF : κ.F a) (hw : H a = some (.frz od (.dK ws))) : ItOk K (Itk a od ws) κ H (itD n) := fun κ' H' L' i u rl => by
  have hw' : H' a = some (.frz od (.dK ws)) := (u.frz a hF).2.trans hw
  unfold itD
  cases e : L'[n]? with
  | none => trivial
  | some ob =>
    cases ob with
    | lkK kvs =>
      obtain ⟨b, hb, ha', _, od', us, h1, h2⟩ := rl.at e (.ref (u.get ha)) (fun z => nomatch z)
      cases hb
      rw [hw'] at h1
      cases h1
      simp only []
      cases e2 : kvs[i]? with
      | none => exact ⟨hw', by rw [← Keyed.length h2]; exact List.getElem?_eq_none_iff.mp e2⟩
      | some p =>
        obtain ⟨w, h3, h4⟩ := Keyed.get h2 e2
        refine ⟨⟨hw', (List.getElem?_eq_some_iff.mp h3).1⟩, fun x H2 ⟨hH, k, v, hk, hx⟩ => ?_⟩
        subst hH hx
        rw [h3] at hk
        cases hk
        exact ⟨κ', Up.refl, rl, kL_ok _⟩
    | _ => trivial
def mItD (fo : Sl → M LV) : Sl → M IT := fun s L => (fo s L).bind fun x L1 => match x with
  | .ref n => (match L1[n]? with
    | some (.lkK _) => .ok (itD n) L1
    | _ => .no)
  | _ => .no
theorem qi_keys (he : QE X K W e fo) : QI X K W tg e (mItD fo) :=
  PI.weak (pi_keys he) fun σ H R ⟨κ, s, L, rs, rl, h⟩ => ⟨κ, s, L, rs, rl, (HV.bind (R := RV K) h).imp fun u H1 ⟨κ1, L1, x, up, rl1, rx, q⟩ => by
    cases x with
    | ref n =>
      simp only [] at q
      cases e : L1[n]? with
      | none => rw [e] at q; exact q.elim
      | some ob =>
        rw [e] at q
        cases ob with
        | lkK kvs =>
          obtain ⟨a, rfl, ha, hF, od, us, h1, h2⟩ := rl1.at e rx (fun z => nomatch z)
          exact ⟨a, od, rfl, .inl ⟨us, h1, q κ1 H1 _ Up.refl rl1 (itOk_keys ha hF h1)⟩⟩
        | _ => exact q.elim
    | _ => exact q.elim⟩
/-- within, the dict with the number n is locked -/
def mLock (fn : Sl → M LV) (fe : Sl → M LV) : Sl → M LV := fun s L => match fn s L with
  | .ok (.ref n) _ => (match L[n]? with
    | some (.dK kvs) => (match fe s (L.set n (.lkK kvs)) with
      | .ok v L2 => (match L2[n]? with
        | some (.lkK _) => .ok v (L2.set n (.dK kvs))
        | _ => .no)
      | _ => .no)
    | _ => .no)
  | _ => .no
theorem qe_lock {fn : Sl → M LV} (h : QE X K W0 e fe) : QE X K W e (mLock fn fe) :=
  PE.weak (pe_lock h) fun σ H Q ⟨κ, s, L, rs, rl, q⟩ => by
    unfold mLock at q
    split at q
    · rename_i n _ _
      split at q
      · rename_i kvs hn
        have hlt := (List.getElem?_eq_some_iff.mp hn).1
        obtain ⟨a, hρ⟩ : ∃ a, κ.ρ[n]? = some a := ⟨_, List.getElem?_eq_getElem (by rw [← rl.len]; exact hlt)⟩
        obtain ⟨a', ea, ha, nF, ws, h1, h2⟩ := rl.at hn (.ref hρ) (fun z => nomatch z)
        cases ea
        refine ⟨_, _, h1, trivial, fun od => ⟨κ.more a, s, L.set n (.lkK kvs), rs.up (Up.lock rl hn ha), rl.lock hn ha h1 h2, ?_⟩⟩
        cases e2 : fe s (L.set n (.lkK kvs)) with
        | ok v L2 =>
          rw [e2] at q
          simp only [] at q
          intro κ2 H2 w up rl2 rv
          have hw : H2 a = some (.frz od (.dK ws)) := ((up.frz _ (.inr rfl)).2).trans upd_same
          refine ⟨hw, ?_⟩
          cases e3 : L2[n]? with
          | none => rw [e3] at q; exact q.elim
          | some ob =>
            rw [e3] at q
            cases ob with
            | lkK kvs2 =>
              obtain ⟨b, eb, hb, _, od2, us2, g1, g2⟩ := rl2.at e3 (.ref (up.get ha)) (fun z => nomatch z)
              cases eb
              have up2 := (Up.lock (od := od) (ws := ws) rl hn ha).trans up
              have nc : ∀ w, H2 a = some w → (∀ ps, w ≠ .tbl ps) ∧ ∀ q, w ≠ LamX.CodeO a q := fun w e => by rw [hw] at e; cases e; exact ⟨fun _ q => (nomatch q), fun _ q => (nomatch q)⟩
              exact q (κ2.less a) (upd H2 a (.dK ws)) w (up2.unlk (List.mem_of_getElem? ha) nF (fun ps z => by rw [h1] at z; cases z) nc) (rl2.unlk e3 hb hw (h2.up up2)) (rv.unlk hw)
            | _ => exact q.elim
        | exc c L2 => rw [e2] at q; exact q.elim
        | no => rw [e2] at q; exact q.elim
      · exact q.elim
    · exact q.elim
end
end Q
end
section
set_option Elab.async false
set_option linter.all false
set_option maxRecDepth 100000
set_option maxHeartbeats 4000000
/-! Qs: more of lists and dicts: sum, sorted, dict(..), list(..) of a dict, isinstance, == of dicts, del -/
namespace Q
open PySem PySem.Spec L2
open PyProof.Rows (sortedS risingS)
/-! ### texts in order -/
def leS (a b : Str) : Bool := decide (¬ b.cps.toList < a.cps.toList)
def insS (x : Str) : List Str → List Str
  | [] => [x]
  | y :: r => if leS x y = true then x :: y :: r else y :: insS x r
def sortS : List Str → List Str
  | [] => []
  | x :: r => insS x (sortS r)
abbrev LeS (a b : Str) : Prop := a.cps.toList ≤ b.cps.toList
theorem leS_iff {a b : Str} : leS a b = true ↔ LeS a b := by unfold leS; rw [decide_eq_true_eq]; exact Iff.rfl
theorem LeS.tr {a b c : Str} (h : LeS a b) (g : LeS b c) : LeS a c := List.le_trans h g
theorem LeS.tot (a b : Str) : LeS a b ∨ LeS b a := List.le_total _ _
theorem LeS.anti {a b : Str} (h : LeS a b) (g : LeS b a) : a = b := by
  have e : a.cps.toList = b.cps.toList := List.le_antisymm h g
  cases a; cases b
  simp only [Str.mk.injEq]
  exact Array.toList_inj.mp e
theorem insS_perm (x : Str) : ∀ l, (insS x l).Perm (x :: l)
  | [] => .refl _
  | y :: r => by
    unfold insS
    split
    · exact .refl _
    · exact ((insS_perm x r).cons y).trans (.swap x y r)
theorem sortS_perm : ∀ l, (sortS l).Perm l
  | [] => .refl _
  | x :: r => (insS_perm x _).trans ((sortS_perm r).cons x)
theorem insS_pw (x : Str) : ∀ l, l.Pairwise LeS → (insS x l).Pairwise LeS
  | [], _ => by simp [insS]
  | y :: r, h => by
    unfold insS
    obtain ⟨h1, h2⟩ := List.pairwise_cons.mp h
    split
    · rename_i e
      have e := leS_iff.mp e
      exact List.pairwise_cons.mpr ⟨fun z hz => (List.mem_cons.mp hz).elim (fun q => q ▸ e) fun q => e.tr (h1 z q), h⟩
    · rename_i e
      have e : LeS y x := (LeS.tot x y).resolve_left fun q => e (leS_iff.mpr q)
      refine List.pairwise_cons.mpr ⟨fun z hz => ?_, insS_pw x r h2⟩
      rcases List.mem_cons.mp ((insS_perm x r).mem_iff.mp hz) with rfl | q
      · exact e
      · exact h1 z q
theorem sortS_pw : ∀ l, (sortS l).Pairwise LeS
  | [] => .nil
  | x :: r => insS_pw x _ (sortS_pw r)
theorem rising_pw : ∀ (r : List Str) (x : Str), risingS x r = true → (x :: r).Pairwise LeS
  | [], x, _ => by simp
  | y :: r, x, h => by
    unfold risingS at h
    rw [Bool.and_eq_true, PyProof.Rows.ltCps_eq] at h
    have ih := rising_pw r y h.2
    have e : LeS x y := by
      have := h.1
      simp only [Bool.not_eq_true', decide_eq_false_iff_not] at this
      exact this
    refine List.pairwise_cons.mpr ⟨fun z hz => ?_, ih⟩
    rcases List.mem_cons.mp hz with rfl | q
    · exact e
    · exact e.tr ((List.pairwise_cons.mp ih).1 z q)
theorem sorted_is {ys ks : List Str} (p : ys.Perm ks) (h : sortedS ys = true) : ys = sortS ks := by
  have pw : ys.Pairwise LeS := by
    cases ys with
    | nil => exact .nil
    | cons x r => exact rising_pw r x h
  exact List.Perm.eq_of_pairwise (le := LeS) (fun a b _ _ h1 h2 => h1.anti h2) pw (sortS_pw ks) (p.trans (sortS_perm ks).symm)
section
variable {X : Cx} {K : Kt} {κ κ' κ1 κ2 : Kp} {H H' H1 H2 : Hp} {L L' : LH} {W : WX} {σ : L2.St} {x y : LV} {u v : V} {xs : List LV} {us : List V} {e o i tg : Expr} {pos p apos cpos tpos : Pos} {fo fa fb fe : Sl → M LV} {n : Nat} {a : Addr} {kvs : List (Key × LV)}
/-! ### sums -/
def intsOf : List LV → Option (List Int)
  | [] => some []
  | .int i :: r => (intsOf r).map (i :: ·)
  | _ => none
theorem intsOf_ok : ∀ {xs : List LV} {us : List V} {ns : List Int}, RVs K κ H xs us → intsOf xs = some ns → us = ns.map V.int
  | [], _, ns, r, h => by cases r; cases h; rfl
  | x :: r, _, ns, .cons r1 r2, h => by
    cases x with
    | int i =>
      cases r1
      unfold intsOf at h
      cases e : intsOf r with
      | none => rw [e] at h; cases h
      | some zs => rw [e] at h; cases h; rw [intsOf_ok r2 e]; rfl
    | _ => cases h
def fSum : List LV → M LV := fun xs L => match xs with
  | [.fl ys] => (match intsOf ys with
    | some ns => .ok (.int ns.sum) L
    | none => .no)
  | _ => .no
theorem cq_sum (hc : X.calm = true) (hK : X.K = K.K) : CallQ X K (.builtin "sum") fSum := ⟨_, cr_sum hc, fun W κ H L xs us σ Q rl rv h => by
  unfold fSum at h
  split at h
  · obtain ⟨u, rfl, ru⟩ := rv.one
    split at h
    · rename_i ys ns e
      cases ru with
      | fl g1 g2 =>
        refine ⟨_, ns, rfl, ?_, h.now rl (.int _)⟩
        rw [← intsOf_ok g2 e]
        exact SqL.of g1.2
    · exact h.elim
  · exact h.elim⟩
/-! ### what a dict has -/
def dictAt (L : LH) (x : LV) : Option (List (Key × LV)) := match x with
  | .ref n => match L[n]? with
    | some (.dK kvs) => some kvs
    | some (.lkK kvs) => some kvs
    | _ => none
  | _ => none
theorem dictAt_ok (rl : RL K κ H L) (rx : RV K κ H x u) (h : dictAt L x = some kvs) : ∃ a ws, u = .ref a ∧ Rd H a (.dK ws) ∧ Keyed K κ H kvs ws := by
  unfold dictAt at h
  cases x with
  | ref n =>
    simp only [] at h
    cases e : L[n]? with
    | none => rw [e] at h; cases h
    | some ob =>
      rw [e] at h
      cases ob with
      | dK ks => cases h; obtain ⟨a, rfl, ha, _, ws, h1, h2⟩ := rl.at e rx (fun z => nomatch z); exact ⟨a, ws, rfl, .inl h1, h2⟩
      | lkK ks => cases h; obtain ⟨a, rfl, ha, _, od, ws, h1, h2⟩ := rl.at e rx (fun z => nomatch z); exact ⟨a, ws, rfl, .inr ⟨od, h1⟩, h2⟩
      | _ => cases h
  | _ => cases h
theorem Keyed.keys {T : Type} : ∀ {A : List (T × LV)} {B : List (T × V)}, Keyed K κ H A B → B.map (·.1) = A.map (·.1)
  | _, _, .nil => rfl
  | _, _, .cons g r => by rw [List.map_cons, List.map_cons, g.1, Keyed.keys r]
theorem keysRV : ∀ {A : List (Key × LV)} {B : List (Key × V)}, Keyed K κ H A B → RVs K κ H (A.map fun p => kL p.1) (B.map fun p => kV p.1)
  | _, _, .nil => .nil
  | p :: _, q :: _, .cons g r => .cons (by show RV K κ H (kL p.1) (kV q.1); rw [← g.1]; exact kL_ok _) (keysRV r)
def strKeys : List (Key × LV) → Option (List Str)
  | [] => some []
  | (.inr x, _) :: r => (strKeys r).map (x :: ·)
  | _ => none
theorem strKeys_ok : ∀ {A : List (Key × LV)} {ks : List Str}, strKeys A = some ks → A.map (·.1) = ks.map Sum.inr
  | [], ks, h => by cases h; rfl
  | (.inr x, _) :: r, ks, h => by
    unfold strKeys at h
    cases e : strKeys r with
    | none => rw [e] at h; cases h
    | some zs => rw [e] at h; cases h; rw [List.map_cons, strKeys_ok e]; rfl
  | (.inl i, _) :: r, ks, h => by cases h
/-- sorted(d), the keys being texts -/
def fSortD : List LV → M LV := fun xs L => match xs with
  | [x] => (match (dictAt L x).bind strKeys with
    | some ks => if ks.length < 64 then .ok (.fl ((sortS ks).map LV.str)) L else .no
    | none => .no)
  | _ => .no
theorem strs_rv : ∀ ks : List Str, RVs K κ H (ks.map LV.str) (ks.map V.str)
  | [] => .nil
  | x :: r => .cons (.str x) (strs_rv r)
theorem cq_sortD (hc : X.calm = true) : CallQ X K (.builtin "sorted") fSortD := ⟨_, call_sortedD hc, fun W κ H L xs us σ Q rl rv h => by
  unfold fSortD at h
  split at h
  · obtain ⟨u, rfl, ru⟩ := rv.one
    split at h
    · rename_i ks e
      obtain ⟨kvs, e1, e2⟩ := Option.bind_eq_some_iff.mp e
      obtain ⟨a, ws, rfl, g1, g2⟩ := dictAt_ok rl ru e1
      split at h
      · rename_i h64
        refine ⟨a, ws, ks, rfl, g1, by rw [Keyed.keys g2]; exact strKeys_ok e2, h64, fun ys p py sy hp => ?_⟩
        rw [sorted_is py sy]
        exact h (κ.more p) _ _ (Up.froz rl hp) (rl.froz hp) (new_fl rl hp (strs_rv _))
      · exact h.elim
    · exact h.elim
  · exact h.elim⟩
/-- dict(d): one of its own -/
def fDictD : List LV → M LV := fun xs L => match xs with
  | [x] => (match dictAt L x with
    | some kvs => .ok (.ref L.length) (L ++ [.dK kvs])
    | none => .no)
  | _ => .no
theorem cq_dictD : CallQ X K (.type "dict") fDictD := ⟨_, call_dictD, fun W κ H L xs us σ Q rl rv h => by
  unfold fDictD at h
  split at h
  · obtain ⟨u, rfl, ru⟩ := rv.one
    split at h
    · rename_i kvs e
      obtain ⟨a, ws, rfl, g1, g2⟩ := dictAt_ok rl ru e
      exact ⟨a, ws, rfl, g1, fun p hp => h (κ.num p) _ _ (Up.numb rl hp) (rl.numb hp ⟨ws, upd_same, g2.up (Up.numb rl hp)⟩) (new_ref rl)⟩
    · exact h.elim
  · exact h.elim⟩
/-- list(d): its keys -/
def fListD : List LV → M LV := fun xs L => match xs with
  | [x] => (match dictAt L x with
    | some kvs => .ok (.fl (kvs.map fun p => kL p.1)) L
    | none => .no)
  | _ => .no
theorem cq_listD (hc : X.calm = true) : CallQ X K (.type "list") fListD := ⟨_, call_listD hc, fun W κ H L xs us σ Q rl rv h => by
  unfold fListD at h
  split at h
  · obtain ⟨u, rfl, ru⟩ := rv.one
    split at h
    · rename_i kvs e
      obtain ⟨a, ws, rfl, g1, g2⟩ := dictAt_ok rl ru e
      exact ⟨a, ws, rfl, g1, fun p hp => h (κ.more p) _ _ (Up.froz rl hp) (rl.froz hp) (new_fl rl hp (keysRV g2))⟩
    · exact h.elim
  · exact h.elim⟩
/-- dict(pairs) -/
def pairsOf : List LV → Option (List (Key × LV))
  | [] => some []
  | .tup [k, v] :: r => match keyOf k, pairsOf r with
    | some k, some ps => some ((k, v) :: ps)
    | _, _ => none
  | _ => none
def mergeKL (kvs more : List (Key × LV)) : List (Key × LV) := more.foldl (fun acc p => putKL acc p.1 p.2) kvs
theorem merge_ok : ∀ {A : List (Key × LV)} {B : List (Key × V)} {A0 : List (Key × LV)} {B0 : List (Key × V)}, Keyed K κ H A B → Keyed K κ H A0 B0 → Keyed K κ H (mergeKL A0 A) (mergeK B0 B)
  | _, _, _, _, .nil, h => h
  | (k, _) :: _, (k', _) :: _, _, _, .cons g r, h => by
    have e : k = k' := g.1
    subst e
    have q := merge_ok r (Keyed.putV (k := k) g.2 h)
    exact q
theorem pairsOf_ok : ∀ {xs : List LV} {us : List V} {ps : List (Key × LV)}, RVs K κ H xs us → pairsOf xs = some ps → ∃ (as : List Addr) (ws : List (Key × V)), us = as.map V.ref ∧ Paired (fun p (kv : Key × V) => SqT K.K H p [kV kv.1, kv.2]) as ws ∧ Keyed K κ H ps ws
  | _, _, ps, .nil, h => by cases h; exact ⟨[], [], rfl, .nil, .nil⟩
  | x :: r, _, ps, .cons r1 r2, h => by
    cases x with
    | tup ys =>
      match ys, r1, h with
      | [k, v], r1, h =>
        unfold pairsOf at h
        split at h
        · rename_i k' ps' e1 e2
          cases h
          obtain ⟨as, ws, h1, h2, h3⟩ := pairsOf_ok r2 e2
          cases r1 with
          | @tup a _ us' g1 g2 =>
            obtain ⟨uk, uv, rfl, q1, q2⟩ := g2.two
            have ek := keyOf_ok q1 e1
            subst ek
            exact ⟨a :: as, (k', uv) :: ws, by rw [h1]; rfl, .cons (SqT.of g1.2) h2, .cons ⟨rfl, q2⟩ h3⟩
        · cases h
      | [], _, h => cases h
      | [_], _, h => cases h
      | _ :: _ :: _ :: _, _, h => cases h
    | _ => cases h
def fDictP : List LV → M LV := fun xs L => match xs with
  | [.fl ys] => (match pairsOf ys with
    | some ps => .ok (.ref L.length) (L ++ [.dK (mergeKL [] ps)])
    | none => .no)
  | _ => .no
theorem cq_dictP (hc : X.calm = true) (hK : X.K = K.K) : CallQ X K (.type "dict") fDictP := ⟨_, call_dictP hc, fun W κ H L xs us σ Q rl rv h => by
  unfold fDictP at h
  split at h
  · obtain ⟨u, rfl, ru⟩ := rv.one
    split at h
    · rename_i ys ps e
      cases ru with
      | @fl a _ us' g1 g2 =>
        obtain ⟨as, ws, h1, h2, h3⟩ := pairsOf_ok g2 e
        subst h1
        exact ⟨a, as, ws, rfl, SqL.of g1.2, by rw [hK]; exact h2, fun p hp => h (κ.num p) _ _ (Up.numb rl hp) (rl.numb hp ⟨_, upd_same, (merge_ok h3 .nil).up (Up.numb rl hp)⟩) (new_ref rl)⟩
    · exact h.elim
  · exact h.elim⟩
end
end Q
end
section
set_option Elab.async false
set_option linter.all false
set_option maxRecDepth 100000
set_option maxHeartbeats 4000000
/-! Qt: list.remove of a text, d.update(e), text * int, isinstance(x, str), == of dicts, del d[k] -/
namespace Q
open PySem PySem.Spec L2
open PyProof.Rows (StrsAre)
section
variable {X : Cx}
/-! ### in the model's words -/
def eqT (z : Str) (v : Value) : Bool := match v with
  | .str y _ => decide (y = z)
  | _ => false
theorem eqT_gives {z : Str} {t : Tok} : ∀ {us : List Value} {zs : List Str}, StrsAre us zs → ∀ y ∈ us, MeetsSeq.EqGives y (.str z t) (eqT z y)
  | _, _, .nil => fun y hy => nomatch hy
  | _, _, .cons w t' h => fun y hy => by
    rcases List.mem_cons.mp hy with rfl | e
    · exact fun _ _ _ _ _ _ q => wpAny_eqBool_str q
    · exact eqT_gives h y e
theorem mapS_erase : ∀ (l : List Str) (j : Nat), (l.map V.str).eraseIdx j = (l.eraseIdx j).map V.str
  | [], _ => by simp
  | _ :: _, 0 => by simp
  | _ :: r, j + 1 => by simp [mapS_erase r j]
theorem StrsAre.at {us : List Value} {zs : List Str} (h : StrsAre us zs) : ∀ (j : Nat) (z : Str), zs[j]? = some z → ∃ t, us[j]? = some (.str z t) := by
  induction h with
  | nil => intro j z e; simp at e
  | cons w t' h ih =>
    intro j z e
    cases j with
    | zero => simp at e; subst e; exact ⟨t', rfl⟩
    | succ j => obtain ⟨t, q⟩ := ih j z (by simpa using e); exact ⟨t, by simpa using q⟩
def rRemS : V → List V → Hp → VK → Prop := fun x xs H Q => ∃ (l : Addr) (zs : List Str) (z : Str) (j : Nat), x = .ref l ∧ xs = [.str z] ∧ H l = some (.lst (zs.map V.str)) ∧ zs[j]? = some z ∧ (∀ m : Nat, m < j → zs[m]? ≠ some z) ∧ Q .non (upd H l (.lst ((zs.eraseIdx j).map V.str)))
theorem mt_removeS : MtR X "list.remove" rRemS := by
  intro pins s σ H x xs v us Q I rx rxs ⟨l, zs, z, j, e1, e2, hH, hj, no, q⟩
  subst e1 e2
  cases rx
  obtain ⟨u, rfl, t, rfl⟩ := rxs.one
  obtain ⟨hz, its, n, r, hl, e⟩ := I.lstM hH
  have hi := Vals.strs r
  rw [List.length_map] at hl hz
  have jn : j < zs.length := (List.getElem?_eq_some_iff.mp hj).1
  have jl : j < its.toArray.size := by rw [List.size_toArray]; omega
  have there : ∀ m : Nat, ∀ hm : m < its.toArray.size, ∀ y, zs[m]? = some y → ∃ t, its.toArray[m] = .str y t := fun m hm y ey => by
    obtain ⟨t, et⟩ := StrsAre.at hi m y ey
    obtain ⟨_, h2⟩ := List.getElem?_eq_some_iff.mp et
    exact ⟨t, by simpa using h2⟩
  refine call_meets PySem.F.slot_list_remove ⟨_, e, rfl⟩ PySem.F.entry_list_remove (PySem.F.args_list_remove_2 _ _)
    (MeetsSeq.list_remove l its.toArray n (.str z t) (eqT z) (fun y hy => eqT_gives hi y (by simpa using hy)) j jl ?_ ?_ (by rw [List.size_toArray]; omega)) ⟨e, ?_⟩
  · obtain ⟨t, et⟩ := there j jl z hj
    rw [et]
    exact decide_eq_true rfl
  · intro m hm hmj
    have mn : m < zs.length := by omega
    obtain ⟨t, et⟩ := there m hm _ (List.getElem?_eq_getElem mn)
    rw [et]
    exact decide_eq_false fun w => no m hmj (by rw [List.getElem?_eq_getElem mn, w])
  · have rr := r.eraseIdx j
    rw [mapS_erase] at rr
    refine ⟨.non, _, I.lset (its' := its.eraseIdx j) (t' := s.toks) hH e ?_ rr ?_, rfl, q⟩
    · show its.toArray.eraseIdxIfInBounds j = (its.eraseIdx j).toArray
      rw [List.eraseIdxIfInBounds_toArray]
    · rw [List.length_map]
      exact Nat.le_trans (List.length_eraseIdx_le _ _) hz
def rUpdD : V → List V → Hp → VK → Prop := fun x xs H Q => ∃ (d e : Addr) (A B : List (Key × V)), x = .ref d ∧ xs = [.ref e] ∧ H d = some (.dK A) ∧ Rd H e (.dK B) ∧ d ≠ e ∧ A.length + B.length ≤ sizeLine ∧ Q .non (upd H d (.dK (mergeK A B)))
theorem putK_length (A : List (Key × V)) (k : Key) (v : V) : (putK A k v).length ≤ A.length + 1 := length_putK A k v
theorem mergeK_len : ∀ (B A : List (Key × V)), (mergeK A B).length ≤ A.length + B.length
  | [], A => Nat.le_refl _
  | p :: r, A => by
    show (mergeK (putK A p.1 p.2) r).length ≤ _
    have h1 := mergeK_len r (putK A p.1 p.2)
    have h2 := putK_length A p.1 p.2
    rw [List.length_cons]
    omega
theorem mt_updD : MtR X "dict.update" rUpdD := by
  intro pins s σ H x xs v us Q I rx rxs ⟨d, e, A, B, e1, e2, hd, he, ne, hz, q⟩
  subst e1 e2
  cases rx
  obtain ⟨u, rfl, ru⟩ := rxs.one
  cases ru
  obtain ⟨zA, yA, va, ra, da⟩ := dk_of I.hok hd
  obtain ⟨zB, yB, vb, rb, db⟩ := dk_rd I.hok he
  refine call_meetsIn PySem.F.slot_dict_update da.typeIs PySem.F.entry_dict_update (PySem.F.args_dict_update_2 _ _) (PySem.meets_dict_update (mixKind X.prog X.w) d e ne yB)
    ⟨va, vb, da, db, by rw [← ra.length, ← rb.length]; exact hz, fun h' dm _ hs => ?_⟩
  have hx : ∃ w, h'.get? d = some w := let ⟨w, _, _, hw, _⟩ := dm; ⟨w, hw⟩
  refine ⟨.non, _, I.write (t' := s.toks) (by rw [hd]; exact True.intro) (.inl rfl) (fun b o hb eb => (hs.2 b hb).trans eb) hx ?_, rfl, q⟩
  exact dk_new (Nat.le_trans (mergeK_len B A) hz) yA (KV.merge rb ra) dm
def repS (z : Str) (k : Int) : Str := if k < 1 then Str.empty else if (k == 1 || z.length == 0) = true then z else ⟨(List.replicate k.toNat z.cps).foldl (· ++ ·) #[]⟩
def rRepS : R2 := fun x y H Q => ∃ (z : Str) (k : Int), x = .str z ∧ y = .int k ∧ -1000 < k ∧ k < 1000 ∧ z.length ≤ 1000 ∧ Q (.str (repS z k)) H
theorem op_repS : OpR X (binaryOp .Mult) rRepS := by
  intro pins s σ H x y v u Q I rx ry ⟨z, k, e1, e2, k0, k1, hz, q⟩
  subst e1 e2
  obtain ⟨t, rfl⟩ := rx
  obtain ⟨t', rfl⟩ := ry
  refine PySem.P.mul_str ?_ ?_ ?_ ?_
  · have h1 : ¬ k < -(2 ^ 63 : Int) := by omega
    have h2 : ¬ k ≥ 2 ^ 63 := by omega
    rw [decide_eq_false h1, decide_eq_false h2]; rfl
  · intro h1 _ h2
    have : (2 ^ 63 - 1 : Int) / k ≥ 1000 := by
      refine (Int.le_ediv_iff_mul_le (by omega)).mpr ?_
      omega
    omega
  · intro h1 _
    exact decide_eq_false (by
      rw [sizeLine_eq]
      have : z.length * k.toNat ≤ 1000 * 1000 := Nat.mul_le_mul hz (by omega)
      omega)
  · have fin : ∀ w : Str, Q (.str w) H → EP X pins σ Q (.str w s.toks) { s with toks := s.toks + 1 } := fun w q => ⟨.str w, H, I.tok _, ⟨_, rfl⟩, q⟩
    unfold repS at q
    by_cases h1 : k < 1
    · rw [if_pos h1] at q ⊢
      exact ⟨by decide, fin _ q⟩
    · rw [if_neg h1] at q ⊢
      by_cases h2 : (k == 1 || z.length == 0) = true
      · rw [if_pos h2] at q ⊢
        exact ⟨.str z, H, I, ⟨t, rfl⟩, q⟩
      · rw [if_neg h2] at q ⊢
        refine ⟨fits_reps (decide_eq_false ?_), fin _ q⟩
        rw [sizeLine_eq]
        have : z.length * k.toNat ≤ 1000 * 1000 := Nat.mul_le_mul hz (by omega)
        omega
end
section
variable {X : Cx} {K : Kt} {κ κ' κ1 κ2 : Kp} {H H' H1 H2 : Hp} {L L' : LH} {W : WX} {σ : L2.St} {x y : LV} {u v : V} {xs : List LV} {us : List V} {e o i tg : Expr} {es : List Expr} {pos p apos cpos tpos : Pos} {fo fa fb fe : Sl → M LV} {fs : Sl → M (List LV)} {n : Nat} {a : Addr} {kvs : List (Key × LV)}
/-! ### over values -/
/-- text * int -/
def gRepS : LV → LV → M LV := fun x y L => match x, y with
  | .str z, .int k => if -1000 < k ∧ k < 1000 ∧ z.length ≤ 1000 then .ok (.str (repS z k)) L else .no
  | _, _ => .no
theorem oq_repS : OpQ X K (binaryOp .Mult) gRepS := ⟨_, op_repS, fun W κ H L x y u v σ Q rl rx ry h => by
  unfold gRepS at h
  split at h
  · split at h
    · rename_i hc
      cases rx; cases ry
      exact ⟨_, _, rfl, rfl, hc.1, hc.2.1, hc.2.2, h.now rl (.str _)⟩
    · exact h.elim
  · exact h.elim⟩
/-- xs.remove(text) -/
def gRemoveS : LV → List LV → M LV := fun x xs L => match xs with
  | [.str z] => (match x with
    | .ref n => (match L[n]? with
      | some (.lst ys) => (match strsOf ys with
        | some zs => if zs.contains z = true then .ok .non (L.set n (.lst ((zs.erase z).map LV.str))) else .no
        | none => .no)
      | _ => .no)
    | _ => .no)
  | _ => .no
theorem first_at {z : Str} : ∀ {zs : List Str}, zs.contains z = true → ∃ j, zs[j]? = some z ∧ (∀ m : Nat, m < j → zs[m]? ≠ some z) ∧ zs.eraseIdx j = zs.erase z
  | [], h => by simp at h
  | y :: r, h => by
    by_cases e : y = z
    · subst e; exact ⟨0, rfl, fun m hm => absurd hm (Nat.not_lt_zero m), by simp⟩
    · have h' : r.contains z = true := by
        simp only [List.contains_cons, Bool.or_eq_true, beq_iff_eq] at h
        exact h.resolve_left fun w => e w.symm
      obtain ⟨j, h1, h2, h3⟩ := first_at h'
      refine ⟨j + 1, h1, fun m hm => ?_, by rw [List.eraseIdx_cons_succ, h3, List.erase_cons_tail (by simpa using e)]⟩
      cases m with
      | zero => intro w; exact e (Option.some.inj w)
      | succ m => exact h2 m (by omega)
theorem mq_removeS : MtQ X K "list.remove" gRemoveS := ⟨_, mt_removeS, fun W κ H L x vs u us σ Q rl rx rv h => by
  unfold gRemoveS at h
  split at h
  · rename_i z
    obtain ⟨v, rfl, r1⟩ := rv.one
    cases r1
    split at h
    · rename_i n
      split at h
      · rename_i ys hn
        split at h
        · rename_i zs es
          split at h
          · rename_i hc
            obtain ⟨a, rfl, ha, _, ws, g1, g2⟩ := rl.at hn rx (fun z => nomatch z)
            have ew := strsOf_ok g2 es
            subst ew
            obtain ⟨j, h1, h2, h3⟩ := first_at hc
            refine ⟨a, zs, z, j, rfl, rfl, g1, h1, h2, ?_⟩
            rw [h3]
            exact h κ _ _ (Up.chg rl hn (fun z => nomatch z) ha) (rl.chg hn (fun z => nomatch z) ha ⟨_, upd_same, strs_rv _⟩) .non
          · exact h.elim
        · exact h.elim
      · exact h.elim
    · exact h.elim
  · exact h.elim⟩
/-- d.update(e) -/
def gUpdD : LV → List LV → M LV := fun x xs L => match xs with
  | [y] => (match x, y with
    | .ref n, .ref m => (match L[n]?, L[m]? with
      | some (.dK A), some (.dK B) => if n ≠ m ∧ A.length + B.length ≤ 1000000 then .ok .non (L.set n (.dK (mergeKL A B))) else .no
      | _, _ => .no)
    | _, _ => .no)
  | _ => .no
theorem mq_updD : MtQ X K "dict.update" gUpdD := ⟨_, mt_updD, fun W κ H L x vs u us σ Q rl rx rv h => by
  unfold gUpdD at h
  split at h
  · obtain ⟨v, rfl, r1⟩ := rv.one
    split at h
    · rename_i n m
      split at h
      · rename_i A B hn hm
        split at h
        · rename_i hc
          obtain ⟨a, rfl, ha, _, wa, g1, g2⟩ := rl.at hn rx (fun z => nomatch z)
          obtain ⟨b, rfl, hb, _, wb, g3, g4⟩ := rl.at hm r1 (fun z => nomatch z)
          have nab : a ≠ b := fun z => hc.1 (L2.nd_ix rl.nd ha (z ▸ hb))
          have up := Up.chg (ho := .dK (mergeK wa wb)) rl hn (fun z => nomatch z) ha
          refine ⟨a, b, wa, wb, rfl, rfl, g1, .inl g3, nab, by rw [← Keyed.length g2, ← Keyed.length g4, sizeLine_eq]; omega, ?_⟩
          exact h κ _ _ up (rl.chg hn (fun z => nomatch z) ha ⟨_, upd_same, (merge_ok g4 g2).up up⟩) .non
        · exact h.elim
      · exact h.elim
    · exact h.elim
  · exact h.elim⟩
/-- isinstance(x, str) -/
def isStrL : LV → Option Bool
  | .str _ => some true
  | .int _ => some false
  | .bl _ => some false
  | .non => some false
  | _ => none
def fIsi : List LV → M LV := fun xs L => match xs with
  | [x, .ty t] => if t = "str" then (match isStrL x with
    | some b => .ok (.bl b) L
    | none => .no) else .no
  | _ => .no
theorem cq_isi : CallQ X K (.builtin "isinstance") fIsi := ⟨_, call_isi, fun W κ H L xs us σ Q rl rv h => by
  unfold fIsi at h
  split at h
  · rename_i x t
    obtain ⟨u, v, rfl, r1, r2⟩ := rv.two
    split at h
    · rename_i et
      subst et
      cases r2
      cases x with
      | str z => cases r1; exact ⟨_, _, _, _, true, rfl, .ty _, .base (.str _), kit_ty (by decide +kernel), h.now rl (.bl _)⟩
      | int z => cases r1; exact ⟨_, _, _, _, false, rfl, .ty _, .base (.int _), kit_ty (by decide +kernel), h.now rl (.bl _)⟩
      | bl z => cases r1; exact ⟨_, _, _, _, false, rfl, .ty _, .base (.bl _), kit_ty (by decide +kernel), h.now rl (.bl _)⟩
      | non => cases r1; exact ⟨_, _, _, _, false, rfl, .ty _, .base .non, kit_ty (by decide +kernel), h.now rl (.bl _)⟩
      | _ => exact h.elim
    · exact h.elim
  · exact h.elim⟩
/-- == of dicts with flat values: only where they are the same -/
def flat1 : LV → Bool
  | .non => true | .bl _ => true | .int _ => true | .str _ => true | _ => false
def eqLV : LV → LV → Bool
  | .non, .non => true
  | .bl a, .bl b => decide (a = b)
  | .int a, .int b => decide (a = b)
  | .str a, .str b => decide (a = b)
  | _, _ => false
def sameD (A B : List (Key × LV)) : Bool := decide (A.length = B.length) && A.all fun p => match lookK B p.1 with
  | some v => eqLV v p.2
  | none => false
theorem eqLV_ok (rx : RV K κ H x u) (ry : RV K κ H y v) (h : eqLV x y = true) : u = v ∧ flatB v = true := by
  cases x <;> cases y <;> first
    | (cases rx; cases ry; exact ⟨rfl, rfl⟩)
    | (cases rx; cases ry; have := of_decide_eq_true h; subst this; exact ⟨rfl, rfl⟩)
    | exact absurd h (by simp [eqLV])
theorem sameD_ok {A B : List (Key × LV)} {wa wb : List (Key × V)} (ka : Keyed K κ H A wa) (kb : Keyed K κ H B wb) (h : sameD A B = true) : wa.length = wb.length ∧ ∀ p ∈ wa, valV wb p.1 = some p.2 ∧ flatB p.2 = true := by
  unfold sameD at h
  rw [Bool.and_eq_true, decide_eq_true_eq, List.all_eq_true] at h
  refine ⟨by rw [← Keyed.length ka, ← Keyed.length kb]; exact h.1, ?_⟩
  have go : ∀ {A : List (Key × LV)} {wa : List (Key × V)}, Keyed K κ H A wa → (∀ p ∈ A, (match lookK B p.1 with | some v => eqLV v p.2 | none => false) = true) → ∀ p ∈ wa, valV wb p.1 = some p.2 ∧ flatB p.2 = true := by
    intro A wa ka
    induction ka with
    | nil => intro _ p hp; exact absurd hp (by simp)
    | @cons p q _ _ g r ih =>
      intro hA w hw
      rcases List.mem_cons.mp hw with rfl | hw
      · have e := hA p List.mem_cons_self
        have lk := kb.lookV (k := p.1)
        cases el : lookK B p.1 with
        | none => rw [el] at e; cases e
        | some v =>
          rw [el] at e lk
          rw [← g.1]
          cases ev : valV wb p.1 with
          | none => rw [ev] at lk; exact lk.elim
          | some v' =>
            rw [ev] at lk
            obtain ⟨e1, e2⟩ := eqLV_ok lk g.2 e
            exact ⟨by rw [e1], e2⟩
      · exact ih (fun p hp => hA p (List.mem_cons_of_mem _ hp)) w hw
  exact go ka h.2
def gEqD (neg : Bool) : LV → LV → M LV := fun x y L => match x, y with
  | .ref n, .ref m => (match L[n]?, L[m]? with
    | some (.dK A), some (.dK B) => if sameD A B = true then .ok (.bl (!neg)) L else .no
    | _, _ => .no)
  | _, _ => .no
theorem gEqD_ok {neg : Bool} {Q : VK} (rl : RL K κ H L) (rx : RV K κ H x u) (ry : RV K κ H y v) (h : HV K W σ κ H (RV K) (gEqD neg x y L) Q) : ∃ a b ks ls, u = .ref a ∧ v = .ref b ∧ H a = some (.dK ks) ∧ H b = some (.dK ls) ∧ ks.length = ls.length ∧ (∀ p ∈ ks, valV ls p.1 = some p.2 ∧ flatB p.2 = true) ∧ Q (.bl (!neg)) H := by
  unfold gEqD at h
  split at h
  · rename_i n m
    split at h
    · rename_i A B hn hm
      split at h
      · rename_i hc
        obtain ⟨a, rfl, ha, _, wa, g1, g2⟩ := rl.at hn rx (fun z => nomatch z)
        obtain ⟨b, rfl, hb, _, wb, g3, g4⟩ := rl.at hm ry (fun z => nomatch z)
        obtain ⟨h1, h2⟩ := sameD_ok g2 g4 hc
        exact ⟨a, b, wa, wb, rfl, rfl, g1, g3, h1, h2, h.now rl (.bl _)⟩
      · exact h.elim
    · exact h.elim
  · exact h.elim
theorem oq_eqD (hu : X.A.units < cLine) : OpQ X K (compareOp .Eq) (gEqD false) := ⟨_, op_eq_dictA hu, fun W κ H L x y u v σ Q rl rx ry h => gEqD_ok rl rx ry h⟩
theorem oq_neD (hu : X.A.units < cLine) : OpQ X K (compareOp .NotEq) (gEqD true) := ⟨_, op_ne_dictA hu, fun W κ H L x y u v σ Q rl rx ry h => gEqD_ok rl rx ry h⟩
/-- del d[k], which is there -/
def mDDel (fd fy : Sl → M LV) : MS := fun s L => lift s (fun x L1 => lift s (fun y L2 => match x, keyOf y with
  | .ref n, some k => (match L2[n]? with
    | some (.dK A) => if (lookK A k).isSome = true then .next s (L2.set n (.dK (dropKL A k))) else .no
    | _ => .no)
  | _, _ => .no) (fy s L1)) (fd s L)
theorem qs_ddel (ho : QE X K W o fo) (hi : QE X K W i fb) : QS X K W (.Delete [.Subscript o i tpos] pos) (mDDel fo fb) :=
  PS.weak (ps_ddel ho hi) fun D σ H ⟨κ, s, L, rs, rl, h⟩ => ⟨κ, s, L, rs, rl, (HS.lift (R := RV K) rs h).imp fun u H1 ⟨κ1, L1, x, up, rl1, rx, q⟩ => ⟨κ1, s, L1, rs.up up, rl1, (HS.lift (R := RV K) (rs.up up) q).imp fun v H2 ⟨κ2, L2, y, up2, rl2, ry, q2⟩ => by
    cases x with
    | ref n =>
      cases ek : keyOf y with
      | none => rw [ek] at q2; exact q2.elim
      | some k =>
        rw [ek] at q2
        simp only [] at q2
        split at q2
        · rename_i A hn
          split at q2
          · rename_i hc
            obtain ⟨a, rfl, ha, _, wa, g1, g2⟩ := rl2.at hn (rx.up up2) (fun z => nomatch z)
            have up3 := Up.chg (ho := .dK (dropK wa k)) rl2 hn (fun z => nomatch z) ha
            exact ⟨a, wa, k, rfl, g1, keyOf_ok ry ek, by rw [(g2.lookV).isSome]; exact hc, q2 κ2 _ σ up3 (rl2.chg hn (fun z => nomatch z) ha ⟨_, upd_same, (Keyed.dropV g2).up up3⟩) (((rs.up up).up up2).up up3)⟩
          · exact q2.elim
        · exact q2.elim
    | _ => exact q2.elim⟩⟩
end
end Q
end
section
set_option Elab.async false
set_option linter.all false
set_option maxRecDepth 100000
set_option maxHeartbeats 4000000
/-! Qu: entries of dicts walked, listed, displayed; comprehensions of dicts; loops over dicts; a def under its own lambdas -/
namespace Q
open PySem PySem.Spec L2
open PyProof.Rows (envOfC)
section
variable {X : Cx} {K : Kt} {κ κ' κ1 κ2 : Kp} {H H' H1 H2 : Hp} {L L' : LH} {W : WX} {σ : L2.St} {x y : LV} {u v : V} {xs : List LV} {us : List V} {e o i tg iter kx vx value : Expr} {es ifs elts : List Expr} {pos p apos cpos tpos p2 : Pos} {fo fa fb fe fk fv : Sl → M LV} {fs : Sl → M (List LV)} {ft : Sl → M Bool} {fi : Sl → M IT} {n kk : Nat} {a : Addr} {kvs : List (Key × LV)} {gg : LV → Sl → Option Sl} {ix : List Nat}
/-! ### entries -/
def itDI (n : Nat) : IT := fun i L => match L[n]? with
  | some (.lkK kvs) => some ((kvs[i]?).map fun p => .tup [kL p.1, p.2])
  | _ => none
theorem itOk_items {od : Obj} {ws : List (Key × V)} (ha : κ.ρ[n]? = some a) (hF : κ.F a) (hw : H a = some (.frz od (.dK ws))) : ItOk K (Iti a od ws) κ H (itDI n) := fun κ' H' L' i u rl => by
  have hw' : H' a = some (.frz od (.dK ws)) := (u.frz a hF).2.trans hw
  unfold itDI
  cases e : L'[n]? with
  | none => trivial
  | some ob =>
    cases ob with
    | lkK kvs =>
      obtain ⟨b, hb, ha', _, od', us, h1, h2⟩ := rl.at e (.ref (u.get ha)) (fun z => nomatch z)
      cases hb
      rw [hw'] at h1
      cases h1
      simp only []
      cases e2 : kvs[i]? with
      | none => exact ⟨hw', by rw [← Keyed.length h2]; exact List.getElem?_eq_none_iff.mp e2⟩
      | some p =>
        obtain ⟨w, h3, h4⟩ := Keyed.get h2 e2
        refine ⟨⟨hw', (List.getElem?_eq_some_iff.mp h3).1⟩, fun x H2 ⟨T, k, v, hk, hx, hT, hH⟩ => ?_⟩
        subst hH hx
        rw [h3] at hk
        cases hk
        exact ⟨κ'.more T, Up.froz rl hT, rl.froz hT, new_tup rl hT (.cons (kL_ok _) (.cons h4 .nil))⟩
    | _ => trivial
def mItDI (fo : Sl → M LV) : Sl → M IT := fun s L => (fo s L).bind fun x L1 => match x with
  | .ref n => (match L1[n]? with
    | some (.lkK _) => .ok (itDI n) L1
    | _ => .no)
  | _ => .no
theorem qi_items (he : QE X K W e fo) (hbase : attributeBase e "items" X.env (eval e X.env) = eval e X.env := by rfl) (hline : (apos.endLine == cpos.line) = true := by rfl) : QI X K W (.Tuple elts kk tpos) (.Call (.Attribute e "items" apos) [] [] cpos) (mItDI fo) :=
  PI.weak (pi_items he hbase hline) fun σ H R ⟨κ, s, L, rs, rl, h⟩ => ⟨κ, s, L, rs, rl, (HV.bind (R := RV K) h).imp fun u H1 ⟨κ1, L1, x, up, rl1, rx, q⟩ => by
    cases x with
    | ref n =>
      simp only [] at q
      cases e : L1[n]? with
      | none => rw [e] at q; exact q.elim
      | some ob =>
        rw [e] at q
        cases ob with
        | lkK kvs =>
          obtain ⟨a, rfl, ha, hF, od, us, h1, h2⟩ := rl1.at e rx (fun z => nomatch z)
          exact ⟨a, od, us, rfl, h1, q κ1 H1 _ Up.refl rl1 (itOk_items ha hF h1)⟩
        | _ => exact q.elim
    | _ => exact q.elim⟩
/-! ### loops over a locked dict -/
theorem RS.unlk {s : Sl} {od : Obj} {ws ws' : List (Key × V)} (r : RS K κ H s σ) (h : H a = some (.frz od (.dK ws))) : RS K (κ.less a) (upd H a (.dK ws')) s σ := ⟨r.1, fun i v e => let ⟨u, e1, q⟩ := r.2 i v e; ⟨u, e1, q.unlk h⟩⟩
def unL (n : Nat) (kvs : List (Key × LV)) (L : LH) : Option LH := match L[n]? with
  | some (.lkK _) => some (L.set n (.dK kvs))
  | _ => none
def mLockS (fn : Sl → M LV) (f : MS) : MS := fun s L => match fn s L with
  | .ok (.ref n) _ => (match L[n]? with
    | some (.dK kvs) => (match f s (L.set n (.lkK kvs)) with
      | .next s2 L2 => (match unL n kvs L2 with
        | some L3 => .next s2 L3
        | none => .no)
      | .ret v L2 => (match unL n kvs L2 with
        | some L3 => .ret v L3
        | none => .no)
      | _ => .no)
    | _ => .no)
  | _ => .no
theorem qs_lock {st : Stmt} {f : MS} {fn : Sl → M LV} (h : QS X K W0 st f) : QS X K W st (mLockS fn f) :=
  PS.weak (ps_lock h) fun D σ H ⟨κ, s, L, rs, rl, q⟩ => by
    unfold mLockS at q
    split at q
    · rename_i n _ _
      split at q
      · rename_i kvs hn
        have hlt := (List.getElem?_eq_some_iff.mp hn).1
        obtain ⟨a, hρ⟩ : ∃ a, κ.ρ[n]? = some a := ⟨_, List.getElem?_eq_getElem (by rw [← rl.len]; exact hlt)⟩
        obtain ⟨a', ea, ha, nF, ws, h1, h2⟩ := rl.at hn (.ref hρ) (fun z => nomatch z)
        cases ea
        refine ⟨_, _, h1, trivial, fun od => ⟨κ.more a, s, L.set n (.lkK kvs), rs.up (Up.lock rl hn ha), rl.lock hn ha h1 h2, ?_⟩⟩
        have back : ∀ {κ2 : Kp} {H2 : Hp} {L2 L3 : LH}, Up K (κ.more a) (upd H a (.frz od (.dK ws))) κ2 H2 → RL K κ2 H2 L2 → unL n kvs L2 = some L3 → H2 a = some (.frz od (.dK ws)) ∧ Up K κ H (κ2.less a) (upd H2 a (.dK ws)) ∧ RL K (κ2.less a) (upd H2 a (.dK ws)) L3 := fun {κ2 H2 L2 L3} up rl2 e => by
          have hw : H2 a = some (.frz od (.dK ws)) := ((up.frz _ (.inr rfl)).2).trans upd_same
          unfold unL at e
          cases e3 : L2[n]? with
          | none => rw [e3] at e; cases e
          | some ob =>
            rw [e3] at e
            cases ob with
            | lkK kvs2 =>
              cases e
              obtain ⟨b, eb, hb, _, od2, us2, g1, g2⟩ := rl2.at e3 (.ref (up.get ha)) (fun z => nomatch z)
              cases eb
              have up2 := (Up.lock (od := od) (ws := ws) rl hn ha).trans up
              have nc : ∀ w, H2 a = some w → (∀ ps, w ≠ .tbl ps) ∧ ∀ q, w ≠ LamX.CodeO a q := fun w e => by rw [hw] at e; cases e; exact ⟨fun _ q => (nomatch q), fun _ q => (nomatch q)⟩
              exact ⟨hw, up2.unlk (List.mem_of_getElem? ha) nF (fun ps z => by rw [h1] at z; cases z) nc, rl2.unlk e3 hb hw (h2.up up2)⟩
            | _ => cases e
        cases e2 : f s (L.set n (.lkK kvs)) with
        | next s2 L2 =>
          rw [e2] at q
          simp only [] at q
          intro κ2 H2 σ2 up rl2 rs2
          cases e3 : unL n kvs L2 with
          | none => rw [e3] at q; exact q.elim
          | some L3 =>
            rw [e3] at q
            obtain ⟨hw, up3, rl3⟩ := back up rl2 e3
            exact ⟨hw, q _ _ σ2 up3 rl3 (rs2.unlk hw)⟩
        | ret v L2 =>
          rw [e2] at q
          simp only [] at q
          intro κ2 H2 w up rl2 rv
          cases e3 : unL n kvs L2 with
          | none => rw [e3] at q; exact q.elim
          | some L3 =>
            rw [e3] at q
            obtain ⟨hw, up3, rl3⟩ := back up rl2 e3
            exact ⟨hw, q _ _ w up3 rl3 (rv.unlk hw)⟩
        | _ => rw [e2] at q; exact q.elim
      · exact q.elim
    · exact q.elim
/-! ### list(d.items()) -/
def mListI (fo : Sl → M LV) : Sl → M LV := fun s L => (fo s L).bind fun x L1 => match x with
  | .ref n => (match L1[n]? with
    | some (.dK kvs) => .ok (.fl (kvs.map fun p => .tup [kL p.1, p.2])) L1
    | _ => .no)
  | _ => .no
theorem Up.plus {F2 : Addr → Prop} (h : ∀ b o, H b = some o → H' b = some o) (hF : ∀ b, F2 b → H b = none) : Up K κ H ⟨κ.ρ, fun b => κ.F b ∨ F2 b⟩ H' → True := fun _ => trivial
theorem up_ext {F2 : Addr → Prop} (r : RL K κ H L) (h : ∀ b o, H b = some o → H' b = some o) (hF : ∀ b, F2 b → H b = none) : Up K κ H ⟨κ.ρ, fun b => κ.F b ∨ F2 b⟩ H' :=
  ⟨⟨[], by simp⟩, fun _ q => .inl q, fun b q => ⟨.inl q, by
    cases e : H b with
    | none => exact absurd e (r.fz b q)
    | some o => exact h b o e⟩, fun b o e _ => .inr (h b o e), fun b ps e => ⟨#[], by rw [h b _ e]; simp, by simp⟩, fun b q => q.imp id fun z => .inl (hF b z), fun p _ t => t.ext h⟩
theorem rl_ext {F2 : Addr → Prop} (r : RL K κ H L) (h : ∀ b o, H b = some o → H' b = some o) (hF : ∀ b, F2 b → H b = none) (hz : ∀ b, F2 b → H' b ≠ none) : RL K ⟨κ.ρ, fun b => κ.F b ∨ F2 b⟩ H' L :=
  r.up (up_ext r h hF) rfl (fun b hb => by
    cases e : H b with
    | none => exact absurd e (r.liv b hb)
    | some o => exact h b o e) (fun b q => q.imp id fun z => r.notρ (hF b z)) fun b q => q.elim (fun q => by
      cases e : H b with
      | none => exact absurd e (r.fz b q)
      | some o => rw [h b o e]; exact fun z => nomatch z) (hz b)
theorem qe_listI (hc : X.calm = true) (he : QE X K W e fo) (hg : Gl X "list") (hm : X.mg "list" = none) (hv : bootBuiltins "list" = some (.type "list")) (hbase : attributeBase e "items" X.env (eval e X.env) = eval e X.env := by rfl) (hline : (apos.endLine == cpos.line) = true := by rfl)
    (hs : starEach [.Call (.Attribute e "items" apos) [] [] cpos] X.env = (false, eval (.Call (.Attribute e "items" apos) [] [] cpos) X.env) :: starEach [] X.env := by rfl) : QE X K W (.Call (.Name "list" p) [.Call (.Attribute e "items" apos) [] [] cpos] [] pos) (mListI fo) :=
  PE.weak (LiI.pe_listItems hc he hg hm hv hbase hline hs) fun σ H Q ⟨κ, s, L, rs, rl, h⟩ => ⟨κ, s, L, rs, rl, (HV.bind (R := RV K) h).imp fun u H1 ⟨κ1, L1, x, up, rl1, rx, q⟩ => by
    cases x with
    | ref n =>
      simp only [] at q
      cases e : L1[n]? with
      | none => rw [e] at q; exact q.elim
      | some ob =>
        rw [e] at q
        cases ob with
        | dK kvs =>
          obtain ⟨a, rfl, ha, hF, ws, h1, h2⟩ := rl1.at e rx (fun z => nomatch z)
          refine ⟨a, ws, rfl, h1, fun H' p ts hx hp hts np ep pr => ?_⟩
          have hF2 : ∀ b, (b = p ∨ b ∈ ts) → H1 b = none := fun b q => q.elim (fun z => by rw [z]; exact hp) (hts b)
          have there : ∀ {ts : List Addr} {ws : List (Key × V)}, Paired (fun (t : Addr) (q : Key × V) => H' t = some (.tup [kV q.1, q.2])) ts ws → ∀ t ∈ ts, H' t ≠ none := by
            intro ts ws pr
            induction pr with
            | nil => intro t ht; exact absurd ht (by simp)
            | cons g r ih => intro t ht; rcases List.mem_cons.mp ht with rfl | ht; · rw [g]; exact fun z => nomatch z
                             · exact ih t ht
          have u2 := up_ext (F2 := fun b => b = p ∨ b ∈ ts) rl1 hx hF2
          refine q _ H' _ u2 (rl_ext rl1 hx hF2 fun b q => q.elim (fun z => by rw [z, ep]; exact fun z => nomatch z) (there pr b)) (.fl ⟨.inr (.inl rfl), ep⟩ ?_)
          have go : ∀ {ts' : List Addr} {ws' : List (Key × V)} {ks : List (Key × LV)}, (∀ t ∈ ts', t ∈ ts) → Paired (fun (t : Addr) (q : Key × V) => H' t = some (.tup [kV q.1, q.2])) ts' ws' → Keyed K κ1 H1 ks ws' → RVs K ⟨κ1.ρ, fun b => κ1.F b ∨ (b = p ∨ b ∈ ts)⟩ H' (ks.map fun p => .tup [kL p.1, p.2]) (ts'.map V.ref) := by
            intro ts' ws' ks hsub pr
            induction pr generalizing ks with
            | nil => intro k; cases k; exact .nil
            | @cons t w _ _ g r ih =>
              intro k
              cases k with
              | @cons pk _ _ _ g2 r2 =>
                refine .cons (.tup ⟨.inr (.inr (hsub t List.mem_cons_self)), g⟩ (.cons ?_ (.cons (g2.2.up u2) .nil))) (ih (fun t ht => hsub t (List.mem_cons_of_mem _ ht)) r2)
                rw [← g2.1]
                exact kL_ok _
          exact go (fun t ht => ht) pr h2
        | _ => exact q.elim
    | _ => exact q.elim⟩
/-! ### o[i], x = a, b -/
def mAsgSN (fo fi fe : Sl → M LV) (gg : LV → Sl → Option Sl) : MS := fun s L => lift s (fun x L1 => match x with
  | .tup [v, w] => lift s (fun z L2 => lift s (fun y L3 => match dPut L3 z y v, gg w s with
    | some L4, some s' => .next s' L4
    | _, _ => .no) (fi s L2)) (fo s L1)
  | _ => .no) (fe s L)
theorem qs_asgSN (hK : X.K = K.K) (hc : X.calm = true) (hu : X.A.units + 1 < cLine) (he : QE X K W value fe) (ho : QE X K W o fo) (hi : QE X K W i fa) (hg : QG X K tg gg ix)
    (hs : swapsWithSole [.Tuple [.Subscript o i p2, tg] kk tpos] value pos.line X.env = pure false := by rfl) (hw : swappedStores [.Tuple [.Subscript o i p2, tg] kk tpos] value X.env = pure none := by rfl)
    (h1 : (assignEach [.Tuple [.Subscript o i p2, tg] kk tpos] X.env).map (·.2) = [assign (.Tuple [.Subscript o i p2, tg] kk tpos) X.env] := by rfl)
    (h2 : (assignEach [.Subscript o i p2, tg] X.env).map (·.2) = assign (.Subscript o i p2) X.env :: (assignEach [tg] X.env).map (·.2) := by rfl) (h3 : (assignEach [tg] X.env).map (·.2) = assign tg X.env :: (assignEach [] X.env).map (·.2) := by rfl)
    (hn : (assignEach [.Subscript o i p2, tg] X.env).length = 2 := by rfl) (hst : (assignEach [.Subscript o i p2, tg] X.env).findIdx? (·.1) = none := by rfl)
    (ha : ∀ v, assign (.Subscript o i p2) X.env v = (do
      let ov ← holding [v] (eval o X.env)
      let iv ← holding [v, ov] (eval i X.env)
      standAt p2
      holding [v, ov, iv] (setItem ov iv v)
      release [v, ov, iv] []) := by intro _; rfl) : QS X K W (.Assign [.Tuple [.Subscript o i p2, tg] kk tpos] value pos) (mAsgSN fo fa fe gg) :=
  PS.weak (ps_asg he (pg_tup hc (pgs_cons (pg_sub ho hi (L2.set_dict hu) ha) (pgs_cons hg pgs_nil h3) h2) hn hst) hs hw h1) fun D σ H ⟨κ, s, L, rs, rl, h⟩ => ⟨κ, s, L, rs, rl, (HS.lift (R := RV K) rs h).imp fun u H1 ⟨κ1, L1, x, up, rl1, rx, q⟩ => by
    split at q
    · rename_i v w
      cases rx with
      | @tup a _ us' g1 g2 =>
        obtain ⟨uv, uw, rfl, r1, r2⟩ := g2.two
        refine ⟨a, _, rfl, SqT.of g1.2, rfl, uv, [uw], rfl, κ1, s, L1, rs.up up, rl1, (HS.lift (R := RV K) (rs.up up) q).imp fun u2 H2 ⟨κ2, L2, z, up2, rl2, rz, q2⟩ => ⟨κ2, s, L2, (rs.up up).up up2, rl2, (HS.lift (R := RV K) ((rs.up up).up up2) q2).imp fun u3 H3 ⟨κ3, L3, y, up3, rl3, ry, q3⟩ => ?_⟩⟩
        split at q3
        · rename_i L4 s' e1 e2
          obtain ⟨a', H4, rfl, p1, up4, rl4⟩ := dPut_ok rl3 (rz.up up3) ry ((r1.up up2).up up3) e1
          refine ⟨a', H4, rfl, p1, uw, [], rfl, κ3, s, w, s', ((((rs.up up).up up2).up up3).up up4), (((r2.up up2).up up3).up up4), e2, fun σ' rs' l k => ⟨rfl, q3 κ3 H4 σ' up4 rl4 rs'⟩⟩
        · exact q3.elim
    · exact q.elim⟩
end
end Q
end
section
set_option Elab.async false
set_option linter.all false
set_option maxRecDepth 100000
set_option maxHeartbeats 4000000
/-! Qv: comprehensions of dicts, displays of dicts, a def under its own lambdas -/
namespace Q
open PySem PySem.Spec L2
open PyProof.Rows (envOfC)
section
variable {X : Cx} {K : Kt} {κ κ' κ1 κ2 : Kp} {H H' H1 H2 : Hp} {L L' : LH} {W : WX} {σ : L2.St} {x y : LV} {u v : V} {xs : List LV} {us : List V} {e o i tg iter kx vx value : Expr} {es ifs elts : List Expr} {pos p apos cpos tpos p2 : Pos} {fo fa fb fe fk fv : Sl → M LV} {fs : Sl → M (List LV)} {ft : Sl → M Bool} {fi : Sl → M IT} {n kk : Nat} {a : Addr} {kvs : List (Key × LV)} {gg : LV → Sl → Option Sl} {ix : List Nat}
/-! ### {k: v for .. in .. if ..} -/
def dcGo (it : IT) (g : LV → Sl → Option Sl) (tt : Sl → M Bool) (fk fv : Sl → M LV) (s0 : Sl) (num : Nat) : Nat → Nat → M LV
  | 0, _ => fun _ => .no
  | n + 1, i => fun L => match it i L with
    | none => .no
    | some none => .ok (.ref num) L
    | some (some v) => match g v s0 with
      | none => .no
      | some s1 => match tt s1 L with
        | .ok b L2 => if b = true then (match fk s1 L2 with
          | .ok y L3 => (match fv s1 L3 with
            | .ok z L4 => (match L4[num]?, keyOf y with
              | some (.dK acc), some k => if acc.length < 1000000 then dcGo it g tt fk fv s0 num n (i + 1) (L4.set num (.dK (putKL acc k z))) else .no
              | _, _ => .no)
            | _ => .no)
          | _ => .no) else dcGo it g tt fk fv s0 num n (i + 1) L2
        | _ => .no
def mDc (fi : Sl → M IT) (g : LV → Sl → Option Sl) (tt : Sl → M Bool) (fk fv : Sl → M LV) (vs : List Nat) : Sl → M LV := fun s L => (fi s L).bind fun it L1 => dcGo it g tt fk fv (wipeL s vs) L1.length FUEL 0 (L1 ++ [.dK []])
theorem dc_ok {J : It} {it : IT} {s : Sl} {vs : List Nat} {Z : VK} (ok : ItOk K J κ H it) (rs : RS K κ H s σ) (rl : RL K κ H L) (hv : ∀ j, j ∈ ix → j ∈ vs) (h : HV K W σ κ H (RV K) (dcGo it gg ft fk fv (wipeL s vs) L.length FUEL 0 (L ++ [.dK []])) Z) (D : Addr) (hD : H D = none) :
    ∃ Wi : Nat → Nat → Hp → Prop, (∃ m, Wi 0 m (upd H D (.dK []))) ∧ ∀ i m H, Wi i m H → (J.stop i H ∧ Z (.ref D) H) ∨ (J.go i H ∧ ∃ Nx : Hp → Prop, (∀ H', Nx H' → ∃ m', m' < m ∧ Wi (i + 1) m' H') ∧ ∀ x H', J.yld i H x H' →
      tG K gg ix x (L2.wipe σ vs) H' fun σ2 H2 => L2.wipe σ2 vs = L2.wipe σ vs ∧ tT K W0 ft σ2 H2 fun b H3 => if b = true then tE K W0 fk σ2 H3 fun y H4 => tE K W0 fv σ2 H4 fun z H5 => ∃ kvs k, y = kV k ∧ H5 D = some (.dK kvs) ∧ kvs.length < sizeLine ∧ Nx (upd H5 D (.dK (putK kvs k z))) else Nx H3) := by
  have u0 := Up.numb (o := .dK []) rl hD
  refine ⟨fun i m H2 => ∃ κ2 M2, RL K κ2 H2 M2 ∧ Up K κ H κ2 H2 ∧ κ2.ρ[L.length]? = some D ∧ HV K W σ κ H (RV K) (dcGo it gg ft fk fv (wipeL s vs) L.length m i M2) Z,
    ⟨FUEL, κ.num D, _, rl.numb (lo := .dK []) hD ⟨[], upd_same, .nil⟩, u0, by show (κ.ρ ++ [D])[L.length]? = some D; rw [rl.len]; simp, h⟩, ?_⟩
  rintro i m H2 ⟨κ2, M2, rl2, up2, at2, q⟩
  cases m with
  | zero => exact q.elim
  | succ m =>
    have o := ok κ2 H2 M2 i up2 rl2
    unfold dcGo at q
    cases e : it i M2 with
    | none => rw [e] at q; exact q.elim
    | some r =>
      rw [e] at q o
      cases r with
      | none => exact .inl ⟨o, q κ2 H2 _ up2 rl2 (.ref at2)⟩
      | some v =>
        simp only [] at q
        obtain ⟨o1, o2⟩ := o
        refine .inr ⟨o1, fun H3 => ∃ κ2 M2, RL K κ2 H3 M2 ∧ Up K κ H κ2 H3 ∧ κ2.ρ[L.length]? = some D ∧ HV K W σ κ H (RV K) (dcGo it gg ft fk fv (wipeL s vs) L.length m (i + 1) M2) Z, fun H3 z => ⟨m, Nat.lt_succ_self m, z⟩, fun x H3 y => ?_⟩
        obtain ⟨κ3, up3, rl3, rx⟩ := o2 x H3 y
        cases eg : gg v (wipeL s vs) with
        | none => rw [eg] at q; exact q.elim
        | some s1 =>
          rw [eg] at q
          simp only [] at q
          refine ⟨κ3, wipeL s vs, v, s1, (rs.wipe vs).up (up2.trans up3), rx, eg, fun σ3 rs3 l3 k3 => ⟨?_, ?_⟩⟩
          · exact wipe_eq (by rw [l3, wipe_length]) hv k3
          · cases et : ft s1 M2 with
            | no => rw [et] at q; exact q.elim
            | exc c L3 => rw [et] at q; exact q.elim
            | ok b L3 =>
              rw [et] at q
              simp only [] at q
              refine ⟨κ3, s1, M2, rs3, rl3, ?_⟩
              rw [et]
              refine HV.w0 fun κ4 H4 b' up4 rl4 eb => ?_
              have eb : b = b' := eb
              subst eb
              have u4 := (up2.trans up3).trans up4
              cases b with
              | false =>
                rw [if_neg (by decide)]
                rw [if_neg (by decide)] at q
                exact ⟨κ4, L3, rl4, u4, up4.get (up3.get at2), q⟩
              | true =>
                rw [if_pos rfl]
                rw [if_pos rfl] at q
                refine ⟨κ4, s1, L3, rs3.up up4, rl4, ?_⟩
                cases ek : fk s1 L3 with
                | no => rw [ek] at q; exact q.elim
                | exc c L4 => rw [ek] at q; exact q.elim
                | ok yk L4 =>
                  rw [ek] at q
                  simp only [] at q
                  refine HV.w0 fun κ5 H5 wk up5 rl5 rk => ⟨κ5, s1, L4, (rs3.up up4).up up5, rl5, ?_⟩
                  cases ev : fv s1 L4 with
                  | no => rw [ev] at q; exact q.elim
                  | exc c L5 => rw [ev] at q; exact q.elim
                  | ok zv L5 =>
                    rw [ev] at q
                    simp only [] at q
                    refine HV.w0 fun κ6 H6 wv up6 rl6 rv => ?_
                    have at6 := up6.get (up5.get (up4.get (up3.get at2)))
                    split at q
                    · rename_i acc k e1 e2
                      split at q
                      · rename_i hl
                        obtain ⟨a, ea, ha, _, ws, g1, g2⟩ := rl6.at e1 (.ref at6) (fun z => nomatch z)
                        cases ea
                        have up7 := Up.chg (ho := .dK (putK ws k wv)) rl6 e1 (fun z => nomatch z) ha
                        exact ⟨ws, k, keyOf_ok rk e2, g1, by rw [← Keyed.length g2, sizeLine_eq]; omega, κ6, _, rl6.chg (lo := .dK (putKL acc k zv)) e1 (fun z => nomatch z) ha ⟨_, upd_same, (Keyed.putV rv g2).up up7⟩, ((u4.trans up5).trans up6).trans up7, at6, q⟩
                      · exact q.elim
                    · exact q.elim
theorem qe_dc {scope : Scope} {own : List (Str × Nat)} (hc : X.calm = true) (hN : X.N.Nodup) (hi : QI X K W tg iter fi) (ok : BlkOk X.N X.env.scope scope own) (hv : ∀ j, j ∈ ix → j ∈ own.map (·.2))
    (hg : ∀ (s : Shared) (H : Hp) (C : Addr) (cl : List (Str × Addr)) (fp : List Addr), QG (X.blk s H scope (compEnvC scope cl C X.env) fp) K tg gg ix) (ht : ∀ (s : Shared) (H : Hp) (C : Addr) (cl : List (Str × Addr)) (fp : List Addr), QTs (X.blk s H scope (compEnvC scope cl C X.env) fp) K W0 ifs ft)
    (hk : ∀ (s : Shared) (H : Hp) (C : Addr) (cl : List (Str × Addr)) (fp : List Addr), QE (X.blk s H scope (compEnvC scope cl C X.env) fp) K W0 kx fk) (he : ∀ (s : Shared) (H : Hp) (C : Addr) (cl : List (Str × Addr)) (fp : List Addr), QE (X.blk s H scope (compEnvC scope cl C X.env) fp) K W0 vx fv)
    (hs : ∀ x, foldedSetIterable iter X.env x = pure x := by intro _; rfl) : QE X K W (.DictComp kx vx [⟨tg, iter, ifs, 0⟩] scope pos) (mDc fi gg ft fk fv (own.map (·.2))) :=
  PE.weak (pe_dc hc hN hi ok hg ht hk he hs) fun σ H Q ⟨κ, s, L, rs, rl, h⟩ => ⟨κ, s, L, rs, rl, (HV.bind (R := fun κ' H' it J => ItOk K J κ' H' it) h).imp fun J H1 ⟨κ1, L1, it, up, rl1, oki, q⟩ D hD => dc_ok oki (rs.up up) rl1 hv q D hD⟩
/-! ### {a: b, ..} -/
def mPNil : Sl → M (List (LV × LV)) := fun _ L => .ok [] L
def mPCons (fk fv : Sl → M LV) (r : Sl → M (List (LV × LV))) : Sl → M (List (LV × LV)) := fun s L => (fk s L).bind fun x L1 => (fv s L1).bind fun y L2 => (r s L2).bind fun ps L3 => .ok ((x, y) :: ps) L3
def kvOf : List (LV × LV) → Option (List (Key × LV))
  | [] => some []
  | (x, y) :: r => match keyOf x, kvOf r with
    | some k, some ps => some ((k, y) :: ps)
    | _, _ => none
def mDisp (r : Sl → M (List (LV × LV))) : Sl → M LV := fun s L => (r s (L ++ [.dK []])).bind fun ps L1 => match kvOf ps, L1[L.length]? with
  | some kvs, some (.dK []) => if kvs.length ≤ 15 then .ok (.ref L.length) (L1.set L.length (.dK (mergeKL [] kvs))) else .no
  | _, _ => .no
abbrev RPs (K : Kt) (κ : Kp) (H : Hp) : List (LV × LV) → List (V × V) → Prop := Paired fun p q => RV K κ H p.1 q.1 ∧ RV K κ H p.2 q.2
theorem RPs.up (u : Up K κ H κ' H') : ∀ {a : List (LV × LV)} {b : List (V × V)}, RPs K κ H a b → RPs K κ' H' a b
  | _, _, .nil => .nil
  | _, _, .cons h r => .cons ⟨h.1.up u, h.2.up u⟩ (RPs.up u r)
def QPs (X : Cx) (K : Kt) (W : WX) (pos : Pos) (keys : List (Option Expr)) (values : List Expr) (r : Sl → M (List (LV × LV))) : Prop :=
  ∃ trs, PPs X pos keys values trs ∧ ∀ σ H Q, (∃ κ s L, RS K κ H s σ ∧ RL K κ H L ∧ HV K W σ κ H (RPs K) (r s L) Q) → tPairs trs σ H Q
theorem qps_nil : QPs X K W pos [] [] mPNil := ⟨[], pps_nil, fun σ H Q ⟨κ, s, L, rs, rl, h⟩ => h κ H [] Up.refl rl .nil⟩
theorem qps_cons {keys : List (Option Expr)} {values : List Expr} {r : Sl → M (List (LV × LV))} (hk : QE X K W kx fk) (hv : QE X K W vx fv) (hr : QPs X K W pos keys values r) : QPs X K W pos (some kx :: keys) (vx :: values) (mPCons fk fv r) := by
  obtain ⟨trs, h1, h2⟩ := hr
  refine ⟨_, pps_cons hk hv h1, fun σ H Q ⟨κ, s, L, rs, rl, h⟩ => ⟨κ, s, L, rs, rl, (HV.bind (R := RV K) h).imp fun u H1 ⟨κ1, L1, x, up, rl1, rx, q⟩ => ⟨κ1, s, L1, rs.up up, rl1, (HV.bind (R := RV K) q).imp fun v H2 ⟨κ2, L2, y, up2, rl2, ry, q2⟩ => h2 σ H2 _ ⟨κ2, s, L2, (rs.up up).up up2, rl2, (HV.bind (R := RPs K) q2).imp fun ps H3 ⟨κ3, L3, ls, up3, rl3, rp, q3⟩ => ?_⟩⟩⟩⟩
  exact q3 κ3 H3 _ Up.refl rl3 (.cons ⟨(rx.up up2).up up3, ry.up up3⟩ rp)
theorem kvOf_ok : ∀ {ps : List (LV × LV)} {us : List (V × V)} {ks : List (Key × LV)}, RPs K κ H ps us → kvOf ps = some ks → ∃ ws : List (Key × V), us = ws.map (fun kv => (kV kv.1, kv.2)) ∧ Keyed K κ H ks ws
  | _, _, _, .nil, h => by cases h; exact ⟨[], rfl, .nil⟩
  | (x, y) :: r, (u, v) :: _, ks, .cons g t, h => by
    unfold kvOf at h
    split at h
    · rename_i k ps e1 e2
      cases h
      obtain ⟨ws, h1, h2⟩ := kvOf_ok t e2
      have e := keyOf_ok g.1 e1
      have e : u = kV k := e
      subst e
      exact ⟨(k, v) :: ws, by rw [h1]; rfl, .cons ⟨rfl, g.2⟩ h2⟩
    · cases h
theorem qe_disp {keys : List (Option Expr)} {values : List Expr} {r : Sl → M (List (LV × LV))} (h : QPs X K W pos keys values r) (hall : keys.all (·.isSome) = true) (hl : keys.length = values.length) (h0 : keys ≠ []) (h15 : keys.length ≤ 15) : QE X K W (.Dict keys values pos) (mDisp r) := by
  obtain ⟨trs, h1, h2⟩ := h
  refine PE.weak (pe_disp h1 hall hl h0 h15) fun σ H Q ⟨κ, s, L, rs, rl, h⟩ p hp => h2 σ _ _ ⟨κ.num p, s, L ++ [.dK []], rs.up (Up.numb rl hp), rl.numb (lo := .dK []) hp ⟨[], upd_same, .nil⟩, ?_⟩
  have at0 : (κ.num p).ρ[L.length]? = some p := by show (κ.ρ ++ [p])[L.length]? = some p; rw [rl.len]; simp
  refine (HV.bind (R := RPs K) (HV.up h (Up.numb rl hp))).imp fun ps H3 ⟨κ3, L3, ls, up3, rl3, rp, q⟩ => ?_
  split at q
  · rename_i kvs e1 e2
    split at q
    · rename_i hl
      obtain ⟨a, ea, ha, _, ws0, g1, g2⟩ := rl3.at e2 (.ref (up3.get at0)) (fun z => nomatch z)
      cases ea
      cases g2
      obtain ⟨ws, g3, g4⟩ := kvOf_ok rp e1
      have up4 := Up.chg (ho := .dK (mergeK [] ws)) rl3 e2 (fun z => nomatch z) ha
      exact ⟨g1, ws, g3, by rw [← Keyed.length g4]; exact hl, q κ3 _ _ up4 (rl3.chg e2 (fun z => nomatch z) ha ⟨_, upd_same, (merge_ok g4 .nil).up up4⟩) (.ref ha)⟩
    · exact q.elim
  · exact q.elim
end
/-! ### a def under its own lambdas -/
abbrev Kt.kept (K : Kt) (lo : Nat → Addr → Addr → HO) (lq : Str) : Kt := { K with lo := lo, lq := lq }
def spA (K : Kt) (n : Nat) (fn : List LV → M LV) : Sp := fun vs H Q E => ∀ lo lq, spF (K.kept lo lq) n fn vs H Q E
section
variable {P : Program} {w : World} {K : Kt} {mg : Str → Option Value} {base : Heap}
theorem q_fnK {x qual : Str} {st : Stmt} {f c : Addr} {fd : FuncData} {N ps : List Str} {k : Nat} {body : MS} (F : FunC K.K x qual st f fd c) (S : FnScope N ps (defScope st))
    (hb : ∀ (A : Around) (outer : List Env) (s : Shared) (H : Hp) (E : XK), Room k (A.deeper (envOfC qual (defScope st) s.heap.objs.size f (.ref c))) → ∃ lo lq, QSs (cxOf (L2.CX P w) P w K.K mg base N qual (defScope st) f (.ref c) A outer s H E) (K.kept lo lq) (WD E) (defBody st) body) :
    FnOk P w K.K mg base (L2.CX P w) (k + 1) f fd ps (spA K ps.length (callF N.length body)) := by
  obtain ⟨⟨oc, od, dV, kV, doc, pm, an, ct, osl, rfl, lk, hcd⟩, kp⟩ := F
  refine fn_of lk hcd S (fun vs H Q E h => (h (fun _ _ _ => .lst []) "").1) fun A outer s H vs Q E hr h => ?_
  obtain ⟨lo, lq, hq⟩ := hb A outer s H E hr
  refine ⟨_, hq, ?_⟩
  obtain ⟨_, κ, L, xs, rv, rl, h⟩ := h lo lq
  refine ⟨κ, _, L, RS.start rv N, rl, ?_⟩
  unfold callF at h
  cases e : body (xs.map some ++ List.replicate (N.length - xs.length) none) L with
  | next s L => rw [e] at h; exact fun κ' H' σ' a b c => h κ' H' _ a b .non
  | ret v L => rw [e] at h; exact fun κ' H' u a b c => h κ' H' u a b c
  | brk s L => rw [e] at h; exact h.elim
  | cont s L => rw [e] at h; exact h.elim
  | exc c s L => rw [e] at h; exact fun κ' H' σ' d a b c => h κ' H' d a b
  | no => rw [e] at h; exact h.elim
end
theorem hu0 {A : Around} {k : Nat} (hr : Room k A) : A.units < cLine := by have := hr.un; omega
theorem b_sum : bootBuiltins "sum" = some (.builtin "sum") := by decide +kernel
theorem b_isinstance : bootBuiltins "isinstance" = some (.builtin "isinstance") := by decide +kernel
theorem qe_tyN {X : Cx} {K : Kt} {W : WX} {x : Str} {t : String} {pos : Pos} (hg : Gl X x) (hm : X.mg x = none) (hv : bootBuiltins x = some (.type t)) (hn : x ≠ "__name__" := by decide) (hd : (x == ("__debug__" : Str)) = false := by decide) : QE X K W (.Name x pos) (mC (.ty t)) :=
  qe_c (pe_bltn (v := .ty t) hg hm hv rfl hn hd) fun _ _ => .ty _
/-- the j-th lambda of name = [lambda: .., ..] -/
def lamAt (d : Arguments × Expr × Scope) (st : Stmt) (j : Nat) : Arguments × Expr × Scope := match st with
  | .Assign _ (.List es _) _ => match es[j]? with
    | some (.Lambda ps bd sc _) => (ps, bd, sc)
    | _ => d
  | _ => d
end Q
end
section
set_option Elab.async false
set_option linter.all false
set_option maxRecDepth 100000
set_option maxHeartbeats 4000000
/-! Qw: defs with defaults -/
namespace Q
open PySem PySem.Spec L2
open PyProof.Rows (envOfC)
/-- a def of the text, whatever its defaults -/
structure FunV (K : PySem.W.Frag) (x qual : Str) (st : Stmt) (f : Addr) (fd : FuncData) : Prop where
  ex : ∃ (oc : Value) (od : Option Addr) (dV kV doc pm : Value) (an : Option Addr) (cdv ct : Value) (osl : Array (Option Value)),
    fd = PySem.W.fnOf x qual (defArgs st) (defBody st) (defScope st) dV kV doc pm an cdv ct ∧ K.lookup f = some ⟨oc, od, .func fd, osl⟩ ∧ PySem.W.codeIn K cdv qual = true
  kp : PySem.W.keepIn K (.ref f) = true
theorem funV_of {K : PySem.W.Frag} {x qual : Str} {st : Stmt} {dvs : List V} {f : Addr} {fd : FuncData} (F : L2.FunD K x qual (L2.defArgs st) (L2.defBody st) (L2.defScope st) dvs [] f fd) : FunV K x qual st f fd := by
  obtain ⟨oc, od, dV, kV, doc, pm, an, cdv, ct, osl, e, l, c, _, _⟩ := F.ex
  exact ⟨⟨oc, od, dV, kV, doc, pm, an, cdv, ct, osl, e, l, c⟩, F.kp⟩
section
variable {P : Program} {w : World} {K : Kt} {mg : Str → Option Value} {base : Heap}
theorem q_fnV {x qual : Str} {st : Stmt} {f : Addr} {fd : FuncData} {N ps : List Str} {k : Nat} {body : MS} (F : FunV K.K x qual st f fd) (S : FnScope N ps (defScope st))
    (hb : ∀ (cdv : Value) (A : Around) (outer : List Env) (s : Shared) (H : Hp) (E : XK), Room k (A.deeper (envOfC qual (defScope st) s.heap.objs.size f cdv)) → QSs (cxOf (L2.CX P w) P w K.K mg base N qual (defScope st) f cdv A outer s H E) K (WD E) (defBody st) body) :
    FnOk P w K.K mg base (L2.CX P w) (k + 1) f fd ps (spF K ps.length (callF N.length body)) := by
  obtain ⟨⟨oc, od, dV, kV, doc, pm, an, cdv, ct, osl, rfl, lk, hcd⟩, kp⟩ := F
  refine fn_of lk hcd S (fun vs H Q E h => h.1) fun A outer s H vs Q E hr h => ⟨_, hb cdv A outer s H E hr, ?_⟩
  obtain ⟨_, κ, L, xs, rv, rl, h⟩ := h
  refine ⟨κ, _, L, RS.start rv N, rl, ?_⟩
  unfold callF at h
  cases e : body (xs.map some ++ List.replicate (N.length - xs.length) none) L with
  | next s L => rw [e] at h; exact fun κ' H' σ' a b c => h κ' H' _ a b .non
  | ret v L => rw [e] at h; exact fun κ' H' u a b c => h κ' H' u a b c
  | brk s L => rw [e] at h; exact h.elim
  | cont s L => rw [e] at h; exact h.elim
  | exc c s L => rw [e] at h; exact fun κ' H' σ' d a b c => h κ' H' d a b
  | no => rw [e] at h; exact h.elim
end
/-- all parameters are written, though there are defaults -/
theorem bindsW {K : PySem.W.Frag} {x qual : Str} {params : Arguments} {body : List Stmt} {scope : Scope} {dvs : List V} {f : Addr} {fd : FuncData} {ps : List Str} (F : L2.FunD K x qual params body scope dvs [] f fd) (hd : dvs ≠ [])
    (h : ∀ (T : Addr) (kV doc pm : Value) (an : Option Addr) (cdv ct : Value) (us its : List Value), us.length = ps.length → its.length = dvs.length →
      ∃ k, bindArgs (PySem.W.fnOf x qual params body scope (.ref T) kV doc pm an cdv ct) ⟨us, []⟩ = seqItems? (.ref T) >>= k ∧ k (some its.toArray) = pure (ps.zip (us ++ its.drop dvs.length))) : Binds K fd ps [] := by
  obtain ⟨ds, h1, h2⟩ := F.binds1 ps.length dvs.length hd (by omega) h
  rw [List.drop_length] at h1
  cases h1
  exact h2
end Q
end
section
set_option Elab.async false
set_option linter.all false
set_option maxRecDepth 100000
set_option maxHeartbeats 1000000
/-! Qx: equations of functions of values: heaps, dicts, walks, statements, rolls -/
namespace Q
open PySem L2
section
variable {L : LH} {n m : Nat} {v : LV}
/-! places of a heap -/
theorem at_lt {o : LO} (h : L[n]? = some o) : n < L.length := (List.getElem?_eq_some_iff.mp h).1
theorem at_app {o : LO} {t : LH} (h : L[n]? = some o) : (L ++ t)[n]? = some o := by rw [List.getElem?_append_left (at_lt h)]; exact h
theorem at_ne {m : Nat} {o o' : LO} (e : m ≠ n) (h : L[n]? = some o) : (L.set m o')[n]? = some o := by rw [List.getElem?_set_ne e]; exact h
theorem at_self {o : LO} (h : n < L.length) : (L.set n o)[n]? = some o := List.getElem?_set_self h
theorem at_new {o : LO} (h : n = L.length) : (L ++ [o])[n]? = some o := by subst h; simp
theorem dput {W : List (Key × LV)} {k : Key} {x : LV} (hk : keyOf x = some k) (hw : L[w]? = some (.dK W)) (h : W.length < 1000) : dPut L (.ref w) x v = some (L.set w (.dK (putKL W k v))) := by
  simp only [dPut, hw, if_pos (show W.length < 1000000 by omega), hk, Option.map_some]
theorem dget {W : List (Key × LV)} {k : Key} {x : LV} (hk : keyOf x = some k) (hw : L[w]? = some (.dK W)) : dGet L (.ref w) x = some (lookK W k) := by
  simp only [dGet, hw, hk, Option.map_some]
theorem dget' {W : List (Key × LV)} {k : Key} {x : LV} (hk : keyOf x = some k) (hw : L[w]? = some (.lkK W)) : dGet L (.ref w) x = some (lookK W k) := by
  simp only [dGet, hw, hk, Option.map_some]
end
section
variable {L : LH} {n m : Nat} {v : LV}
abbrev dk (W : List (Key × LV)) : LO := .dK W
abbrev lk (W : List (Key × LV)) : LO := .lkK W
theorem set_at {a b : LO} {t : LH} : (L ++ a :: t).set L.length b = L ++ b :: t := by simp
theorem at_at {a : LO} {t : LH} : (L ++ a :: t)[L.length]? = some a := by simp
theorem app2 {a b : LO} : (L ++ [a]) ++ [b] = L ++ [a, b] := by simp
theorem gdget {W : List (Key × LV)} {k : Key} {x y : LV} (hk : keyOf x = some k) (hw : L[w]? = some (dk W)) (h : lookK W k = some y) : gDGet (.ref w) x L = .ok y L := by
  simp only [gDGet, dget hk hw, h]
theorem e_isD {W : List (Key × LV)} (h : L[n]? = some (dk W)) : isDL L (.ref n) = true := by simp only [isDL, h]
theorem at_off {t : LH} {i : Nat} : (L ++ t)[L.length + i]? = t[i]? := by
  rw [List.getElem?_append_right (by omega)]; congr 1; omega
end

/-! dicts as functions -/
theorem look_put {T : Type} [DecidableEq T] (D : List (T × LV)) (k k' : T) (v : LV) : lookK (putKL D k v) k' = if k' = k then some v else lookK D k' := by
  have hm : ∀ D : List (T × LV), (D.map fun kv => if kv.1 = k then (kv.1, v) else kv).find? (fun kv => decide (kv.1 = k')) = if k' = k then ((D.find? fun kv => decide (kv.1 = k)).map fun kv => (kv.1, v)) else D.find? fun kv => decide (kv.1 = k') := by
    intro D
    induction D with
    | nil => split <;> rfl
    | cons p r ih =>
      rw [List.map_cons, List.find?_cons, List.find?_cons, List.find?_cons, ih]
      by_cases h1 : p.1 = k
      · by_cases h2 : k' = k
        · subst h2
          simp [h1]
        · have h3 : ¬ p.1 = k' := fun z => h2 (z ▸ h1)
          have h4 : ¬ k = k' := fun z => h2 z.symm
          simp [h1, h2, h3, h4]
      · by_cases h2 : k' = k
        · subst h2
          simp [h1]
        · simp [h1, h2]
  unfold putKL lookK
  split
  · rename_i h
    rw [hm]
    split
    · rename_i e
      subst e
      obtain ⟨x, hx, hk⟩ := List.any_eq_true.mp h
      have : (D.find? fun kv => decide (kv.1 = k')).isSome = true := List.find?_isSome.mpr ⟨x, hx, hk⟩
      obtain ⟨y, hy⟩ := Option.isSome_iff_exists.mp this
      rw [hy]
      rfl
    · rfl
  · rename_i h
    rw [List.find?_append]
    by_cases e : k' = k
    · subst e
      have : (D.find? fun kv => decide (kv.1 = k')) = none := by
        rw [List.find?_eq_none]
        intro x hx hk
        exact h (List.any_eq_true.mpr ⟨x, hx, hk⟩)
      rw [this, if_pos rfl]
      simp
    · rw [if_neg e]
      have h4 : ¬ k = k' := fun z => e z.symm
      cases D.find? (fun kv => decide (kv.1 = k')) <;> simp [h4]
section
variable {T : Type} [DecidableEq T] {A B D : List (T × LV)} {k k' : T} {v : LV}
theorem keys_put : (putKL D k v).map (·.1) = if k ∈ D.map (·.1) then D.map (·.1) else D.map (·.1) ++ [k] := by
  unfold putKL
  by_cases h : k ∈ D.map (·.1)
  · have : (D.any fun kv => decide (kv.1 = k)) = true := by
      obtain ⟨x, hx, e⟩ := List.mem_map.mp h
      exact List.any_eq_true.mpr ⟨x, hx, decide_eq_true e⟩
    rw [if_pos this, if_pos h, List.map_map]
    refine List.map_congr_left fun x _ => ?_
    show (if x.1 = k then (x.1, v) else x).1 = x.1
    split <;> rfl
  · have : ¬ (D.any fun kv => decide (kv.1 = k)) = true := fun z => by
      obtain ⟨x, hx, e⟩ := List.any_eq_true.mp z
      exact h (List.mem_map.mpr ⟨x, hx, of_decide_eq_true e⟩)
    rw [if_neg this, if_neg h, List.map_append]
    rfl
theorem put_new (h : k ∉ D.map (·.1)) : putKL D k v = D ++ [(k, v)] := by
  unfold putKL
  rw [if_neg fun z => ?_]
  obtain ⟨x, hx, e⟩ := List.any_eq_true.mp z
  exact h (List.mem_map.mpr ⟨x, hx, of_decide_eq_true e⟩)
theorem nd_put (h : (D.map (·.1)).Nodup) : ((putKL D k v).map (·.1)).Nodup := by
  rw [keys_put]
  split
  · exact h
  · rename_i hn
    rw [List.nodup_append]
    exact ⟨h, by simp, fun a ha b hb e => hn (by rw [List.mem_singleton] at hb; rw [← hb, ← e]; exact ha)⟩
theorem mem_keys_put : k' ∈ (putKL D k v).map (·.1) ↔ k' ∈ D.map (·.1) ∨ k' = k := by
  rw [keys_put]
  split
  · rename_i h
    exact ⟨.inl, fun z => z.elim id fun e => e ▸ h⟩
  · simp
theorem look_mem (h : (D.map (·.1)).Nodup) {p : T × LV} : p ∈ D ↔ lookK D p.1 = some p.2 := by
  induction D with
  | nil => simp [lookK]
  | cons q r ih =>
    rw [List.map_cons, List.nodup_cons] at h
    unfold lookK at ih ⊢
    rw [List.mem_cons, List.find?_cons]
    by_cases e : q.1 = p.1
    · simp only [e, decide_true, Option.map_some, Option.some.injEq]
      refine ⟨fun z => ?_, fun z => .inl (by cases p; cases q; simp_all)⟩
      rcases z with z | z
      · rw [z]
      · exact absurd (List.mem_map_of_mem z) (e ▸ h.1)
    · simp only [e, decide_false]
      rw [← ih h.2]
      refine ⟨fun z => z.resolve_left fun w => e (by rw [w]), .inr⟩
theorem look_none : lookK D k = none ↔ k ∉ D.map (·.1) := by
  unfold lookK
  rw [Option.map_eq_none_iff, List.find?_eq_none]
  refine ⟨fun h z => ?_, fun h x hx e => h (List.mem_map.mpr ⟨x, hx, of_decide_eq_true e⟩)⟩
  obtain ⟨x, hx, e⟩ := List.mem_map.mp z
  exact h x hx (decide_eq_true e)
theorem merge_nil (h : (B.map (·.1)).Nodup) : B.foldl (fun acc p => putKL acc p.1 p.2) [] = B := by
  have : ∀ (B acc : List (T × LV)), ((acc ++ B).map (·.1)).Nodup → B.foldl (fun acc p => putKL acc p.1 p.2) acc = acc ++ B := by
    intro B
    induction B with
    | nil => intro acc _; simp
    | cons q r ih =>
      intro acc h
      rw [List.foldl_cons, put_new (D := acc), ih]
      · simp
      · simpa using h
      · rw [List.map_append, List.nodup_append] at h
        exact fun z => h.2.2 _ z q.1 (by simp) rfl
  rw [this B [] (by simpa using h)]
  rfl
theorem perm_of (hA : (A.map (·.1)).Nodup) (hB : (B.map (·.1)).Nodup) (h : ∀ k, lookK A k = lookK B k) : A.Perm B := by
  have f : ∀ {D : List (T × LV)}, (D.map (·.1)).Nodup → D.Nodup := fun h => (List.pairwise_map.mp h).imp fun g e => g (by rw [e])
  rw [List.perm_ext_iff_of_nodup (f hA) (f hB)]
  intro p
  rw [look_mem hA, look_mem hB, h]
end
/-- merging: the later counts -/
theorem look_merge {A B : List (Key × LV)} (h : (B.map (·.1)).Nodup) (k : Key) : lookK (mergeKL A B) k = (lookK B k).or (lookK A k) := by
  unfold mergeKL
  induction B generalizing A with
  | nil => simp [lookK]
  | cons q r ih =>
    rw [List.map_cons, List.nodup_cons] at h
    rw [List.foldl_cons, ih h.2, look_put]
    have : lookK (q :: r) k = if q.1 = k then some q.2 else lookK r k := by
      unfold lookK
      rw [List.find?_cons]
      by_cases e : q.1 = k <;> simp [e]
    rw [this]
    by_cases e : q.1 = k
    · subst e
      rw [if_pos rfl, if_pos rfl, look_none.mpr h.1]
      rfl
    · rw [if_neg e, if_neg fun z => e z.symm]
theorem nd_merge {A B : List (Key × LV)} (h : (A.map (·.1)).Nodup) : ((mergeKL A B).map (·.1)).Nodup := by
  unfold mergeKL
  induction B generalizing A with
  | nil => exact h
  | cons q r ih => rw [List.foldl_cons]; exact ih (nd_put h)
theorem look_filter {D : List (Key × LV)} {p : Key × LV → Bool} (h : (D.map (·.1)).Nodup) (k : Key) : lookK (D.filter p) k = (lookK D k).bind fun v => if p (k, v) = true then some v else none := by
  induction D with
  | nil => rfl
  | cons q r ih =>
    rw [List.map_cons, List.nodup_cons] at h
    have c : ∀ r : List (Key × LV), lookK (q :: r) k = if q.1 = k then some q.2 else lookK r k := fun r => by
      unfold lookK
      rw [List.find?_cons]
      by_cases e : q.1 = k <;> simp [e]
    rw [List.filter_cons]
    by_cases e : q.1 = k
    · by_cases hp : p q = true
      · rw [if_pos hp, c, c, if_pos e, if_pos e]
        have : p (k, q.2) = true := by rw [← e]; exact hp
        simp [this]
      · rw [if_neg hp, ih h.2, c, if_pos e]
        have e1 : lookK r k = none := look_none.mpr (e ▸ h.1)
        have : ¬ p (k, q.2) = true := by rw [← e]; exact hp
        simp [e1, this]
    · by_cases hp : p q = true
      · rw [if_pos hp, c, c, if_neg e, if_neg e, ih h.2]
      · rw [if_neg hp, ih h.2, c, if_neg e]
theorem nd_filter {T : Type} {D : List (T × LV)} {p : T × LV → Bool} (h : (D.map (·.1)).Nodup) : ((D.filter p).map (·.1)).Nodup := h.sublist (List.filter_sublist.map _)

/-! walks over what does not change -/
theorem lc_pure {α : Type} {it : IT} {g : LV → Sl → Option Sl} {tt : Sl → M Bool} {fe : Sl → M LV} {s0 : Sl} {xs : List α} (vf : α → LV) (pf : α → Bool) (ef : α → LV) {L : LH} (hit : ∀ i, it i L = some ((xs[i]?).map vf)) (hl : xs.length < 100000)
    (step : ∀ x, x ∈ xs → ∃ s1, g (vf x) s0 = some s1 ∧ tt s1 L = .ok (pf x) L ∧ (pf x = true → fe s1 L = .ok (ef x) L)) : lcGo it g tt fe s0 FUEL 0 [] L = .ok (.fl ((xs.filter pf).map ef)) L := by
  have go : ∀ (m : Nat) (pre post : List α) (acc : List LV), xs = pre ++ post → post.length < m → acc.length + post.length < 1000000 → lcGo it g tt fe s0 m pre.length acc L = .ok (.fl (acc ++ (post.filter pf).map ef)) L := by
    intro m
    induction m with
    | zero => intro pre post acc _ h; omega
    | succ m ih =>
      intro pre post acc e h1 h2
      unfold lcGo
      cases post with
      | nil =>
        have : it pre.length L = some none := by rw [hit, e]; simp
        rw [this]
        simp
      | cons x r =>
        have hi : it pre.length L = some (some (vf x)) := by rw [hit, e]; simp
        obtain ⟨s1, h3, h4, h5⟩ := step x (by rw [e]; simp)
        rw [hi]
        simp only [h3, h4]
        simp only [List.length_cons] at h1 h2
        have e2 : xs = (pre ++ [x]) ++ r := by rw [e]; simp
        have el : (pre ++ [x]).length = pre.length + 1 := by simp
        cases hp : pf x with
        | false =>
          rw [if_neg (by decide), ← el, ih (pre ++ [x]) r acc e2 (by omega) (by omega), List.filter_cons_of_neg (by simp [hp])]
        | true =>
          rw [if_pos rfl, h5 hp]
          simp only []
          rw [if_pos (by omega), ← el, ih (pre ++ [x]) r (acc ++ [ef x]) e2 (by omega) (by simp; omega), List.filter_cons_of_pos hp]
          simp
  have := go FUEL [] xs [] rfl (by unfold FUEL; omega) (by simp; omega)
  simpa using this
theorem dc_pure {α : Type} {it : IT} {g : LV → Sl → Option Sl} {tt : Sl → M Bool} {fk fv : Sl → M LV} {s0 : Sl} {xs : List α} (vf : α → LV) (pf : α → Bool) (kf : α → Key) (wf : α → LV) {L : LH} (hit : ∀ i W, it i (L ++ [dk W]) = some ((xs[i]?).map vf)) (hl : xs.length < 100000)
    (step : ∀ x W, x ∈ xs → ∃ s1, g (vf x) s0 = some s1 ∧ tt s1 (L ++ [dk W]) = .ok (pf x) (L ++ [dk W]) ∧ ∃ y, keyOf y = some (kf x) ∧ (pf x = true → fk s1 (L ++ [dk W]) = .ok y (L ++ [dk W]) ∧ fv s1 (L ++ [dk W]) = .ok (wf x) (L ++ [dk W]))) :
    dcGo it g tt fk fv s0 L.length FUEL 0 (L ++ [dk []]) = .ok (.ref L.length) (L ++ [dk (((xs.filter pf).map fun x => (kf x, wf x)).foldl (fun acc p => putKL acc p.1 p.2) [])]) := by
  have len_put : ∀ (D : List (Key × LV)) (k : Key) (v : LV), (putKL D k v).length ≤ D.length + 1 := by
    intro D k v
    unfold putKL
    split
    · rw [List.length_map]; exact Nat.le_succ _
    · simp
  have go : ∀ (m : Nat) (pre post : List α) (W : List (Key × LV)), xs = pre ++ post → post.length < m → W.length + post.length < 1000000 → dcGo it g tt fk fv s0 L.length m pre.length (L ++ [dk W]) = .ok (.ref L.length) (L ++ [dk (((post.filter pf).map fun x => (kf x, wf x)).foldl (fun acc p => putKL acc p.1 p.2) W)]) := by
    intro m
    induction m with
    | zero => intro pre post acc _ h; omega
    | succ m ih =>
      intro pre post W e h1 h2
      unfold dcGo
      cases post with
      | nil =>
        have : it pre.length (L ++ [dk W]) = some none := by rw [hit, e]; simp
        rw [this]
        simp
      | cons x r =>
        have hi : it pre.length (L ++ [dk W]) = some (some (vf x)) := by rw [hit, e]; simp
        obtain ⟨s1, h3, h4, y, h6, h5⟩ := step x W (by rw [e]; simp)
        rw [hi]
        simp only [h3, h4]
        simp only [List.length_cons] at h1 h2
        have e2 : xs = (pre ++ [x]) ++ r := by rw [e]; simp
        have el : (pre ++ [x]).length = pre.length + 1 := by simp
        cases hp : pf x with
        | false =>
          rw [if_neg (by decide), ← el, ih (pre ++ [x]) r W e2 (by omega) (by omega), List.filter_cons_of_neg (by simp [hp])]
        | true =>
          obtain ⟨h7, h8⟩ := h5 hp
          have h9 := len_put W (kf x) (wf x)
          rw [if_pos rfl, h7]
          simp only [h8, at_at, h6, set_at]
          rw [if_pos (by omega), ← el]
          rw [show (L ++ [LO.dK (putKL W (kf x) (wf x))] : LH) = L ++ [dk (putKL W (kf x) (wf x))] from rfl, ih (pre ++ [x]) r _ e2 (by omega) (by omega), List.filter_cons_of_pos hp]
          simp
  exact go FUEL [] xs [] rfl (by unfold FUEL; omega) (by simp; omega)
theorem set_back {L : LH} {n : Nat} {o o' : LO} (h : L[n]? = some o) : (L.set n o').set n o = L := by
  rw [List.set_set]
  refine List.ext_getElem? fun i => ?_
  by_cases e : n = i
  · subst e; rw [List.getElem?_set_self (at_lt h), h]
  · rw [List.getElem?_set_ne e]
theorem lock_pure {fn fe : Sl → M LV} {sl : Sl} {L L' : LH} {n : Nat} {W : List (Key × LV)} {v : LV} (h1 : fn sl L = .ok (.ref n) L') (h : L[n]? = some (dk W)) (h2 : fe sl (L.set n (.lkK W)) = .ok v (L.set n (.lkK W))) : mLock fn fe sl L = .ok v L := by
  simp only [mLock, h1, h, h2, at_self (at_lt h), set_back h]
theorem lock_new {fn fe : Sl → M LV} {sl : Sl} {L L' T : LH} {n : Nat} {W : List (Key × LV)} {v : LV} (h1 : fn sl L = .ok (.ref n) L') (h : L[n]? = some (dk W)) (h2 : fe sl (L.set n (.lkK W)) = .ok v (L.set n (.lkK W) ++ T)) : mLock fn fe sl L = .ok v (L ++ T) := by
  have e : (L.set n (.lkK W) ++ T)[n]? = some (.lkK W) := at_app (at_self (at_lt h))
  have e2 : (L.set n (.lkK W) ++ T).set n (.dK W) = L ++ T := by
    rw [List.set_append_left _ _ (by rw [List.length_set]; exact at_lt h), set_back h]
  simp only [mLock, h1, h, h2, e, e2]
section
variable {L : LH} {n m : Nat} {v : LV} {p q key : Str}
theorem keyOf_kL (k : Key) : keyOf (kL k) = some k := by cases k <;> rfl
def notNon (p : Key × LV) : Bool := !isNon p.2
theorem ints_map {α : Type} (f : α → Int) : ∀ xs : List α, intsOf (xs.map fun x => .int (f x)) = some (xs.map f)
  | [] => rfl
  | x :: r => by rw [List.map_cons]; unfold intsOf; rw [ints_map f r]; rfl
theorem seq_asg {f : Sl → M LV} {g : LV → Sl → Option Sl} {rest : MS} {sl sl1 : Sl} {L1 : LH} (h : f sl L = .ok v L1) (hg : g v sl = some sl1) : mSeq (mAsg f g) rest sl L = rest sl1 L1 := by
  simp only [mSeq, mAsg, h, lift, hg, Fl.andThen]
theorem ret_ok {f : Sl → M LV} {sl : Sl} {L1 : LH} (h : f sl L = .ok v L1) : mRet f sl L = .ret v L1 := by
  simp only [mRet, h, lift]
theorem call_ret {N : Nat} {body : MS} {xs : List LV} {L1 : LH} (h : body (xs.map some ++ List.replicate (N - xs.length) none) L = .ret v L1) : callF N body xs L = .ok v L1 := by
  simp only [callF, h]
theorem call_nx {N : Nat} {body : MS} {xs : List LV} {L1 : LH} {sl : Sl} (h : body (xs.map some ++ List.replicate (N - xs.length) none) L = .next sl L1) : callF N body xs L = .ok .non L1 := by
  simp only [callF, h]
theorem call_exc {N : Nat} {body : MS} {xs : List LV} {L1 : LH} {sl : Sl} {e : Nat} (h : body (xs.map some ++ List.replicate (N - xs.length) none) L = .exc e sl L1) : callF N body xs L = .exc e L1 := by
  simp only [callF, h]
theorem blt1 {f : List LV → M LV} {a : Sl → M LV} {sl : Sl} {u : LV} {L1 L2 : LH} (h : a sl L = .ok u L1) (h2 : f [u] L1 = .ok v L2) : mBlt f (mCons a mNil) sl L = .ok v L2 := by
  simp only [mBlt, mCons, mNil, h, Res.bind, h2]
theorem op2 {g : LV → LV → M LV} {fa fb : Sl → M LV} {sl : Sl} {x y v : LV} {L1 L2 L3 : LH} (h1 : fa sl L = .ok x L1) (h2 : fb sl L1 = .ok y L2) (h3 : g x y L2 = .ok v L3) : mOp g fa fb sl L = .ok v L3 := by
  simp only [mOp, h1, Res.bind, h2, h3]
abbrev pr (p : Key × LV) : LV := .tup [kL p.1, p.2]
theorem pairs_map : ∀ ps : List (Key × LV), pairsOf (ps.map pr) = some ps
  | [] => rfl
  | p :: r => by
    rw [List.map_cons]
    unfold pairsOf
    rw [pairs_map r, keyOf_kL]
theorem seq_fld {cl : Nat} {fn : Str} {fo fv : Sl → M LV} {rest : MS} {sl : Sl} {x : LV} {L1 L2 L3 : LH} (h1 : fv sl L = .ok v L1) (h2 : fo sl L1 = .ok x L2) (h3 : setFld cl fn v L2 x = some L3) : mSeq (mSetFld cl fn fo fv) rest sl L = rest sl L3 := by
  simp only [mSeq, mSetFld, h1, lift, h2, h3, Fl.andThen]
theorem seq_no {t : Sl → M Bool} {a : MS} {rest : MS} {sl : Sl} {L1 : LH} (h1 : t sl L = .ok false L1) : mSeq (mIfS t a mSkip) rest sl L = rest sl L1 := by
  simp only [mSeq, mIfS, h1, lift, mSkip, Fl.andThen, if_false, Bool.false_eq_true]
theorem seq_yes {t : Sl → M Bool} {a b : MS} {rest : MS} {sl : Sl} {L1 L2 : LH} (h1 : t sl L = .ok true L1) (h2 : a sl L1 = .ret v L2) : mSeq (mIfS t a b) rest sl L = .ret v L2 := by
  simp only [mSeq, mIfS, h1, lift, h2, Fl.andThen, if_true]
theorem seq_nx {f rest : MS} {sl sl1 : Sl} {L1 : LH} (h1 : f sl L = .next sl1 L1) : mSeq f rest sl L = rest sl1 L1 := by
  simp only [mSeq, h1, Fl.andThen]
theorem test1 {fn : Sl → M LV} {sl : Sl} {L1 : LH} {k : Bool} (h : fn sl L = .ok (.bl k) L1) : mTest fn sl L = .ok k L1 := by
  simp only [mTest, h, Res.bind, toB]
theorem if_t {c : Sl → M Bool} {x y : MS} {L1 : LH} (h : c sl L = .ok true L1) : mIfS c x y sl L = x sl L1 := by simp only [mIfS, h, lift, if_true]
theorem if_f {c : Sl → M Bool} {x y : MS} {L1 : LH} (h : c sl L = .ok false L1) : mIfS c x y sl L = y sl L1 := by simp only [mIfS, h, lift, if_false, Bool.false_eq_true]
theorem e_itF {xs : List LV} {L : LH} : itOf (.fl xs) L = .ok (itV xs) L := rfl
theorem andV_t {fa fb : Sl → M LV} {L1 : LH} (h : fa sl L = .ok (.bl true) L1) : mAndV fa fb sl L = fb sl L1 := by
  simp only [mAndV, h, Res.bind, toB, if_true]
end
/-- data of k levels -/
def Nice (k : Nat) (v : LV) (d : PyData) : Prop := toD v = some d ∧ d.canLay0 = true ∧ d.depth ≤ k
def NiceAll (k : Nat) (xs : List LV) (ds : List PyData) : Prop := toDs xs = some ds ∧ PyData.canLayAll0 ds = true ∧ PyData.depthAll ds ≤ k
theorem NiceAll.nil {k : Nat} : NiceAll k [] [] := ⟨rfl, rfl, Nat.zero_le _⟩
theorem NiceAll.cons {k : Nat} {v : LV} {d : PyData} {xs : List LV} {ds : List PyData} (a : Nice k v d) (b : NiceAll k xs ds) : NiceAll k (v :: xs) (d :: ds) := by
  obtain ⟨a1, a2, a3⟩ := a
  obtain ⟨b1, b2, b3⟩ := b
  refine ⟨by unfold toDs; rw [a1, b1], by unfold PyData.canLayAll0; rw [a2, b2]; rfl, ?_⟩
  simp only [PyData.depthAll]
  omega
theorem NiceAll.tup {k : Nat} {xs : List LV} {ds : List PyData} (b : NiceAll k xs ds) : Nice (k + 1) (.tup xs) (.tuple ds) := by
  obtain ⟨b1, b2, b3⟩ := b
  refine ⟨by unfold toD; rw [b1]; rfl, by unfold PyData.canLay0; exact b2, ?_⟩
  simp only [PyData.depth]
  omega
theorem NiceAll.st {k : Nat} {xs : List LV} {ds : List PyData} (b : NiceAll k xs ds) : Nice (k + 1) (.st xs) (.tuple ds) := by
  obtain ⟨b1, b2, b3⟩ := b
  refine ⟨by unfold toD; rw [b1]; rfl, by unfold PyData.canLay0; exact b2, ?_⟩
  simp only [PyData.depth]
  omega
theorem NiceAll.fl {k : Nat} {xs : List LV} {ds : List PyData} (b : NiceAll k xs ds) : Nice (k + 1) (.fl xs) (.list ds) := by
  obtain ⟨b1, b2, b3⟩ := b
  refine ⟨by unfold toD; rw [b1]; rfl, by unfold PyData.canLay0; exact b2, ?_⟩
  simp only [PyData.depth]
  omega
theorem nice_str {x : Str} (h : PyData.strOk x = true) : Nice 1 (.str x) (.str x) := ⟨rfl, h, by simp [PyData.depth]⟩
theorem nice_int {i : Int} : Nice 1 (.int i) (.int i) := ⟨rfl, rfl, by simp [PyData.depth]⟩
theorem nice_non : Nice 1 .non .none := ⟨rfl, rfl, by simp [PyData.depth]⟩
/-- two shown alike are the same -/
theorem same_fl {k : Nat} {xs ys : List LV} {d : PyData} {L : LH} (hk : k ≤ 64) (a : Nice k (.fl xs) d) (b : Nice k (.fl ys) d) : gEq true (.fl xs) (.fl ys) L = .ok (.bl false) L := by
  obtain ⟨a1, a2, a3⟩ := a
  obtain ⟨b1, _, _⟩ := b
  have sh : SeqAt.shaped d = true := by
    unfold SeqAt.shaped
    rw [a2, decide_eq_true (show d.depth ≤ 64 by omega)]
    rfl
  have e := SeqAt.eqv_refl_plain d (PyData.plain_of_canLay0 d a2)
  show (match toD (.fl xs), toD (.fl ys) with
    | some d, some e => if SeqAt.shaped d = true ∧ SeqAt.shaped e = true then Res.ok (LV.bl (if true then !PyData.eqv d e else PyData.eqv d e)) L else .no
    | _, _ => .no) = _
  rw [a1, b1]
  simp only []
  rw [if_pos ⟨sh, sh⟩, e]
  rfl
theorem same_tup {k : Nat} {xs ys : List LV} {d : PyData} {L : LH} (hk : k ≤ 64) (a : Nice k (.tup xs) d) (b : Nice k (.tup ys) d) : gEq true (.tup xs) (.tup ys) L = .ok (.bl false) L := by
  obtain ⟨a1, a2, a3⟩ := a
  obtain ⟨b1, _, _⟩ := b
  have sh : SeqAt.shaped d = true := by
    unfold SeqAt.shaped
    rw [a2, decide_eq_true (show d.depth ≤ 64 by omega)]
    rfl
  have e := SeqAt.eqv_refl_plain d (PyData.plain_of_canLay0 d a2)
  show (match toD (.tup xs), toD (.tup ys) with
    | some d, some e => if SeqAt.shaped d = true ∧ SeqAt.shaped e = true then Res.ok (LV.bl (if true then !PyData.eqv d e else PyData.eqv d e)) L else .no
    | _, _ => .no) = _
  rw [a1, b1]
  simp only []
  rw [if_pos ⟨sh, sh⟩, e]
  rfl
/-- a list whose items are data -/
def NI (xs : List LV) : Prop := ∃ ds, NiceAll 8 xs ds
theorem NiceAll.up {k j : Nat} {xs : List LV} {ds : List PyData} (h : NiceAll k xs ds) (e : k ≤ j) : NiceAll j xs ds := ⟨h.1, h.2.1, Nat.le_trans h.2.2 e⟩
theorem Nice.up {k j : Nat} {x : LV} {d : PyData} (h : Nice k x d) (e : k ≤ j) : Nice j x d := ⟨h.1, h.2.1, Nat.le_trans h.2.2 e⟩
theorem NiceAll.app {k : Nat} : ∀ {xs : List LV} {ds : List PyData} {ys : List LV} {es : List PyData}, NiceAll k xs ds → NiceAll k ys es → ∃ fs, NiceAll k (xs ++ ys) fs
  | [], _, _, _, _, h => ⟨_, h⟩
  | x :: r, ds, ys, es, a, b => by
    obtain ⟨a1, a2, a3⟩ := a
    unfold toDs at a1
    cases e1 : toD x with
    | none => rw [e1] at a1; cases a1
    | some d =>
      cases e2 : toDs r with
      | none => rw [e1, e2] at a1; cases a1
      | some es =>
        rw [e1, e2] at a1
        cases a1
        unfold PyData.canLayAll0 at a2
        rw [Bool.and_eq_true] at a2
        simp only [PyData.depthAll] at a3
        obtain ⟨fs, h⟩ := NiceAll.app (xs := r) ⟨e2, a2.2, by omega⟩ b
        exact ⟨_, NiceAll.cons ⟨e1, a2.1, by omega⟩ h⟩
theorem NI.app {xs : List LV} {y : LV} {d : PyData} (h : NI xs) (g : Nice 8 y d) : NI (xs ++ [y]) := by
  obtain ⟨ds, h⟩ := h
  exact NiceAll.app h (NiceAll.cons g .nil)
theorem NI.nil : NI [] := ⟨[], .nil⟩
theorem NI.same {xs : List LV} {L : LH} (h : NI xs) : gEq true (.tup xs) (.tup xs) L = .ok (.bl false) L := by
  obtain ⟨ds, h⟩ := h
  exact same_tup (k := 9) (by decide) h.tup h.tup
theorem NI.sameF {xs : List LV} {L : LH} (h : NI xs) : gEq true (.fl xs) (.fl xs) L = .ok (.bl false) L := by
  obtain ⟨ds, h⟩ := h
  exact same_fl (k := 9) (by decide) h.fl h.fl
theorem NI.ne {xs : List LV} {L : LH} (h : NI xs) : gEq true (.tup xs) (.tup []) L = .ok (.bl (!xs.isEmpty)) L := by
  obtain ⟨ds, h⟩ := h
  obtain ⟨a1, a2, a3⟩ := h.tup
  have sh : SeqAt.shaped (.tuple ds) = true := by
    unfold SeqAt.shaped
    rw [a2, decide_eq_true (show (PyData.tuple ds).depth ≤ 64 by omega)]
    rfl
  have sh0 : SeqAt.shaped (.tuple []) = true := by rfl
  have e : PyData.eqv (.tuple ds) (.tuple []) = xs.isEmpty := by
    obtain ⟨h1, _, _⟩ := h
    cases xs with
    | nil => cases h1; rfl
    | cons x r =>
      unfold toDs at h1
      cases e1 : toD x with
      | none => rw [e1] at h1; cases h1
      | some d =>
        cases e2 : toDs r with
        | none => rw [e1, e2] at h1; cases h1
        | some es => rw [e1, e2] at h1; cases h1; rfl
  show (match toD (.tup xs), toD (.tup []) with
    | some d, some e => if SeqAt.shaped d = true ∧ SeqAt.shaped e = true then Res.ok (LV.bl (if true then !PyData.eqv d e else PyData.eqv d e)) L else .no
    | _, _ => .no) = _
  rw [a1]
  show (if SeqAt.shaped (.tuple ds) = true ∧ SeqAt.shaped (.tuple []) = true then Res.ok (LV.bl (if true then !PyData.eqv (.tuple ds) (.tuple []) else PyData.eqv (.tuple ds) (.tuple []))) L else .no) = _
  rw [if_pos ⟨sh, sh0⟩, e]
  rfl
end Q
end
section
set_option Elab.async false
set_option linter.all false
set_option maxRecDepth 100000
set_option maxHeartbeats 1000000
/-! Qy: rolls and rounds that all laws share; dicts of a few texts as functions; sorted keys -/
namespace Q
open PySem L2
/-! ### rolls -/
def BROLL : MS := (mSeq (mIfS (mOr (mTest (mOp (gEq false) (mOp gIx (mVar 0) (mC (.int 2))) (mC (.int 2)))) (mAnd (mTest (mOp (gEq false) (mOp gIx (mVar 0) (mC (.int 2))) (mC (.int 1)))) (mTest (mOp gGt (mOp gIx (mVar 0) (mC (.int 0))) (mC (.int 0))))))
  (mSeq (mAsg (mOp gMod (mBlt fInt (mCons (mOp gIx (mVar 0) (mC (.int 0))) mNil)) (mVar 1)) (gN 2))
  (mSeq (mSetIx (mVar 0) (mC (.int 0)) (mOp gFdiv (mOp gIx (mVar 0) (mC (.int 0))) (mVar 1)))
  (mRet (mVar 2))))
  mSkip)
  (mSeq (mSetIx (mVar 0) (mC (.int 2)) (mC (.int 0)))
  (mSeq (mSetIx (mVar 0) (mC (.int 0)) (mOp gMod (mBlt fInt (mCons (mOp gAdd (mOp gAdd (mOp gMul (mOp gIx (mVar 0) (mC (.int 0))) (mC (.int 48271))) (mOp gMul (mOp gIx (mVar 0) (mC (.int 1))) (mC (.int 69621)))) (mC (.int 11))) mNil)) (mC (.int 2147483647))))
  (mSeq (mSetIx (mVar 0) (mC (.int 1)) (mOp gAdd (mOp gIx (mVar 0) (mC (.int 1))) (mC (.int 1))))
  (mRet (mOp gMod (mBlt fInt (mCons (mOp gFdiv (mOp gIx (mVar 0) (mC (.int 0))) (mC (.int 7))) mNil)) (mVar 1)))))))
def BDICE : MS := (mSeq (mIfS (mTest (mChain gLt gLt (mOp gSub (mC (.int 0)) (mC (.int 10))) (mVar 0) (mC (.int 10))))
  (mRet (mLst (mCons (mBlt fAbs (mCons (mVar 0) mNil)) (mCons (mC (.int 0)) (mCons (mC (.int 2)) mNil)))))
  mSkip)
  (mRet (mLst (mCons (mVar 0) (mCons (mOp gAdd (mC (.int 1)) (mOp gMod (mBlt fInt (mCons (mVar 0) mNil)) (mC (.int 1009)))) (mCons (mBlt fInt (mCons (mOp gGe (mVar 0) (mOp gPow (mC (.int 10)) (mC (.int 18)))) mNil)) mNil))))))
def FROLL : List LV → M LV := callF 3 BROLL
def FDICE : List LV → M LV := callF 1 BDICE
def BROUNDS : MS := (mSeq (mAsg (mSl (mVar 0) mNoP (mPart (mVar 1))) (gN 2))
  (mSeq (mIfS (mTest (mOp (gEq false) (mVar 2) (mFl mNil)))
  (mAsg (mFl (mCons (mC (.int 0)) mNil)) (gN 2))
  mSkip)
  (mRet (mLc (mIt (mVar 2)) (gN 3) mYes (mCall FDICE [] (mCons (mVar 3) mNil)) [3]))))
def FROUNDS : List LV → M LV := callF 4 BROUNDS
abbrev dice (x y z : Int) : LO := .lst [.int x, .int y, .int z]
theorem roll_w {x y z n : Int} {R : LH} {Z : LV → LH → Prop} (h0 : 0 < n) (h1 : n < 1073741824) (h : ∀ r x y z, 0 ≤ r → r < n → Z (.int r) (dice x y z :: R)) : WP (FROLL [.ref 0, .int n] (dice x y z :: R)) Z := by
  unfold FROLL BROLL
  simp only [WP_bind, WP_ok, WP_no, WP_ite, WS_lift', WS_next, WS_ret, WS_brk, WS_cont, WS_seq, WS_ite, WP_call, mSeq, mIfS, mAsg, mRet, mRetN, mSetIx, mDrop, mOr, mAnd, mNot, mTest, mOp, mVar, mC, mCons, mNil, mBlt, mTup, mFl, mLst, mIf, mUn, mNotV, mAndV, mOrV, toB, mSkip, mBreak, mCont, mPar, e_gI, e_gIc, e_gMul, e_gAdd, e_gCmp, e_gEq, e_gEqS, e_ix30, e_ix31, e_ix32, e_set30, e_set31, e_set32, e_t40, e_t41, e_t42, e_t43, Bool.false_eq_true, gN, gT, gNil, gCons, Option.bind_some, Option.bind_none, fAbs, fMax, fMin, fInt,   List.map_cons, List.map_nil, List.cons_append, List.nil_append, List.length_cons, List.length_nil, List.replicate, List.set_cons_succ, List.set_cons_zero, List.getElem?_cons_succ, List.getElem?_cons_zero, Nat.reduceSub, Nat.reduceAdd, Nat.reduceLeDiff, if_true, if_false, true_and, and_true, false_and, and_false, mChain, mRaise, mBM, mFld, mDGet1, mDGet2, mDPut, mSetFld, mMeth, mCall, mMake, mDNew, isNon, mFor, mI, mIt, mLc, mYes, mTupG, gTupG, mSl, mNoP, mPart, mJoin, wipeL, List.append_nil, Bool.not_true, Bool.not_false, decide_true, true_implies, false_implies, implies_true, reduceCtorEq, Bool.true_eq_false, Bool.and_true, Bool.true_and, WP_exc, WS_exc, if_true]
  have e1 : cMul x 48271 = true := by simp [cMul]
  have e2 : cMul y 69621 = true := by simp [cMul]
  have d0 : (decide (0 < n)) = true := decide_eq_true h0
  have d1 : (decide (n < 1073741824)) = true := decide_eq_true h1
  have r1 : 0 ≤ x % n ∧ x % n < n := ⟨Int.emod_nonneg _ (by omega), Int.emod_lt_of_pos _ h0⟩
  have r2 : ∀ t : Int, 0 ≤ t % n ∧ t % n < n := fun t => ⟨Int.emod_nonneg _ (by omega), Int.emod_lt_of_pos _ h0⟩
  simp only [e1, e2, d0, d1, Bool.and_true, true_and, true_implies, reduceCtorEq, false_implies, and_true, true_implies, Bool.false_eq_true, decide_true, show decide ((0 : Int) < 7) = true from rfl, show decide ((0 : Int) < 2147483647) = true from rfl, show decide ((7 : Int) < 1073741824) = true from rfl, Bool.true_eq_false, implies_true]
  refine ⟨fun _ => h _ _ _ _ r1.1 r1.2, fun _ => ⟨fun _ => ⟨fun _ => h _ _ _ _ r1.1 r1.2, fun _ => h _ _ _ _ (r2 _).1 (r2 _).2⟩, fun _ => h _ _ _ _ (r2 _).1 (r2 _).2⟩⟩
/-- a roll: any number below n -/
theorem roll_c {n : Int} {d : LO} {R : LH} (hd : ∃ x y z, d = dice x y z) (h0 : 0 < n := by decide) (h1 : n < 1073741824 := by decide) : ∃ r x y z, 0 ≤ r ∧ r < n ∧ FROLL [.ref 0, .int n] (d :: R) = .ok (.int r) (dice x y z :: R) := by
  obtain ⟨x, y, z, rfl⟩ := hd
  obtain ⟨v, L1, e, r, x', y', z', a, b, rfl, rfl⟩ := (roll_w (x := x) (y := y) (z := z) (R := R) (Z := fun v L1 => ∃ r x y z, 0 ≤ r ∧ r < n ∧ v = .int r ∧ L1 = dice x y z :: R) h0 h1 fun r x y z a b => ⟨r, x, y, z, a, b, rfl, rfl⟩).ex
  exact ⟨r, x', y', z', a, b, e⟩
theorem roll_p {n : Int} {L : LH} {p : LV} {Z : LV → LH → Prop} {d x y z : Int} {k : Nat} (hp : p = .ref k) (hd : L[k]? = some (dice x y z)) (h0 : 0 < n := by decide) (h1 : n < 1073741824 := by decide) : ∃ r x y z, 0 ≤ r ∧ r < n ∧ FROLL [p, .int n] L = .ok (.int r) (L.set k (dice x y z)) := by
  subst hp
  have g0 : ∀ a b c : Int, ∀ M : LH, M[k]? = some (dice a b c) → gIx (.ref k) (.int 0) M = .ok (.int a) M ∧ gIx (.ref k) (.int 1) M = .ok (.int b) M ∧ gIx (.ref k) (.int 2) M = .ok (.int c) M := fun a b c M h => by
    refine ⟨?_, ?_, ?_⟩ <;> simp only [gIx, tview, lviewR, lview, h] <;> rfl
  have s0 : ∀ a b c v : Int, ∀ M : LH, M[k]? = some (dice a b c) → setIx M (.ref k) (.int 0) (.int v) = some (M.set k (dice v b c)) ∧ setIx M (.ref k) (.int 1) (.int v) = some (M.set k (dice a v c)) ∧ setIx M (.ref k) (.int 2) (.int v) = some (M.set k (dice a b v)) := fun a b c v M h => by
    refine ⟨?_, ?_, ?_⟩ <;> simp only [setIx, h] <;> rfl
  have hs : ∀ a b c : Int, ∀ M : LH, k < M.length → (M.set k (dice a b c))[k]? = some (dice a b c) := fun a b c M h => List.getElem?_set_self h
  have hk : k < L.length := at_lt hd
  have c1 : ∀ t, cMul t 48271 = true := fun t => by simp [cMul]
  have c2 : ∀ t, cMul t 69621 = true := fun t => by simp [cMul]
  have d0 : (decide (0 < n)) = true := decide_eq_true h0
  have d1 : (decide (n < 1073741824)) = true := decide_eq_true h1
  have r2 : ∀ t : Int, 0 ≤ t % n ∧ t % n < n := fun t => ⟨Int.emod_nonneg _ (by omega), Int.emod_lt_of_pos _ h0⟩
  by_cases hc : z = 2 ∨ (z = 1 ∧ 0 < x)
  · refine ⟨x % n, x / n, y, z, (r2 _).1, (r2 _).2, ?_⟩
    unfold FROLL BROLL
    rcases hc with hc | ⟨hc, hx⟩
    · simp only [callF, mSeq, mIfS, mAsg, mRet, mRetN, mDrop, mOr, mAnd, mNot, mTest, mOp, mUn, mVar, mC, mCons, mNil, mBlt, mTup, mFl, mLst, mIf, mNotV, mAndV, mOrV, toB, mSkip, mBreak, mCont, mRaise, mBM, mFld, mDGet1, mDGet2, mDPut, mDDel, mDIn, mSetFld, mSetIx, mAugFld, mMeth, mCall, mMake, mDNew, mDisp, mPCons, mPNil, kvOf, keyOf, mChain, mPar, mTru, truthL, Res.bind, lift, Fl.andThen, isNon, gN, gT, gCons, gNil, Option.bind_some, gIsN, e_gEqS, e_gEq, e_gI, e_gIc, e_gMul, e_gAdd, e_gCmp, gSub, gAddI, gFdiv, gMod,   List.map_cons, List.map_nil, List.cons_append, List.nil_append, List.append_nil, List.length_cons, List.length_nil, List.replicate, List.set_cons_succ, List.set_cons_zero, List.getElem?_cons_succ, List.getElem?_cons_zero, Nat.reduceSub, Nat.reduceAdd, if_true, if_false, Bool.false_eq_true, Bool.true_eq_false, Bool.not_true, Bool.not_false, reduceCtorEq, Nat.reduceLeDiff, g0 _ _ _ _ hd, hc, decide_true, fInt, d0, d1, Bool.and_self, s0 _ _ _ _ _ hd]
    · have hx' : decide ((0 : Int) < x) = true := decide_eq_true hx
      simp only [callF, mSeq, mIfS, mAsg, mRet, mRetN, mDrop, mOr, mAnd, mNot, mTest, mOp, mUn, mVar, mC, mCons, mNil, mBlt, mTup, mFl, mLst, mIf, mNotV, mAndV, mOrV, toB, mSkip, mBreak, mCont, mRaise, mBM, mFld, mDGet1, mDGet2, mDPut, mDDel, mDIn, mSetFld, mSetIx, mAugFld, mMeth, mCall, mMake, mDNew, mDisp, mPCons, mPNil, kvOf, keyOf, mChain, mPar, mTru, truthL, Res.bind, lift, Fl.andThen, isNon, gN, gT, gCons, gNil, Option.bind_some, gIsN, e_gEqS, e_gEq, e_gI, e_gIc, e_gMul, e_gAdd, e_gCmp, gSub, gAddI, gFdiv, gMod,   List.map_cons, List.map_nil, List.cons_append, List.nil_append, List.append_nil, List.length_cons, List.length_nil, List.replicate, List.set_cons_succ, List.set_cons_zero, List.getElem?_cons_succ, List.getElem?_cons_zero, Nat.reduceSub, Nat.reduceAdd, if_true, if_false, Bool.false_eq_true, Bool.true_eq_false, Bool.not_true, Bool.not_false, reduceCtorEq, Nat.reduceLeDiff, g0 _ _ _ _ hd, hc, hx', show decide ((1 : Int) = 2) = false from rfl, decide_true, fInt, d0, d1, Bool.and_self, s0 _ _ _ _ _ hd]
  · have hz : decide (z = 2) = false := decide_eq_false fun h => hc (.inl h)
    have a1 := s0 _ _ _ 0 _ hd
    have a2 := hs x y 0 L hk
    obtain ⟨X, eX⟩ : ∃ X, X = (x * 48271 + y * 69621 + 11) % 2147483647 := ⟨_, rfl⟩
    have a3 := s0 _ _ _ X _ a2
    have a4 : ((L.set k (dice x y 0)).set k (dice X y 0))[k]? = some (dice X y 0) := hs _ _ _ _ (by rw [List.length_set]; exact hk)
    have a5 := s0 _ _ _ (y + 1) _ a4
    have a6 : (((L.set k (dice x y 0)).set k (dice X y 0)).set k (dice X (y + 1) 0))[k]? = some (dice X (y + 1) 0) := hs _ _ _ _ (by rw [List.length_set, List.length_set]; exact hk)
    refine ⟨X / 7 % n, X, y + 1, 0, (r2 _).1, (r2 _).2, ?_⟩
    have ee : L.set k (dice X (y + 1) 0) = ((L.set k (dice x y 0)).set k (dice X y 0)).set k (dice X (y + 1) 0) := by rw [List.set_set, List.set_set]
    rw [ee]
    unfold FROLL BROLL
    by_cases h1 : z = 1
    · have hx : decide ((0 : Int) < x) = false := decide_eq_false fun h => hc (.inr ⟨h1, h⟩)
      simp only [callF, mSeq, mIfS, mAsg, mRet, mRetN, mDrop, mOr, mAnd, mNot, mTest, mOp, mUn, mVar, mC, mCons, mNil, mBlt, mTup, mFl, mLst, mIf, mNotV, mAndV, mOrV, toB, mSkip, mBreak, mCont, mRaise, mBM, mFld, mDGet1, mDGet2, mDPut, mDDel, mDIn, mSetFld, mSetIx, mAugFld, mMeth, mCall, mMake, mDNew, mDisp, mPCons, mPNil, kvOf, keyOf, mChain, mPar, mTru, truthL, Res.bind, lift, Fl.andThen, isNon, gN, gT, gCons, gNil, Option.bind_some, gIsN, e_gEqS, e_gEq, e_gI, e_gIc, e_gMul, e_gAdd, e_gCmp, gSub, gAddI, gFdiv, gMod,   List.map_cons, List.map_nil, List.cons_append, List.nil_append, List.append_nil, List.length_cons, List.length_nil, List.replicate, List.set_cons_succ, List.set_cons_zero, List.getElem?_cons_succ, List.getElem?_cons_zero, Nat.reduceSub, Nat.reduceAdd, if_true, if_false, Bool.false_eq_true, Bool.true_eq_false, Bool.not_true, Bool.not_false, reduceCtorEq, Nat.reduceLeDiff, g0 _ _ _ _ hd, h1, hx, show decide ((1 : Int) = 2) = false from rfl, decide_true, a1, g0 _ _ _ _ a2, c1, c2, fInt, show decide ((0 : Int) < 2147483647) = true from rfl, ← eX, a3, g0 _ _ _ _ a4, a5, g0 _ _ _ _ a6, d0, show decide ((0 : Int) < 7) = true from rfl, show decide ((7 : Int) < 1073741824) = true from rfl, Bool.and_self]
    · have hz1 : decide (z = 1) = false := decide_eq_false h1
      simp only [callF, mSeq, mIfS, mAsg, mRet, mRetN, mDrop, mOr, mAnd, mNot, mTest, mOp, mUn, mVar, mC, mCons, mNil, mBlt, mTup, mFl, mLst, mIf, mNotV, mAndV, mOrV, toB, mSkip, mBreak, mCont, mRaise, mBM, mFld, mDGet1, mDGet2, mDPut, mDDel, mDIn, mSetFld, mSetIx, mAugFld, mMeth, mCall, mMake, mDNew, mDisp, mPCons, mPNil, kvOf, keyOf, mChain, mPar, mTru, truthL, Res.bind, lift, Fl.andThen, isNon, gN, gT, gCons, gNil, Option.bind_some, gIsN, e_gEqS, e_gEq, e_gI, e_gIc, e_gMul, e_gAdd, e_gCmp, gSub, gAddI, gFdiv, gMod,   List.map_cons, List.map_nil, List.cons_append, List.nil_append, List.append_nil, List.length_cons, List.length_nil, List.replicate, List.set_cons_succ, List.set_cons_zero, List.getElem?_cons_succ, List.getElem?_cons_zero, Nat.reduceSub, Nat.reduceAdd, if_true, if_false, Bool.false_eq_true, Bool.true_eq_false, Bool.not_true, Bool.not_false, reduceCtorEq, Nat.reduceLeDiff, g0 _ _ _ _ hd, hz, hz1, a1, g0 _ _ _ _ a2, c1, c2, fInt, show decide ((0 : Int) < 2147483647) = true from rfl, ← eX, a3, g0 _ _ _ _ a4, a5, g0 _ _ _ _ a6, d0, show decide ((0 : Int) < 7) = true from rfl, show decide ((7 : Int) < 1073741824) = true from rfl, Bool.and_self]
/-! ### rounds -/
theorem dice_w {c : Int} {L : LH} {Z : LV → LH → Prop} (h : ∀ x y z, Z (.ref L.length) (L ++ [dice x y z])) : WP (FDICE [.int c] L) Z := by
  unfold FDICE BDICE
  simp only [WP_bind, WP_ok, WP_no, WP_ite, WS_lift', WS_next, WS_ret, WS_brk, WS_cont, WS_seq, WS_ite, WP_call, mSeq, mIfS, mAsg, mRet, mRetN, mSetIx, mDrop, mOr, mAnd, mNot, mTest, mOp, mVar, mC, mCons, mNil, mBlt, mTup, mFl, mLst, mIf, mUn, mNotV, mAndV, mOrV, toB, mSkip, mBreak, mCont, mPar, e_gI, e_gIc, e_gMul, e_gAdd, e_gCmp, e_gEq, e_gEqS, e_ix30, e_ix31, e_ix32, e_set30, e_set31, e_set32, e_t40, e_t41, e_t42, e_t43, Bool.false_eq_true, gN, gT, gNil, gCons, Option.bind_some, Option.bind_none, fAbs, fMax, fMin, fInt,   List.map_cons, List.map_nil, List.cons_append, List.nil_append, List.length_cons, List.length_nil, List.replicate, List.set_cons_succ, List.set_cons_zero, List.getElem?_cons_succ, List.getElem?_cons_zero, Nat.reduceSub, Nat.reduceAdd, Nat.reduceLeDiff, if_true, if_false, true_and, and_true, false_and, and_false, mChain, mRaise, mBM, mFld, mDGet1, mDGet2, mDPut, mSetFld, mMeth, mCall, mMake, mDNew, isNon, mFor, mI, mIt, mLc, mYes, mTupG, gTupG, mSl, mNoP, mPart, mJoin, wipeL, List.append_nil, Bool.not_true, Bool.not_false, decide_true, true_implies, false_implies, implies_true, reduceCtorEq, Bool.true_eq_false, Bool.and_true, Bool.true_and, WP_exc, WS_exc, if_true]
  simp only [h, implies_true, and_true, true_and, true_implies, show decide ((0 : Int) < 1009) = true from rfl, show (decide ((0 : Int) ≤ 18) && decide ((18 : Int) ≤ 1000) && decide (Int.natAbs 10 < 2 ^ 64)) = true from rfl, Bool.true_eq_false, false_implies, reduceCtorEq]
theorem e_sls {xs : List LV} {L : LH} : gSl (.sl xs) none (some 1) L = .ok (.fl (cutL xs none (some 1))) L := rfl
theorem cut1_nil : cutL ([] : List LV) none (some 1) = [] := rfl
theorem cut1_cons {v : LV} {xs : List LV} : cutL (v :: xs) none (some 1) = [v] := by
  unfold cutL
  have : HT.sIx (v :: xs).length (v :: xs).length (some 1) = 1 := by
    show min (1 : Int).toNat (v :: xs).length = 1
    rw [List.length_cons]
    show min 1 (xs.length + 1) = 1
    omega
  rw [this]
  rfl
theorem rounds_w {ns : List Int} {L0 : LH} {Z : LV → LH → Prop} (hz : ∀ x y z : Int, Z (.fl [.ref L0.length]) (L0 ++ [dice x y z])) : WP (FROUNDS [.sl (ns.map .int), .int 1] L0) Z := by
  have one : ∀ (c : Int) (s : Sl), WP (mLc (mIt (mVar 2)) (gN 3) mYes (mCall FDICE [] (mCons (mVar 3) mNil)) [3] [some (.sl (ns.map .int)), some (.int 1), some (.fl [.int c]), none] L0) Z := fun c s => by
    unfold mLc mIt
    simp only [WP_bind, mVar, WP_ok, List.getElem?_cons_succ, List.getElem?_cons_zero, e_itF]
    refine WP_lc (n := 1) (fun i acc L => (i = 0 ∧ acc = [] ∧ L = L0) ∨ (i = 1 ∧ acc = [.ref L0.length] ∧ ∃ x y z : Int, L = L0 ++ [dice x y z])) (by unfold FUEL; omega) (fun i acc L hi q => by rcases q with ⟨_, rfl, _⟩ | ⟨_, rfl, _⟩ <;> simp) ?_ ?_ (.inl ⟨rfl, rfl, rfl⟩)
    · rintro i acc L hi (⟨rfl, rfl, rfl⟩ | ⟨rfl, _⟩)
      · refine ⟨.int c, _, rfl, rfl, ?_⟩
        simp only [WP_bind, WP_ok, WP_no, WP_ite, WS_lift', WS_next, WS_ret, WS_brk, WS_cont, WS_seq, WS_ite, WP_call, mSeq, mIfS, mAsg, mRet, mRetN, mSetIx, mDrop, mOr, mAnd, mNot, mTest, mOp, mVar, mC, mCons, mNil, mBlt, mTup, mFl, mLst, mIf, mUn, mNotV, mAndV, mOrV, toB, mSkip, mBreak, mCont, mPar, e_gI, e_gIc, e_gMul, e_gAdd, e_gCmp, e_gEq, e_gEqS, e_ix30, e_ix31, e_ix32, e_set30, e_set31, e_set32, e_t40, e_t41, e_t42, e_t43, Bool.false_eq_true, gN, gT, gNil, gCons, Option.bind_some, Option.bind_none, fAbs, fMax, fMin, fInt,   List.map_cons, List.map_nil, List.cons_append, List.nil_append, List.length_cons, List.length_nil, List.replicate, List.set_cons_succ, List.set_cons_zero, List.getElem?_cons_succ, List.getElem?_cons_zero, Nat.reduceSub, Nat.reduceAdd, Nat.reduceLeDiff, if_true, if_false, true_and, and_true, false_and, and_false, mChain, mRaise, mBM, mFld, mDGet1, mDGet2, mDPut, mSetFld, mMeth, mCall, mMake, mDNew, isNon, mFor, mI, mIt, mLc, mYes, mTupG, gTupG, mSl, mNoP, mPart, mJoin, wipeL, List.append_nil, Bool.not_true, Bool.not_false, decide_true, true_implies, false_implies, implies_true, reduceCtorEq, Bool.true_eq_false, Bool.and_true, Bool.true_and, WP_exc, WS_exc, if_true]
        refine dice_w fun x y z => ?_
        exact .inr ⟨rfl, x, y, z, rfl⟩
      · omega
    · rintro acc L (⟨q, _⟩ | ⟨_, rfl, x, y, z, rfl⟩)
      · omega
      · exact ⟨rfl, hz x y z⟩
  unfold FROUNDS BROUNDS
  have e0 : ∀ L, gEq false (.fl []) (.fl []) L = .ok (.bl true) L := fun L => rfl
  have e1 : ∀ (c : Int) L, gEq false (.fl [.int c]) (.fl []) L = .ok (.bl false) L := fun c L => rfl
  cases ns with
  | nil =>
    simp only [WP_call, mSeq, WS_seq, mAsg, WS_lift', mRet, mIfS, mSl, mVar, mNoP, mPart, mC, WP_bind, WP_ok, List.map_cons, List.map_nil, List.cons_append, List.nil_append, List.length_cons, List.length_nil, Nat.reduceSub, Nat.reduceAdd, List.replicate, List.getElem?_cons_succ, List.getElem?_cons_zero, e_sls, cut1_nil, gN, WS_next, List.set_cons_succ, List.set_cons_zero,
      mTest, mOp, mFl, mNil, mCons, toB, e0, Nat.zero_le, if_true, WS_ret, show (1 : Nat) ≤ 1000 from by decide]
    exact one 0 []
  | cons c r =>
    simp only [WP_call, mSeq, WS_seq, mAsg, WS_lift', mRet, mIfS, mSl, mVar, mNoP, mPart, mC, WP_bind, WP_ok, List.map_cons, List.map_nil, List.cons_append, List.nil_append, List.length_cons, List.length_nil, Nat.reduceSub, Nat.reduceAdd, List.replicate, List.getElem?_cons_succ, List.getElem?_cons_zero, e_sls, cut1_cons, gN, WS_next, List.set_cons_succ, List.set_cons_zero,
      mTest, mOp, mFl, mNil, mCons, toB, e1, Nat.zero_le, if_true, WS_ret, Bool.false_eq_true, if_false, mSkip]
    exact one c []
theorem rounds_c (ns : List Int) (L0 : LH) : ∃ x y z, FROUNDS [.sl (ns.map .int), .int 1] L0 = .ok (.fl [.ref L0.length]) (L0 ++ [dice x y z]) := by
  obtain ⟨v, L1, e, x, y, z, rfl, rfl⟩ := (rounds_w (ns := ns) (L0 := L0) (Z := fun v L => ∃ x y z : Int, v = .fl [.ref L0.length] ∧ L = L0 ++ [dice x y z]) fun x y z => ⟨x, y, z, rfl, rfl⟩).ex
  exact ⟨x, y, z, e⟩
/-! ### a few texts as keys -/
theorem sort_of {U ks : List Str} (pw : U.Pairwise LeS) (nU : U.Nodup) (hn : ks.Nodup) (hs : ∀ k, k ∈ ks → k ∈ U) : sortS ks = U.filter fun k => decide (k ∈ ks) := by
  refine List.Perm.eq_of_pairwise (le := LeS) (fun a b _ _ h1 h2 => LeS.anti h1 h2) (sortS_pw ks) (pw.sublist List.filter_sublist) ((sortS_perm ks).trans ?_)
  rw [List.perm_ext_iff_of_nodup hn (nU.sublist List.filter_sublist)]
  intro k
  rw [List.mem_filter]
  exact ⟨fun h => ⟨hs k h, decide_eq_true h⟩, fun h => of_decide_eq_true h.2⟩
/-- texts in order -/
structure Uo (U : List Str) : Prop where
  pw : U.Pairwise LeS
  nd : U.Nodup
  len : U.length < 64
/-- D tells f of texts of U -/
structure Rep (U : List Str) (D : List (Key × LV)) (f : Str → Option LV) : Prop where
  nd : (D.map (·.1)).Nodup
  ks : ∀ x, x ∈ D.map (·.1) → ∃ k, k ∈ U ∧ x = .inr k
  at_ : ∀ k, lookK D (.inr k) = f k
section
variable {U : List Str} {D A B : List (Key × LV)} {f g : Str → Option LV} {L : LH} {n : Nat}
theorem Rep.len (h : Rep U D f) : D.length ≤ U.length := by
  have h0 : ∀ x, x ∈ D.map (·.1) → x ∈ (U.map Sum.inr : List Key) := fun x hx => by
    obtain ⟨k, hk, rfl⟩ := h.ks x hx
    exact List.mem_map_of_mem hk
  have := List.Nodup.length_le_of_subset h.nd (fun x hx => h0 x hx)
  simpa using this
theorem Rep.perm (a : Rep U A f) (b : Rep U B f) : A.Perm B := perm_of a.nd b.nd fun k => by
  cases k with
  | inr k => rw [a.at_, b.at_]
  | inl i =>
    have no : ∀ {D : List (Key × LV)}, Rep U D f → lookK D (.inl i) = none := fun d => look_none.mpr fun z => by
      obtain ⟨k, _, e⟩ := d.ks _ z
      cases e
    rw [no a, no b]
theorem Rep.nil : Rep U [] (fun _ => none) := ⟨by simp, fun x h => by simp at h, fun _ => rfl⟩
theorem Rep.put (h : Rep U D f) {k : Str} (hk : k ∈ U) (v : LV) : Rep U (putKL D (.inr k) v) (fun x => if x = k then some v else f x) := by
  refine ⟨nd_put h.nd, fun x hx => ?_, fun x => ?_⟩
  · rcases mem_keys_put.mp hx with z | z
    · exact h.ks x z
    · exact ⟨k, hk, z⟩
  · rw [look_put, h.at_]
    by_cases e : x = k
    · subst e; simp
    · rw [if_neg (fun z => e (by cases z; rfl)), if_neg e]
theorem Rep.filt (h : Rep U D f) (p : Key × LV → Bool) : Rep U (D.filter p) (fun k => (f k).bind fun v => if p (.inr k, v) = true then some v else none) := by
  refine ⟨nd_filter h.nd, fun x hx => h.ks x ((List.filter_sublist.map _).subset hx), fun k => ?_⟩
  rw [look_filter h.nd, h.at_]
theorem Rep.drop (h : Rep U D f) (k : Str) : Rep U (dropKL D (.inr k)) (fun x => if x = k then none else f x) := by
  have := h.filt fun kv => decide (kv.1 ≠ .inr k)
  refine ⟨this.nd, this.ks, fun x => ?_⟩
  refine (this.at_ x).trans ?_
  show ((f x).bind fun v => if decide ((.inr x : Key) ≠ .inr k) = true then some v else none) = _
  by_cases e : x = k
  · subst e; rw [if_pos rfl]; cases f x <;> simp
  · rw [if_neg e]
    have : (decide ((Sum.inr x : Key) ≠ .inr k)) = true := decide_eq_true fun z => e (by cases z; rfl)
    cases f x <;> simp [this, e]
theorem Rep.congr (h : Rep U D f) (e : ∀ k, f k = g k) : Rep U D g := ⟨h.nd, h.ks, fun k => (h.at_ k).trans (e k)⟩
theorem Rep.app (h : Rep U D f) {k : Str} (hk : k ∈ U) (v : LV) (hn : f k = none) : Rep U (D ++ [(.inr k, v)]) (fun x => if x = k then some v else f x) := by
  have : (.inr k : Key) ∉ D.map (·.1) := look_none.mp (by rw [h.at_, hn])
  have e := h.put hk v
  rwa [put_new this] at e
theorem Rep.mem (h : Rep U D f) {k : Str} {v : LV} (e : f k = some v) : (.inr k, v) ∈ D := (look_mem h.nd).mpr (by rw [h.at_, e])
theorem Rep.of_mem (h : Rep U D f) {p : Key × LV} (hp : p ∈ D) : ∃ k, k ∈ U ∧ p.1 = .inr k ∧ f k = some p.2 := by
  obtain ⟨k, hk, e⟩ := h.ks p.1 (List.mem_map_of_mem hp)
  refine ⟨k, hk, e, ?_⟩
  have := (look_mem h.nd).mp hp
  rw [e, h.at_] at this
  exact this
theorem strKeys_of (h : ∀ x, x ∈ D.map (·.1) → ∃ k, k ∈ U ∧ x = .inr k) : ∃ ks, strKeys D = some ks ∧ D.map (·.1) = ks.map Sum.inr := by
  induction D with
  | nil => exact ⟨[], rfl, rfl⟩
  | cons p r ih =>
    obtain ⟨ks, h1, h2⟩ := ih fun x hx => h x (by rw [List.map_cons]; exact List.mem_cons_of_mem _ hx)
    obtain ⟨k, _, e⟩ := h p.1 (by simp)
    obtain ⟨pk, pv⟩ := p
    cases e
    exact ⟨k :: ks, by unfold strKeys; rw [h1]; rfl, by rw [List.map_cons, h2]; rfl⟩
/-- sorted(d) -/
theorem sort_rep (u : Uo U) (hD : Rep U D f) (h : L[n]? = some (dk D)) : fSortD [.ref n] L = .ok (.fl ((U.filter fun k => (f k).isSome).map LV.str)) L := by
  obtain ⟨ks, h1, h2⟩ := strKeys_of hD.ks
  have hm : ∀ k : Str, (Sum.inr k : Key) ∈ D.map (·.1) ↔ k ∈ ks := fun k => by
    rw [h2, List.mem_map]
    exact ⟨fun ⟨x, hx, e⟩ => by cases e; exact hx, fun z => ⟨k, z, rfl⟩⟩
  have nk : ks.Nodup := by
    have nd := hD.nd
    rw [h2] at nd
    exact (List.pairwise_map.mp nd).imp fun g e => g (by rw [e])
  have hk : ∀ k, k ∈ ks → k ∈ U := fun k hk => by
    obtain ⟨k', h3, e⟩ := hD.ks (.inr k) ((hm k).mpr hk)
    cases e
    exact h3
  have hl : ks.length < 64 := by
    have := List.Nodup.length_le_of_subset nk (fun x hx => hk x hx)
    have := u.len
    omega
  simp only [fSortD, dictAt, h, Option.bind_some, h1, if_pos hl, sort_of u.pw u.nd nk hk]
  have : ∀ k : Str, decide (k ∈ ks) = (f k).isSome := fun k => by
    rw [← hD.at_ k, Bool.eq_iff_iff, decide_eq_true_iff, ← hm]
    cases e : lookK D (.inr k) with
    | none => exact ⟨fun z => absurd z (look_none.mp e), fun z => (by cases z)⟩
    | some v => exact ⟨fun _ => rfl, fun _ => Classical.byContradiction fun z => (by rw [look_none.mpr z] at e; cases e)⟩
  simp only [this]
end
theorem dictP_eq {L : LH} {xs : List (Key × LV)} (h : (xs.map (·.1)).Nodup) : fDictP [.fl (xs.map pr)] L = .ok (.ref L.length) (L ++ [dk xs]) := by
  simp only [fDictP, pairs_map]
  rw [show mergeKL [] xs = xs from merge_nil h]
end Q
end
section
set_option Elab.async false
set_option linter.all false
set_option maxRecDepth 100000
set_option maxHeartbeats 1000000
/-! Qz: loops whose turns all go on -/
namespace Q
open PySem L2
/-- a loop over items: what holds at each turn -/
theorem for_items {α : Type} {it : IT} {g : LV → Sl → Option Sl} {body : MS} {xs : List α} (vf : α → LV) (I : Sl → LH → Prop) (hl : xs.length < 100000) (hit : ∀ i s L, I s L → it i L = some ((xs[i]?).map vf))
    (step : ∀ x s L, x ∈ xs → I s L → ∃ s1 s2 L2, g (vf x) s = some s1 ∧ body s1 L = .next s2 L2 ∧ I s2 L2) {s : Sl} {L : LH} (h : I s L) : ∃ s' L', forGo it g body FUEL 0 s L = .next s' L' ∧ I s' L' := by
  have go : ∀ (m : Nat) (pre post : List α) (s : Sl) (L : LH), xs = pre ++ post → post.length < m → I s L → ∃ s' L', forGo it g body m pre.length s L = .next s' L' ∧ I s' L' := by
    intro m
    induction m with
    | zero => intro pre post s L _ h; omega
    | succ m ih =>
      intro pre post s L e h1 hI
      unfold forGo
      cases post with
      | nil =>
        have : it pre.length L = some none := by rw [hit _ _ _ hI, e]; simp
        rw [this]
        exact ⟨s, L, rfl, hI⟩
      | cons x r =>
        have hi : it pre.length L = some (some (vf x)) := by rw [hit _ _ _ hI, e]; simp
        obtain ⟨s1, s2, L2, h3, h4, h5⟩ := step x s L (by rw [e]; simp) hI
        rw [hi]
        simp only [h3, h4]
        simp only [List.length_cons] at h1
        have := ih (pre ++ [x]) r s2 L2 (by rw [e]; simp) (by omega) h5
        rwa [show (pre ++ [x]).length = pre.length + 1 by simp] at this
  exact go FUEL [] xs s L rfl (by unfold FUEL; omega) h
/-- a loop over numbers: what holds at each turn -/
theorem for_range {g : LV → Sl → Option Sl} {body : MS} {n : Nat} (I : Nat → Sl → LH → Prop) (hl : n < 100000)
    (step : ∀ i s L, i < n → I i s L → ∃ s1 s2 L2, g (.int i) s = some s1 ∧ body s1 L = .next s2 L2 ∧ I (i + 1) s2 L2) {s : Sl} {L : LH} (h : I 0 s L) : ∃ s' L', forGo (itR 0 n) g body FUEL 0 s L = .next s' L' ∧ I n s' L' := by
  have go : ∀ (m i : Nat) (s : Sl) (L : LH), i ≤ n → n < m + i → I i s L → ∃ s' L', forGo (itR 0 n) g body m i s L = .next s' L' ∧ I n s' L' := by
    intro m
    induction m with
    | zero => intro i s L h1 h2; omega
    | succ m ih =>
      intro i s L h1 h2 hI
      unfold forGo
      by_cases e : i < n
      · have hi : itR 0 n i L = some (some (.int i)) := by simp only [itR, if_pos e, Int.zero_add]
        obtain ⟨s1, s2, L2, h3, h4, h5⟩ := step i s L e hI
        rw [hi]
        simp only [h3, h4]
        exact ih (i + 1) s2 L2 (by omega) (by omega) h5
      · have hi : itR 0 n i L = some none := by simp only [itR, if_neg e]
        have : i = n := by omega
        subst this
        rw [hi]
        exact ⟨s, L, rfl, hI⟩
  exact go FUEL 0 s L (Nat.zero_le n) (by unfold FUEL; omega) h
theorem range1_ok {n : Int} {L : LH} (h0 : 0 ≤ n) (h1 : n < 1000000000) : range1 [.int n] L = .ok (itR 0 n.toNat) L := by
  simp only [range1]
  rw [if_pos ⟨by omega, by omega⟩]
theorem for_of {fi : Sl → M IT} {g : LV → Sl → Option Sl} {body : MS} {s s' : Sl} {L L1 L' : LH} {it : IT} (e : fi s L = .ok it L1) (h : forGo it g body FUEL 0 s L1 = .next s' L') : mFor fi g body s L = .next s' L' := by
  unfold mFor
  rw [e]
  exact h
/-- a locked loop that leaves what stood, and adds -/
theorem lockS_new {fn : Sl → M LV} {f : MS} {sl s2 : Sl} {L L' T : LH} {n : Nat} {W : List (Key × LV)} (h1 : fn sl L = .ok (.ref n) L') (h : L[n]? = some (dk W)) (h2 : f sl (L.set n (.lkK W)) = .next s2 (L.set n (.lkK W) ++ T)) : mLockS fn f sl L = .next s2 (L ++ T) := by
  have e : (L.set n (.lkK W) ++ T)[n]? = some (.lkK W) := at_app (at_self (at_lt h))
  have e2 : (L.set n (.lkK W) ++ T).set n (.dK W) = L ++ T := by
    rw [List.set_append_left _ _ (by rw [List.length_set]; exact at_lt h), set_back h]
  simp only [mLockS, h1, h, h2, unL, e, e2]
/-- a comprehension whose turns may add to the heap -/
theorem lc_inv {α : Type} {it : IT} {g : LV → Sl → Option Sl} {tt : Sl → M Bool} {fe : Sl → M LV} {s0 : Sl} {xs : List α} (vf : α → LV) (pf : α → Bool) (ef : α → LV) (I : LH → Prop) (hit : ∀ i L, I L → it i L = some ((xs[i]?).map vf)) (hl : xs.length < 100000)
    (step : ∀ x L, x ∈ xs → I L → ∃ s1 L2, g (vf x) s0 = some s1 ∧ tt s1 L = .ok (pf x) L2 ∧ I L2 ∧ (pf x = true → ∃ L3, fe s1 L2 = .ok (ef x) L3 ∧ I L3)) {L : LH} (h : I L) : ∃ L', lcGo it g tt fe s0 FUEL 0 [] L = .ok (.fl ((xs.filter pf).map ef)) L' ∧ I L' := by
  have go : ∀ (m : Nat) (pre post : List α) (acc : List LV) (L : LH), xs = pre ++ post → post.length < m → acc.length + post.length < 1000000 → I L → ∃ L', lcGo it g tt fe s0 m pre.length acc L = .ok (.fl (acc ++ (post.filter pf).map ef)) L' ∧ I L' := by
    intro m
    induction m with
    | zero => intro pre post acc L _ h; omega
    | succ m ih =>
      intro pre post acc L e h1 h2 hI
      unfold lcGo
      cases post with
      | nil =>
        have : it pre.length L = some none := by rw [hit _ _ hI, e]; simp
        rw [this]
        exact ⟨L, by simp, hI⟩
      | cons x r =>
        have hi : it pre.length L = some (some (vf x)) := by rw [hit _ _ hI, e]; simp
        obtain ⟨s1, L2, h3, h4, h5, h6⟩ := step x L (by rw [e]; simp) hI
        rw [hi]
        simp only [h3, h4]
        simp only [List.length_cons] at h1 h2
        have e2 : xs = (pre ++ [x]) ++ r := by rw [e]; simp
        have el : (pre ++ [x]).length = pre.length + 1 := by simp
        cases hp : pf x with
        | false =>
          obtain ⟨L', z1, z2⟩ := ih (pre ++ [x]) r acc L2 e2 (by omega) (by omega) h5
          rw [el] at z1
          rw [if_neg (by decide), List.filter_cons_of_neg (by simp [hp])]
          exact ⟨L', z1, z2⟩
        | true =>
          obtain ⟨L3, h7, h8⟩ := h6 hp
          obtain ⟨L', z1, z2⟩ := ih (pre ++ [x]) r (acc ++ [ef x]) L3 e2 (by omega) (by simp; omega) h8
          rw [el] at z1
          rw [if_pos rfl, h7, List.filter_cons_of_pos hp]
          simp only []
          rw [if_pos (by omega)]
          exact ⟨L', by rw [z1]; simp, z2⟩
  have := go FUEL [] xs [] L rfl (by unfold FUEL; omega) (by simp; omega) h
  simpa using this
end Q
end
section
set_option Elab.async false
set_option linter.all false
set_option maxRecDepth 100000
set_option maxHeartbeats 4000000
namespace Q.K18
open PySem PySem.Spec L2 Q
def top (i : Nat) : Stmt := PySem.Challenge.pw_pagestack_k18_values_that_go_in_time.main.body.getD i (.Pass ⟨0, 0, 0, 0⟩)

abbrev i_SizeError : Nat := 0
abbrev i_Path : Nat := 1
abbrev i_Mover : Nat := 2
def cg_law_told : Nat → Bool := fun c => c == 0
abbrev R_law_told : Str := "SizeError"
abbrev s_need_way : Stmt := top 6
abbrev N_need_way : List Str := ["length", "way"]
theorem sc_need_way : FnScope ["length", "way"] ["length", "way"] (defScope s_need_way) := ⟨rfl, rfl, rfl, by decide +kernel, rfl, by decide +kernel, by decide +kernel⟩

abbrev s_share_of : Stmt := top 7
abbrev N_share_of : List Str := ["gone", "length", "way", "left", "whole"]
theorem sc_share_of : FnScope ["gone", "length", "way", "left", "whole"] ["gone", "length", "way"] (defScope s_share_of) := ⟨rfl, rfl, rfl, by decide +kernel, rfl, by decide +kernel, by decide +kernel⟩

abbrev s_Path_init : Stmt := inClass (top 8) 0
abbrev N_Path_init : List Str := ["self", "first", "last", "start", "length", "way"]
theorem sc_Path_init : FnScope ["self", "first", "last", "start", "length", "way"] ["self", "first", "last", "start", "length", "way"] (defScope s_Path_init) := ⟨rfl, rfl, rfl, by decide +kernel, rfl, by decide +kernel, by decide +kernel⟩

abbrev s_Path_is_over : Stmt := inClass (top 8) 1
abbrev N_Path_is_over : List Str := ["self", "time"]
theorem sc_Path_is_over : FnScope ["self", "time"] ["self", "time"] (defScope s_Path_is_over) := ⟨rfl, rfl, rfl, by decide +kernel, rfl, by decide +kernel, by decide +kernel⟩

abbrev s_Path_value_at : Stmt := inClass (top 8) 2
abbrev N_Path_value_at : List Str := ["self", "time", "many", "whole"]
theorem sc_Path_value_at : FnScope ["self", "time", "many", "whole"] ["self", "time"] (defScope s_Path_value_at) := ⟨rfl, rfl, rfl, by decide +kernel, rfl, by decide +kernel, by decide +kernel⟩

abbrev s_Mover_init : Stmt := inClass (top 9) 0
abbrev N_Mover_init : List Str := ["self"]
theorem sc_Mover_init : FnScope ["self"] ["self"] (defScope s_Mover_init) := ⟨rfl, rfl, rfl, by decide +kernel, rfl, by decide +kernel, by decide +kernel⟩

abbrev s_Mover_set_way : Stmt := inClass (top 9) 1
abbrev N_Mover_set_way : List Str := ["self", "name", "length", "way"]
theorem sc_Mover_set_way : FnScope ["self", "name", "length", "way"] ["self", "name", "length", "way"] (defScope s_Mover_set_way) := ⟨rfl, rfl, rfl, by decide +kernel, rfl, by decide +kernel, by decide +kernel⟩

abbrev s_Mover_value_now : Stmt := inClass (top 9) 2
abbrev N_Mover_value_now : List Str := ["self", "name"]
theorem sc_Mover_value_now : FnScope ["self", "name"] ["self", "name"] (defScope s_Mover_value_now) := ⟨rfl, rfl, rfl, by decide +kernel, rfl, by decide +kernel, by decide +kernel⟩

abbrev s_Mover_stay : Stmt := inClass (top 9) 4
abbrev N_Mover_stay : List Str := ["self", "name", "value"]
theorem sc_Mover_stay : FnScope ["self", "name", "value"] ["self", "name", "value"] (defScope s_Mover_stay) := ⟨rfl, rfl, rfl, by decide +kernel, rfl, by decide +kernel, by decide +kernel⟩

abbrev s_Mover_longest_back : Stmt := inClass (top 9) 5
abbrev N_Mover_longest_back : List Str := ["self", "name", "last", "length", "path"]
theorem sc_Mover_longest_back : FnScope ["self", "name", "last", "length", "path"] ["self", "name", "last", "length"] (defScope s_Mover_longest_back) := ⟨rfl, rfl, rfl, by decide +kernel, rfl, by decide +kernel, by decide +kernel⟩

abbrev s_Mover_go_to : Stmt := inClass (top 9) 3
abbrev N_Mover_go_to : List Str := ["self", "name", "last", "now", "length", "way"]
theorem sc_Mover_go_to : FnScope ["self", "name", "last", "now", "length", "way"] ["self", "name", "last"] (defScope s_Mover_go_to) := ⟨rfl, rfl, rfl, by decide +kernel, rfl, by decide +kernel, by decide +kernel⟩

abbrev s_Mover_tick : Stmt := inClass (top 9) 6
abbrev N_Mover_tick : List Str := ["self", "many", "name", "ended"]
theorem sc_Mover_tick : FnScope ["self", "many", "name", "ended"] ["self", "many"] (defScope s_Mover_tick) := ⟨rfl, rfl, rfl, by decide +kernel, rfl, by decide +kernel, by decide +kernel⟩

abbrev s_Mover_moving : Stmt := inClass (top 9) 7
abbrev N_Mover_moving : List Str := ["self"]
theorem sc_Mover_moving : FnScope ["self"] ["self"] (defScope s_Mover_moving) := ⟨rfl, rfl, rfl, by decide +kernel, rfl, by decide +kernel, by decide +kernel⟩

abbrev s_law_dice : Stmt := top 11
abbrev N_law_dice : List Str := ["cell"]
theorem sc_law_dice : FnScope ["cell"] ["cell"] (defScope s_law_dice) := ⟨rfl, rfl, rfl, by decide +kernel, rfl, by decide +kernel, by decide +kernel⟩

abbrev s_law_roll : Stmt := top 12
abbrev N_law_roll : List Str := ["dice", "many", "found"]
theorem sc_law_roll : FnScope ["dice", "many", "found"] ["dice", "many"] (defScope s_law_roll) := ⟨rfl, rfl, rfl, by decide +kernel, rfl, by decide +kernel, by decide +kernel⟩

abbrev s_law_rounds : Stmt := top 13
abbrev N_law_rounds : List Str := ["script", "most", "cells", "cell"]
theorem sc_law_rounds : FnScope ["script", "most", "cells", "cell"] ["script", "most"] (defScope s_law_rounds) := ⟨rfl, rfl, rfl, by decide +kernel, rfl, by decide +kernel, by decide +kernel⟩

abbrev s_law_at : Stmt := top 15
abbrev N_law_at : List Str := ["row", "time", "first", "aim", "start", "length", "way", "gone", "left", "square", "above"]
theorem sc_law_at : FnScope ["row", "time", "first", "aim", "start", "length", "way", "gone", "left", "square", "above"] ["row", "time"] (defScope s_law_at) := ⟨rfl, rfl, rfl, by decide +kernel, rfl, by decide +kernel, by decide +kernel⟩

abbrev s_law : Stmt := top 16
abbrev N_law : List Str := ["script", "dice", "mover", "ways", "rows", "still", "time", "step", "sort", "name", "aim", "length", "way", "here", "one", "many", "ended", "due", "row", "path", "moment", "shares", "bad", "fresh", "gone", "f", "k"]
theorem sc_law : FnScope ["script", "dice", "mover", "ways", "rows", "still", "time", "step", "sort", "name", "aim", "length", "way", "here", "one", "many", "ended", "due", "row", "path", "moment", "shares", "bad", "fresh", "gone", "f", "k"] ["script"] (defScope s_law) := ⟨rfl, rfl, rfl, by decide +kernel, rfl, by decide +kernel, by decide +kernel⟩

abbrev s_law_told : Stmt := top 14
theorem sc_law_told : FnScope ["what"] ["what"] (defScope s_law_told) := ⟨rfl, rfl, rfl, by decide +kernel, rfl, by decide +kernel, by decide +kernel⟩

structure Ad where
  need_way : Addr
  fd_need_way : FuncData
  share_of : Addr
  fd_share_of : FuncData
  Path_init : Addr
  fd_Path_init : FuncData
  Path_is_over : Addr
  fd_Path_is_over : FuncData
  Path_value_at : Addr
  fd_Path_value_at : FuncData
  Mover_init : Addr
  fd_Mover_init : FuncData
  Mover_set_way : Addr
  fd_Mover_set_way : FuncData
  Mover_value_now : Addr
  fd_Mover_value_now : FuncData
  Mover_stay : Addr
  fd_Mover_stay : FuncData
  Mover_longest_back : Addr
  fd_Mover_longest_back : FuncData
  Mover_go_to : Addr
  fd_Mover_go_to : FuncData
  Mover_tick : Addr
  fd_Mover_tick : FuncData
  Mover_moving : Addr
  fd_Mover_moving : FuncData
  law_dice : Addr
  fd_law_dice : FuncData
  law_roll : Addr
  fd_law_roll : FuncData
  law_rounds : Addr
  fd_law_rounds : FuncData
  law_at : Addr
  fd_law_at : FuncData
  law : Addr
  fd_law : FuncData
  code_law : Addr
  tab_law : Addr
  o_WAYS : Addr
  o_AT_ONCE : Addr
  law_told : Addr
  fd_law_told : FuncData
structure Facts (P : Program) (w : World) (K : Kt) (mg : Str → Option Value) (base : Heap) (a : Ad) : Prop where
  bi : Vc.BIs mg
  f_need_way : Fun K.K "need_way" "need_way" s_need_way a.need_way a.fd_need_way
  g_need_way : mg "need_way" = some (.ref a.need_way)
  k_need_way : PySem.W.keepIn K.K (.ref a.need_way) = true
  b_need_way : Binds K.K a.fd_need_way ["length", "way"] []
  f_share_of : Fun K.K "share_of" "share_of" s_share_of a.share_of a.fd_share_of
  g_share_of : mg "share_of" = some (.ref a.share_of)
  k_share_of : PySem.W.keepIn K.K (.ref a.share_of) = true
  b_share_of : Binds K.K a.fd_share_of ["gone", "length", "way"] []
  f_Path_init : Fun K.K "__init__" "Path.__init__" s_Path_init a.Path_init a.fd_Path_init
  M_Path : Mk K.K (K.cl i_Path) a.Path_init
  bi_Path : Binds K.K a.fd_Path_init ["self", "first", "last", "start", "length", "way"] []
  f_Path_is_over : Fun K.K "is_over" "Path.is_over" s_Path_is_over a.Path_is_over a.fd_Path_is_over
  m_Path_is_over : Meth K.K (K.cl i_Path) "is_over" a.Path_is_over
  b_Path_is_over : Binds K.K a.fd_Path_is_over ["self", "time"] []
  f_Path_value_at : Fun K.K "value_at" "Path.value_at" s_Path_value_at a.Path_value_at a.fd_Path_value_at
  m_Path_value_at : Meth K.K (K.cl i_Path) "value_at" a.Path_value_at
  b_Path_value_at : Binds K.K a.fd_Path_value_at ["self", "time"] []
  f_Mover_init : Fun K.K "__init__" "Mover.__init__" s_Mover_init a.Mover_init a.fd_Mover_init
  M_Mover : Mk K.K (K.cl i_Mover) a.Mover_init
  bi_Mover : Binds K.K a.fd_Mover_init ["self"] []
  f_Mover_set_way : Fun K.K "set_way" "Mover.set_way" s_Mover_set_way a.Mover_set_way a.fd_Mover_set_way
  m_Mover_set_way : Meth K.K (K.cl i_Mover) "set_way" a.Mover_set_way
  b_Mover_set_way : Binds K.K a.fd_Mover_set_way ["self", "name", "length", "way"] []
  f_Mover_value_now : Fun K.K "value_now" "Mover.value_now" s_Mover_value_now a.Mover_value_now a.fd_Mover_value_now
  m_Mover_value_now : Meth K.K (K.cl i_Mover) "value_now" a.Mover_value_now
  b_Mover_value_now : Binds K.K a.fd_Mover_value_now ["self", "name"] []
  f_Mover_stay : Fun K.K "stay" "Mover.stay" s_Mover_stay a.Mover_stay a.fd_Mover_stay
  m_Mover_stay : Meth K.K (K.cl i_Mover) "stay" a.Mover_stay
  b_Mover_stay : Binds K.K a.fd_Mover_stay ["self", "name", "value"] []
  f_Mover_longest_back : Fun K.K "longest_back" "Mover.longest_back" s_Mover_longest_back a.Mover_longest_back a.fd_Mover_longest_back
  m_Mover_longest_back : Meth K.K (K.cl i_Mover) "longest_back" a.Mover_longest_back
  b_Mover_longest_back : Binds K.K a.fd_Mover_longest_back ["self", "name", "last", "length"] []
  f_Mover_go_to : Fun K.K "go_to" "Mover.go_to" s_Mover_go_to a.Mover_go_to a.fd_Mover_go_to
  m_Mover_go_to : Meth K.K (K.cl i_Mover) "go_to" a.Mover_go_to
  b_Mover_go_to : Binds K.K a.fd_Mover_go_to ["self", "name", "last"] []
  f_Mover_tick : FunV K.K "tick" "Mover.tick" s_Mover_tick a.Mover_tick a.fd_Mover_tick
  bd_Mover_tick : ∃ ds, Vals [.int 1] ds ∧ Binds K.K a.fd_Mover_tick ["self", "many"] ds
  m_Mover_tick : Meth K.K (K.cl i_Mover) "tick" a.Mover_tick
  b_Mover_tick : Binds K.K a.fd_Mover_tick ["self", "many"] []
  f_Mover_moving : Fun K.K "moving" "Mover.moving" s_Mover_moving a.Mover_moving a.fd_Mover_moving
  m_Mover_moving : Meth K.K (K.cl i_Mover) "moving" a.Mover_moving
  b_Mover_moving : Binds K.K a.fd_Mover_moving ["self"] []
  f_law_dice : Fun K.K "_law_dice" "_law_dice" s_law_dice a.law_dice a.fd_law_dice
  g_law_dice : mg "_law_dice" = some (.ref a.law_dice)
  k_law_dice : PySem.W.keepIn K.K (.ref a.law_dice) = true
  b_law_dice : Binds K.K a.fd_law_dice ["cell"] []
  f_law_roll : Fun K.K "_law_roll" "_law_roll" s_law_roll a.law_roll a.fd_law_roll
  g_law_roll : mg "_law_roll" = some (.ref a.law_roll)
  k_law_roll : PySem.W.keepIn K.K (.ref a.law_roll) = true
  b_law_roll : Binds K.K a.fd_law_roll ["dice", "many"] []
  f_law_rounds : Fun K.K "_law_rounds" "_law_rounds" s_law_rounds a.law_rounds a.fd_law_rounds
  g_law_rounds : mg "_law_rounds" = some (.ref a.law_rounds)
  k_law_rounds : PySem.W.keepIn K.K (.ref a.law_rounds) = true
  b_law_rounds : Binds K.K a.fd_law_rounds ["script", "most"] []
  f_law_at : Fun K.K "_law_at" "_law_at" s_law_at a.law_at a.fd_law_at
  g_law_at : mg "_law_at" = some (.ref a.law_at)
  k_law_at : PySem.W.keepIn K.K (.ref a.law_at) = true
  b_law_at : Binds K.K a.fd_law_at ["row", "time"] []
  f_law : FunC K.K "law" "law" s_law a.law a.fd_law a.code_law
  t_law : (a.tab_law, (PyProof.Rows.envOfC "law" (defScope s_law) 0 0 .none).qual ++ ("<lambda>" : Str)) ∈ K.TS
  u_law : ∀ p ∈ K.TS, p.1 = a.tab_law → p.2 = (PyProof.Rows.envOfC "law" (defScope s_law) 0 0 .none).qual ++ ("<lambda>" : Str)
  TL_law : LamX.TabB base mg a.code_law a.tab_law
  g_law : mg "law" = some (.ref a.law)
  k_law : PySem.W.keepIn K.K (.ref a.law) = true
  b_law : Binds K.K a.fd_law ["script"] []
  g_SizeError : mg "SizeError" = some (.ref (K.cl i_SizeError))
  x_SizeError : PySem.W.excIn K.K (K.cl i_SizeError) [.type "ValueError", .type "Exception", .type "BaseException", .type "object"] "ValueError.__new__" = true
  kc_SizeError : PySem.W.keepIn K.K (.ref (K.cl i_SizeError)) = true
  rb_SizeError : PySem.W.subIn K.K (.ref (K.cl i_SizeError)) (.type "BaseException") = some true
  rt_SizeError : PySem.W.typeIn K.K (.ref (K.cl i_SizeError)) = some (.type "type")
  g_Path : mg "Path" = some (.ref (K.cl i_Path))
  c_Path : Cls K.K (K.cl i_Path)
  n_Path_first : NoAttr K.K (K.cl i_Path) "first"
  n_Path_last : NoAttr K.K (K.cl i_Path) "last"
  n_Path_start : NoAttr K.K (K.cl i_Path) "start"
  n_Path_length : NoAttr K.K (K.cl i_Path) "length"
  n_Path_way : NoAttr K.K (K.cl i_Path) "way"
  g_Mover : mg "Mover" = some (.ref (K.cl i_Mover))
  c_Mover : Cls K.K (K.cl i_Mover)
  n_Mover_values_now : NoAttr K.K (K.cl i_Mover) "values_now"
  n_Mover_paths : NoAttr K.K (K.cl i_Mover) "paths"
  n_Mover_ways : NoAttr K.K (K.cl i_Mover) "ways"
  n_Mover_time : NoAttr K.K (K.cl i_Mover) "time"
  v_WAYS : mg "WAYS" = some (.ref a.o_WAYS)
  s_WAYS : StT K a.o_WAYS [.str "even", .str "slow", .str "fast", .str "both"]
  v_AT_ONCE : mg "AT_ONCE" = some (.ref a.o_AT_ONCE)
  s_AT_ONCE : StT K a.o_AT_ONCE [.int 0, .str "even"]
  f_law_told : Fun K.K "_law_told" "_law_told" s_law_told a.law_told a.fd_law_told
  g_law_told : mg "_law_told" = some (.ref a.law_told)
  b_law_told : Binds K.K a.fd_law_told ["what"] []
  e_law_told : ∀ c, cg_law_told c = true → PySem.W.exmOne K.K (.ref (K.cl c)) (.ref (K.cl i_SizeError)) = some true
section
variable {P : Program} {w : World} {K : Kt} {mg : Str → Option Value} {base : Heap} {a : Ad}
def V_WAYS : Sl → M LV := mC (.st [.str "even", .str "slow", .str "fast", .str "both"])
theorem T_WAYS {X : Cx} {W : WX} {pos : Pos} (E : Facts P w K mg base a) (h1 : X.mg = mg) (hK : X.K = K.K) (h2 : Gl X "WAYS") : QE X K W (.Name "WAYS" pos) V_WAYS := qe_st hK h2 (by rw [h1]; exact E.v_WAYS) E.s_WAYS (fun _ _ => .cons (.str _) (.cons (.str _) (.cons (.str _) (.cons (.str _) .nil))))
def V_AT_ONCE : Sl → M LV := mC (.st [.int 0, .str "even"])
theorem T_AT_ONCE {X : Cx} {W : WX} {pos : Pos} (E : Facts P w K mg base a) (h1 : X.mg = mg) (hK : X.K = K.K) (h2 : Gl X "AT_ONCE") : QE X K W (.Name "AT_ONCE" pos) V_AT_ONCE := qe_st hK h2 (by rw [h1]; exact E.v_AT_ONCE) E.s_AT_ONCE (fun _ _ => .cons (.int _) (.cons (.str _) .nil))
def lm_law (j : Nat) : Arguments × Expr × Scope := lamAt (defArgs s_law, .Name "x" ⟨0, 0, 0, 0⟩, defScope s_law) ((defBody s_law).getD 2 (.Pass ⟨0, 0, 0, 0⟩)) j
abbrev kA_law (j : Nat) := (lm_law j).1
abbrev kB_law (j : Nat) := (lm_law j).2.1
abbrev kS_law (j : Nat) := (lm_law j).2.2
theorem kl_law : ∀ j, j < 4 → LamX.lamSB (defScope s_law) (kS_law j) = true := by decide +kernel
theorem kbind_law : ∀ j, j < 4 → ∀ (q : Str) (cl : List (Str × Addr)) (pm cv ctv : Value), bindArgs (PySem.W.kla_fn "<lambda>" q (kA_law j) (kB_law j) (kS_law j) cl pm cv ctv) ⟨[], []⟩ = pure [] := fun j hj => match j, hj with
  | 0, _ => by intros; rfl
  | 1, _ => by intros; rfl
  | 2, _ => by intros; rfl
  | 3, _ => by intros; rfl
  | j + 4, h => absurd h (by omega)
def KB_law : Prop := True
theorem Facts.kept (E : Facts P w K mg base a) (lo : Nat → Addr → Addr → HO) (lq : Str) : Facts P w (K.kept lo lq) mg base a := { E with }
def B_need_way : MS := (mIfS (mOr (mTest (mOp gLt (mVar 0) (mC (.int 0)))) (mTest (mOp (gIn true) (mVar 1) V_WAYS)))
  (mRaise i_SizeError)
  mSkip)
def F_need_way : List LV → M LV := callF 2 B_need_way
theorem ok_need_way (E : Facts P w K mg base a) : FnOk P w K.K mg base (L2.CX P w) 2 a.need_way a.fd_need_way ["length", "way"] (spF K 2 F_need_way) :=
  q_fn (k := 1) E.f_need_way sc_need_way fun cdv A outer s H EX hr => by
    have nd := sc_need_way.nd
    exact (qss_one (qs_if (QW.pt (qw_or (qt_cmp oq_lt (qe_var (pv 0)) qe_int (nomark _)) (qw_or1 (qt_cmp (oq_notIn rfl) (qe_var (pv 1)) (T_WAYS E rfl rfl rfl) (by rfl)))))
  (qss_one (qs_raise rfl tkE (pmk_own PySem.F.excBase_ValueError E.x_SizeError E.g_SizeError E.kc_SizeError (raises_own E.rb_SizeError E.rt_SizeError) rfl)))
  qss_nil))

def B_share_of : MS := (mSeq (mAsg (mOp gSub (mVar 1) (mVar 0)) (gN 3))
  (mSeq (mAsg (mOp gMul (mVar 1) (mVar 1)) (gN 4))
  (mSeq (mIfS (mTest (mOp (gEq false) (mVar 2) (mC (.str "even"))))
  (mRet (mTup (mCons (mVar 0) (mCons (mVar 1) mNil))))
  mSkip)
  (mSeq (mIfS (mTest (mOp (gEq false) (mVar 2) (mC (.str "slow"))))
  (mRet (mTup (mCons (mOp gMul (mVar 0) (mVar 0)) (mCons (mVar 4) mNil))))
  mSkip)
  (mSeq (mIfS (mTest (mOp (gEq false) (mVar 2) (mC (.str "fast"))))
  (mRet (mTup (mCons (mOp gSub (mVar 4) (mOp gMul (mVar 3) (mVar 3))) (mCons (mVar 4) mNil))))
  mSkip)
  (mRet (mIf (mTest (mOp gLe (mOp gMul (mC (.int 2)) (mVar 0)) (mVar 1))) (mTup (mCons (mOp gMul (mOp gMul (mC (.int 2)) (mVar 0)) (mVar 0)) (mCons (mVar 4) mNil))) (mTup (mCons (mOp gSub (mVar 4) (mOp gMul (mOp gMul (mC (.int 2)) (mVar 3)) (mVar 3))) (mCons (mVar 4) mNil))))))))))
def F_share_of : List LV → M LV := callF 5 B_share_of
theorem ok_share_of (E : Facts P w K mg base a) : FnOk P w K.K mg base (L2.CX P w) 2 a.share_of a.fd_share_of ["gone", "length", "way"] (spF K 3 F_share_of) :=
  q_fn (k := 1) E.f_share_of sc_share_of fun cdv A outer s H EX hr => by
    have nd := sc_share_of.nd
    exact (qss_cons (qs_asg (qe_op oq_sub (qe_var (pv 1)) (qe_var (pv 0))) (qg_name (pg_name (i := 3) nd rfl (.inl rfl))))
  (qss_cons (qs_asg (qe_op oq_mul (qe_var (pv 1)) (qe_var (pv 1))) (qg_name (pg_name (i := 4) nd rfl (.inl rfl))))
  (qss_cons (qs_if (qt_cmp (oq_eq rfl (hu64 hr)) (qe_var (pv 2)) qe_str (nomark _))
  (qss_one (qs_ret (qe_tup (qa_cons (qe_var (pv 0)) (qa_cons (qe_var (pv 1)) qa_nil)))))
  qss_nil)
  (qss_cons (qs_if (qt_cmp (oq_eq rfl (hu64 hr)) (qe_var (pv 2)) qe_str (nomark _))
  (qss_one (qs_ret (qe_tup (qa_cons (qe_op oq_mul (qe_var (pv 0)) (qe_var (pv 0))) (qa_cons (qe_var (pv 4)) qa_nil)))))
  qss_nil)
  (qss_cons (qs_if (qt_cmp (oq_eq rfl (hu64 hr)) (qe_var (pv 2)) qe_str (nomark _))
  (qss_one (qs_ret (qe_tup (qa_cons (qe_op oq_sub (qe_var (pv 4)) (qe_op oq_mul (qe_var (pv 3)) (qe_var (pv 3)))) (qa_cons (qe_var (pv 4)) qa_nil)))))
  qss_nil)
  (qss_one (qs_ret (qe_ifExp (qt_cmp oq_le (qe_op oq_mul qe_int (qe_var (pv 0))) (qe_var (pv 1)) (nomark _)) (qe_tup (qa_cons (qe_op oq_mul (qe_op oq_mul qe_int (qe_var (pv 0))) (qe_var (pv 0))) (qa_cons (qe_var (pv 4)) qa_nil))) (qe_tup (qa_cons (qe_op oq_sub (qe_var (pv 4)) (qe_op oq_mul (qe_op oq_mul qe_int (qe_var (pv 3))) (qe_var (pv 3)))) (qa_cons (qe_var (pv 4)) qa_nil)))))))))))

def B_Path_init : MS := (mSeq (mDrop (mCall F_need_way [] (mCons (mVar 4) (mCons (mVar 5) mNil))))
  (mSeq (mSetFld i_Path "first" (mVar 0) (mVar 1))
  (mSeq (mSetFld i_Path "last" (mVar 0) (mVar 2))
  (mSeq (mSetFld i_Path "start" (mVar 0) (mVar 3))
  (mSeq (mSetFld i_Path "length" (mVar 0) (mVar 4))
  (mSetFld i_Path "way" (mVar 0) (mVar 5)))))))
def F_Path_init : List LV → M LV := callF 6 B_Path_init
theorem ok_Path_init (E : Facts P w K mg base a) : FnOk P w K.K mg base (L2.CX P w) 3 a.Path_init a.fd_Path_init ["self", "first", "last", "start", "length", "way"] (spF K 6 F_Path_init) :=
  q_fn (k := 2) E.f_Path_init sc_Path_init fun cdv A outer s H EX hr => by
    have nd := sc_Path_init.nd
    exact (qss_cons (qs_expr (qe_call (ok_need_way E) (hr.mono (by decide)) rfl E.g_need_way E.k_need_way E.b_need_way .nil (fun _ _ => .nil) tkE (qa_cons (qe_var (pv 4)) (qa_cons (qe_var (pv 5)) qa_nil)) rfl (len_cons (len_cons len_nil))))
  (qss_cons (qs_fld rfl (qe_var (pv 0)) (qe_var (pv 1)) E.c_Path E.n_Path_first)
  (qss_cons (qs_fld rfl (qe_var (pv 0)) (qe_var (pv 2)) E.c_Path E.n_Path_last)
  (qss_cons (qs_fld rfl (qe_var (pv 0)) (qe_var (pv 3)) E.c_Path E.n_Path_start)
  (qss_cons (qs_fld rfl (qe_var (pv 0)) (qe_var (pv 4)) E.c_Path E.n_Path_length)
  (qss_one (qs_fld rfl (qe_var (pv 0)) (qe_var (pv 5)) E.c_Path E.n_Path_way)))))))

def B_Path_is_over : MS := (mRet (mOp gGe (mVar 1) (mOp gAdd (mFld i_Path "start" (mVar 0)) (mFld i_Path "length" (mVar 0)))))
def F_Path_is_over : List LV → M LV := callF 2 B_Path_is_over
theorem ok_Path_is_over (E : Facts P w K mg base a) : FnOk P w K.K mg base (L2.CX P w) 2 a.Path_is_over a.fd_Path_is_over ["self", "time"] (spF K 2 F_Path_is_over) :=
  q_fn (k := 1) E.f_Path_is_over sc_Path_is_over fun cdv A outer s H EX hr => by
    have nd := sc_Path_is_over.nd
    exact (qss_one (qs_ret (qe_cmp oq_ge (qe_var (pv 1)) (qe_op (oq_add rfl) (qe_fld rfl (qe_var (pv 0)) E.c_Path E.n_Path_start) (qe_fld rfl (qe_var (pv 0)) E.c_Path E.n_Path_length)) (nomark _))))

def B_Path_value_at : MS := (mSeq (mIfS (mTest (mMeth i_Path "is_over" F_Path_is_over [] (mVar 0) (mCons (mVar 1) mNil)))
  (mRet (mFld i_Path "last" (mVar 0)))
  mSkip)
  (mSeq (mIfS (mTest (mOp gLe (mVar 1) (mFld i_Path "start" (mVar 0))))
  (mRet (mFld i_Path "first" (mVar 0)))
  mSkip)
  (mSeq (mAsg (mCall F_share_of [] (mCons (mOp gSub (mVar 1) (mFld i_Path "start" (mVar 0))) (mCons (mFld i_Path "length" (mVar 0)) (mCons (mFld i_Path "way" (mVar 0)) mNil)))) (gT 2 (gCons (gN 2) (gCons (gN 3) gNil))))
  (mRet (mOp gAdd (mFld i_Path "first" (mVar 0)) (mOp gFdiv (mOp gMul (mOp gSub (mFld i_Path "last" (mVar 0)) (mFld i_Path "first" (mVar 0))) (mVar 2)) (mVar 3)))))))
def F_Path_value_at : List LV → M LV := callF 4 B_Path_value_at
theorem ok_Path_value_at (E : Facts P w K mg base a) : FnOk P w K.K mg base (L2.CX P w) 3 a.Path_value_at a.fd_Path_value_at ["self", "time"] (spF K 2 F_Path_value_at) :=
  q_fn (k := 2) E.f_Path_value_at sc_Path_value_at fun cdv A outer s H EX hr => by
    have nd := sc_Path_value_at.nd
    exact (qss_cons (qs_if (qt_val (qe_meth (qe_var (pv 0)) E.c_Path E.m_Path_is_over (ok_Path_is_over E) (hr.mono (by decide)) E.b_Path_is_over .nil (fun _ _ => .nil) tkE (qa_cons (qe_var (pv 1)) qa_nil) rfl (len_cons len_nil)))
  (qss_one (qs_ret (qe_fld rfl (qe_var (pv 0)) E.c_Path E.n_Path_last)))
  qss_nil)
  (qss_cons (qs_if (qt_cmp oq_le (qe_var (pv 1)) (qe_fld rfl (qe_var (pv 0)) E.c_Path E.n_Path_start) (nomark _))
  (qss_one (qs_ret (qe_fld rfl (qe_var (pv 0)) E.c_Path E.n_Path_first)))
  qss_nil)
  (qss_cons (qs_asg (qe_call (ok_share_of E) (hr.mono (by decide)) rfl E.g_share_of E.k_share_of E.b_share_of .nil (fun _ _ => .nil) tkE (qa_cons (qe_op oq_sub (qe_var (pv 1)) (qe_fld rfl (qe_var (pv 0)) E.c_Path E.n_Path_start)) (qa_cons (qe_fld rfl (qe_var (pv 0)) E.c_Path E.n_Path_length) (qa_cons (qe_fld rfl (qe_var (pv 0)) E.c_Path E.n_Path_way) qa_nil))) rfl (len_cons (len_cons (len_cons len_nil)))) (qg_tup rfl rfl (qgs_cons (qg_name (pg_name (i := 2) nd rfl (.inl rfl))) (qgs_cons (qg_name (pg_name (i := 3) nd rfl (.inl rfl))) qgs_nil))))
  (qss_one (qs_ret (qe_op (oq_add rfl) (qe_fld rfl (qe_var (pv 0)) E.c_Path E.n_Path_first) (qe_op oq_fdiv (qe_op oq_mul (qe_op oq_sub (qe_fld rfl (qe_var (pv 0)) E.c_Path E.n_Path_last) (qe_fld rfl (qe_var (pv 0)) E.c_Path E.n_Path_first)) (qe_var (pv 2))) (qe_var (pv 3)))))))))

def B_Mover_init : MS := (mSeq (mSetFld i_Mover "values_now" (mVar 0) (mDNew (.dK [])))
  (mSeq (mSetFld i_Mover "paths" (mVar 0) (mDNew (.dK [])))
  (mSeq (mSetFld i_Mover "ways" (mVar 0) (mDNew (.dK [])))
  (mSetFld i_Mover "time" (mVar 0) (mC (.int 0))))))
def F_Mover_init : List LV → M LV := callF 1 B_Mover_init
theorem ok_Mover_init (E : Facts P w K mg base a) : FnOk P w K.K mg base (L2.CX P w) 2 a.Mover_init a.fd_Mover_init ["self"] (spF K 1 F_Mover_init) :=
  q_fn (k := 1) E.f_Mover_init sc_Mover_init fun cdv A outer s H EX hr => by
    have nd := sc_Mover_init.nd
    exact (qss_cons (qs_fld rfl (qe_var (pv 0)) qe_dnewK E.c_Mover E.n_Mover_values_now)
  (qss_cons (qs_fld rfl (qe_var (pv 0)) qe_dnewK E.c_Mover E.n_Mover_paths)
  (qss_cons (qs_fld rfl (qe_var (pv 0)) qe_dnewK E.c_Mover E.n_Mover_ways)
  (qss_one (qs_fld rfl (qe_var (pv 0)) qe_int E.c_Mover E.n_Mover_time)))))

def B_Mover_set_way : MS := (mSeq (mDrop (mCall F_need_way [] (mCons (mVar 2) (mCons (mVar 3) mNil))))
  (mDPut (mFld i_Mover "ways" (mVar 0)) (mVar 1) (mTup (mCons (mVar 2) (mCons (mVar 3) mNil)))))
def F_Mover_set_way : List LV → M LV := callF 4 B_Mover_set_way
theorem ok_Mover_set_way (E : Facts P w K mg base a) : FnOk P w K.K mg base (L2.CX P w) 3 a.Mover_set_way a.fd_Mover_set_way ["self", "name", "length", "way"] (spF K 4 F_Mover_set_way) :=
  q_fn (k := 2) E.f_Mover_set_way sc_Mover_set_way fun cdv A outer s H EX hr => by
    have nd := sc_Mover_set_way.nd
    exact (qss_cons (qs_expr (qe_call (ok_need_way E) (hr.mono (by decide)) rfl E.g_need_way E.k_need_way E.b_need_way .nil (fun _ _ => .nil) tkE (qa_cons (qe_var (pv 2)) (qa_cons (qe_var (pv 3)) qa_nil)) rfl (len_cons (len_cons len_nil))))
  (qss_one (qs_dput (hu_of hr) (qe_fld rfl (qe_var (pv 0)) E.c_Mover E.n_Mover_ways) (qe_var (pv 1)) (qe_tup (qa_cons (qe_var (pv 2)) (qa_cons (qe_var (pv 3)) qa_nil))))))

def B_Mover_value_now : MS := (mSeq (mIfS (mTest (mDIn false (mVar 1) (mFld i_Mover "paths" (mVar 0))))
  (mRet (mMeth i_Path "value_at" F_Path_value_at [] (mOp gDGet (mFld i_Mover "paths" (mVar 0)) (mVar 1)) (mCons (mFld i_Mover "time" (mVar 0)) mNil)))
  mSkip)
  (mSeq (mIfS (mTest (mDIn true (mVar 1) (mFld i_Mover "values_now" (mVar 0))))
  (mRaise i_SizeError)
  mSkip)
  (mRet (mOp gDGet (mFld i_Mover "values_now" (mVar 0)) (mVar 1)))))
def F_Mover_value_now : List LV → M LV := callF 2 B_Mover_value_now
theorem ok_Mover_value_now (E : Facts P w K mg base a) : FnOk P w K.K mg base (L2.CX P w) 4 a.Mover_value_now a.fd_Mover_value_now ["self", "name"] (spF K 2 F_Mover_value_now) :=
  q_fn (k := 3) E.f_Mover_value_now sc_Mover_value_now fun cdv A outer s H EX hr => by
    have nd := sc_Mover_value_now.nd
    exact (qss_cons (qs_if (qt_din (hu_of hr) (qe_var (pv 1)) (qe_fld rfl (qe_var (pv 0)) E.c_Mover E.n_Mover_paths))
  (qss_one (qs_ret (qe_meth (qe_dget (hu_of hr) (qe_fld rfl (qe_var (pv 0)) E.c_Mover E.n_Mover_paths) (qe_var (pv 1))) E.c_Path E.m_Path_value_at (ok_Path_value_at E) (hr.mono (by decide)) E.b_Path_value_at .nil (fun _ _ => .nil) tkE (qa_cons (qe_fld rfl (qe_var (pv 0)) E.c_Mover E.n_Mover_time) qa_nil) rfl (len_cons len_nil))))
  qss_nil)
  (qss_cons (qs_if (qt_dnotin (hu_of hr) (qe_var (pv 1)) (qe_fld rfl (qe_var (pv 0)) E.c_Mover E.n_Mover_values_now))
  (qss_one (qs_raise rfl tkE (pmk_own PySem.F.excBase_ValueError E.x_SizeError E.g_SizeError E.kc_SizeError (raises_own E.rb_SizeError E.rt_SizeError) rfl)))
  qss_nil)
  (qss_one (qs_ret (qe_dget (hu_of hr) (qe_fld rfl (qe_var (pv 0)) E.c_Mover E.n_Mover_values_now) (qe_var (pv 1)))))))

def B_Mover_stay : MS := (mSeq (mDPut (mFld i_Mover "values_now" (mVar 0)) (mVar 1) (mVar 2))
  (mIfS (mTest (mDIn false (mVar 1) (mFld i_Mover "paths" (mVar 0))))
  (mDDel (mFld i_Mover "paths" (mVar 0)) (mVar 1))
  mSkip))
def F_Mover_stay : List LV → M LV := callF 3 B_Mover_stay
theorem ok_Mover_stay (E : Facts P w K mg base a) : FnOk P w K.K mg base (L2.CX P w) 2 a.Mover_stay a.fd_Mover_stay ["self", "name", "value"] (spF K 3 F_Mover_stay) :=
  q_fn (k := 1) E.f_Mover_stay sc_Mover_stay fun cdv A outer s H EX hr => by
    have nd := sc_Mover_stay.nd
    exact (qss_cons (qs_dput (hu_of hr) (qe_fld rfl (qe_var (pv 0)) E.c_Mover E.n_Mover_values_now) (qe_var (pv 1)) (qe_var (pv 2)))
  (qss_one (qs_if (qt_din (hu_of hr) (qe_var (pv 1)) (qe_fld rfl (qe_var (pv 0)) E.c_Mover E.n_Mover_paths))
  (qss_one (qs_ddel (qe_fld rfl (qe_var (pv 0)) E.c_Mover E.n_Mover_paths) (qe_var (pv 1))))
  qss_nil)))

def B_Mover_longest_back : MS := (mSeq (mAsg (mDGet1 (mFld i_Mover "paths" (mVar 0)) (mVar 1)) (gN 4))
  (mSeq (mIfS (mOr (mTest (mOp (gIsN false) (mVar 4) (mC .non))) (mTest (mOp (gEq true) (mFld i_Path "first" (mVar 4)) (mVar 2))))
  (mRet (mVar 3))
  mSkip)
  (mRet (mOp gSub (mFld i_Mover "time" (mVar 0)) (mFld i_Path "start" (mVar 4))))))
def F_Mover_longest_back : List LV → M LV := callF 5 B_Mover_longest_back
theorem ok_Mover_longest_back (E : Facts P w K mg base a) : FnOk P w K.K mg base (L2.CX P w) 2 a.Mover_longest_back a.fd_Mover_longest_back ["self", "name", "last", "length"] (spF K 4 F_Mover_longest_back) :=
  q_fn (k := 1) E.f_Mover_longest_back sc_Mover_longest_back fun cdv A outer s H EX hr => by
    have nd := sc_Mover_longest_back.nd
    exact (qss_cons (qs_asg (qe_dget1 (hu_of hr) (qe_fld rfl (qe_var (pv 0)) E.c_Mover E.n_Mover_paths) (qe_var (pv 1))) (qg_name (pg_name (i := 4) nd rfl (.inl rfl))))
  (qss_cons (qs_if (QW.pt (qw_or (qt_cmp oq_isN (qe_var (pv 4)) qe_non (nomark _)) (qw_or1 (qt_cmp (oq_ne rfl (hu64 hr)) (qe_fld rfl (qe_var (pv 4)) E.c_Path E.n_Path_first) (qe_var (pv 2)) (nomark _)))))
  (qss_one (qs_ret (qe_var (pv 3))))
  qss_nil)
  (qss_one (qs_ret (qe_op oq_sub (qe_fld rfl (qe_var (pv 0)) E.c_Mover E.n_Mover_time) (qe_fld rfl (qe_var (pv 4)) E.c_Path E.n_Path_start))))))

def B_Mover_go_to : MS := (mSeq (mIfS (mAnd (mTest (mDIn true (mVar 1) (mFld i_Mover "paths" (mVar 0)))) (mTest (mDIn true (mVar 1) (mFld i_Mover "values_now" (mVar 0)))))
  (mSeq (mDrop (mMeth i_Mover "stay" F_Mover_stay [] (mVar 0) (mCons (mVar 1) (mCons (mVar 2) mNil))))
  mRetN)
  mSkip)
  (mSeq (mAsg (mMeth i_Mover "value_now" F_Mover_value_now [] (mVar 0) (mCons (mVar 1) mNil)) (gN 3))
  (mSeq (mAsg (mDGet2 (mFld i_Mover "ways" (mVar 0)) (mVar 1) V_AT_ONCE) (gT 2 (gCons (gN 4) (gCons (gN 5) gNil))))
  (mSeq (mIfS (mOr (mTest (mOp (gEq false) (mVar 3) (mVar 2))) (mTest (mOp (gEq false) (mVar 4) (mC (.int 0)))))
  (mSeq (mDrop (mMeth i_Mover "stay" F_Mover_stay [] (mVar 0) (mCons (mVar 1) (mCons (mVar 2) mNil))))
  mRetN)
  mSkip)
  (mSeq (mAsg (mBlt fMin (mCons (mVar 4) (mCons (mMeth i_Mover "longest_back" F_Mover_longest_back [] (mVar 0) (mCons (mVar 1) (mCons (mVar 2) (mCons (mVar 4) mNil)))) mNil))) (gN 4))
  (mDPut (mFld i_Mover "paths" (mVar 0)) (mVar 1) (mMake i_Path F_Path_init [] (mCons (mVar 3) (mCons (mVar 2) (mCons (mFld i_Mover "time" (mVar 0)) (mCons (mVar 4) (mCons (mVar 5) mNil))))))))))))
def F_Mover_go_to : List LV → M LV := callF 6 B_Mover_go_to
theorem ok_Mover_go_to (E : Facts P w K mg base a) : FnOk P w K.K mg base (L2.CX P w) 5 a.Mover_go_to a.fd_Mover_go_to ["self", "name", "last"] (spF K 3 F_Mover_go_to) :=
  q_fn (k := 4) E.f_Mover_go_to sc_Mover_go_to fun cdv A outer s H EX hr => by
    have nd := sc_Mover_go_to.nd
    exact (qss_cons (qs_if (QW.pt (qw_and (qt_dnotin (hu_of hr) (qe_var (pv 1)) (qe_fld rfl (qe_var (pv 0)) E.c_Mover E.n_Mover_paths)) (qw_and1 (qt_dnotin (hu_of hr) (qe_var (pv 1)) (qe_fld rfl (qe_var (pv 0)) E.c_Mover E.n_Mover_values_now)))))
  (qss_cons (qs_expr (qe_meth (qe_var (pv 0)) E.c_Mover E.m_Mover_stay (ok_Mover_stay E) (hr.mono (by decide)) E.b_Mover_stay .nil (fun _ _ => .nil) tkE (qa_cons (qe_var (pv 1)) (qa_cons (qe_var (pv 2)) qa_nil)) rfl (len_cons (len_cons len_nil))))
  (qss_one qs_retN))
  qss_nil)
  (qss_cons (qs_asg (qe_meth (qe_var (pv 0)) E.c_Mover E.m_Mover_value_now (ok_Mover_value_now E) (hr.mono (by decide)) E.b_Mover_value_now .nil (fun _ _ => .nil) tkE (qa_cons (qe_var (pv 1)) qa_nil) rfl (len_cons len_nil)) (qg_name (pg_name (i := 3) nd rfl (.inl rfl))))
  (qss_cons (qs_asg (qe_dget2 (hu_of hr) (qe_fld rfl (qe_var (pv 0)) E.c_Mover E.n_Mover_ways) (qe_var (pv 1)) (T_AT_ONCE E rfl rfl rfl)) (qg_tup rfl rfl (qgs_cons (qg_name (pg_name (i := 4) nd rfl (.inl rfl))) (qgs_cons (qg_name (pg_name (i := 5) nd rfl (.inl rfl))) qgs_nil))))
  (qss_cons (qs_if (QW.pt (qw_or (qt_cmp (oq_eq rfl (hu64 hr)) (qe_var (pv 3)) (qe_var (pv 2)) (nomark _)) (qw_or1 (qt_cmp (oq_eq rfl (hu64 hr)) (qe_var (pv 4)) qe_int (nomark _)))))
  (qss_cons (qs_expr (qe_meth (qe_var (pv 0)) E.c_Mover E.m_Mover_stay (ok_Mover_stay E) (hr.mono (by decide)) E.b_Mover_stay .nil (fun _ _ => .nil) tkE (qa_cons (qe_var (pv 1)) (qa_cons (qe_var (pv 2)) qa_nil)) rfl (len_cons (len_cons len_nil))))
  (qss_one qs_retN))
  qss_nil)
  (qss_cons (qs_asg (qe_callB (cq_min rfl) rfl E.bi.min Vc.b_min (qa_cons (qe_var (pv 4)) (qa_cons (qe_meth (qe_var (pv 0)) E.c_Mover E.m_Mover_longest_back (ok_Mover_longest_back E) (hr.mono (by decide)) E.b_Mover_longest_back .nil (fun _ _ => .nil) tkE (qa_cons (qe_var (pv 1)) (qa_cons (qe_var (pv 2)) (qa_cons (qe_var (pv 4)) qa_nil))) rfl (len_cons (len_cons (len_cons len_nil)))) qa_nil))) (qg_name (pg_name (i := 4) nd rfl (.inl rfl))))
  (qss_one (qs_dput (hu_of hr) (qe_fld rfl (qe_var (pv 0)) E.c_Mover E.n_Mover_paths) (qe_var (pv 1)) (qe_make E.M_Path (ok_Path_init E) (hr.mono (by decide)) rfl E.g_Path E.bi_Path .nil (fun _ _ => .nil) tkE (qa_cons (qe_var (pv 3)) (qa_cons (qe_var (pv 2)) (qa_cons (qe_fld rfl (qe_var (pv 0)) E.c_Mover E.n_Mover_time) (qa_cons (qe_var (pv 4)) (qa_cons (qe_var (pv 5)) qa_nil))))) rfl (len_cons (len_cons (len_cons (len_cons (len_cons len_nil)))))))))))))

def B_Mover_tick : MS := (mSeq (mAugFld i_Mover "time" gAddI (mVar 0) (mVar 1))
  (mSeq (mAsg (mLc (mIt (mBlt fSortD (mCons (mFld i_Mover "paths" (mVar 0)) mNil))) (gN 2) (mTest (mMeth i_Path "is_over" F_Path_is_over [] (mOp gDGet (mFld i_Mover "paths" (mVar 0)) (mVar 2)) (mCons (mFld i_Mover "time" (mVar 0)) mNil))) (mVar 2) [2]) (gN 3))
  (mSeq (mFor (mIt (mVar 3)) (gN 2)
  (mSeq (mDPut (mFld i_Mover "values_now" (mVar 0)) (mVar 2) (mFld i_Path "last" (mOp gDGet (mFld i_Mover "paths" (mVar 0)) (mVar 2))))
  (mDDel (mFld i_Mover "paths" (mVar 0)) (mVar 2))))
  (mRet (mBlt fTuple (mCons (mVar 3) mNil))))))
def F_Mover_tick : List LV → M LV := callF 4 B_Mover_tick
theorem ok_Mover_tick (E : Facts P w K mg base a) : FnOk P w K.K mg base (L2.CX P w) 3 a.Mover_tick a.fd_Mover_tick ["self", "many"] (spF K 2 F_Mover_tick) :=
  q_fnV (k := 2) E.f_Mover_tick sc_Mover_tick fun cdv A outer s H EX hr => by
    have nd := sc_Mover_tick.nd
    exact (qss_cons (qs_augFld rfl (qe_var (pv 0)) (qe_var (pv 1)) iq_add E.c_Mover E.n_Mover_time)
  (qss_cons (qs_setLc (k := 3) (ix := [2]) (own := [("name", 2)]) rfl nd rfl rfl (sw_true rfl rfl rfl (by decide +kernel)) (qi_val rfl (qe_callB (cq_sortD rfl) rfl E.bi.sorted Vc.b_sorted (qa_cons (qe_fld rfl (qe_var (pv 0)) E.c_Mover E.n_Mover_paths) qa_nil))) (blkOk_by (N := N_Mover_tick) (sc := defScope s_Mover_tick) (by decide +kernel)) (by decide) (fun _ _ _ _ _ => by exact (qg_name (pg_name (i := 2) nd rfl (.inl rfl)))) (fun _ _ _ _ _ => by exact (qts_one (qt_val (qe_meth (qe_dget (hu_of hr) (qe_fld rfl (qe_var (pv 0)) E.c_Mover E.n_Mover_paths) (qe_var (pv 2))) E.c_Path E.m_Path_is_over (ok_Path_is_over E) (hr.mono (by decide)) E.b_Path_is_over .nil (fun _ _ => .nil) takes0 (qa_cons (qe_fld rfl (qe_var (pv 0)) E.c_Mover E.n_Mover_time) qa_nil) rfl (len_cons len_nil))))) (fun _ _ _ _ _ => by exact (qe_var (pv 2))))
  (qss_cons (qs_for own_def rfl (qi_val rfl (qe_var (pv 3))) (qg_name (pg_name (i := 2) nd rfl (.inl rfl)))
  (qss_cons (qs_dput (hu_of hr) (qe_fld rfl (qe_var (pv 0)) E.c_Mover E.n_Mover_values_now) (qe_var (pv 2)) (qe_fld rfl (qe_dget (hu_of hr) (qe_fld rfl (qe_var (pv 0)) E.c_Mover E.n_Mover_paths) (qe_var (pv 2))) E.c_Path E.n_Path_last))
  (qss_one (qs_ddel (qe_fld rfl (qe_var (pv 0)) E.c_Mover E.n_Mover_paths) (qe_var (pv 2))))))
  (qss_one (qs_ret (qe_callTy (cq_tuple rfl) rfl E.bi.tuple Vc.b_tuple (qa_cons (qe_var (pv 3)) qa_nil)))))))

def B_Mover_moving : MS := (mRet (mBlt fTuple (mCons (mBlt fSortD (mCons (mFld i_Mover "paths" (mVar 0)) mNil)) mNil)))
def F_Mover_moving : List LV → M LV := callF 1 B_Mover_moving
theorem ok_Mover_moving (E : Facts P w K mg base a) : FnOk P w K.K mg base (L2.CX P w) 2 a.Mover_moving a.fd_Mover_moving ["self"] (spF K 1 F_Mover_moving) :=
  q_fn (k := 1) E.f_Mover_moving sc_Mover_moving fun cdv A outer s H EX hr => by
    have nd := sc_Mover_moving.nd
    exact (qss_one (qs_ret (qe_callTy (cq_tuple rfl) rfl E.bi.tuple Vc.b_tuple (qa_cons (qe_callB (cq_sortD rfl) rfl E.bi.sorted Vc.b_sorted (qa_cons (qe_fld rfl (qe_var (pv 0)) E.c_Mover E.n_Mover_paths) qa_nil)) qa_nil))))

def B_law_dice : MS := (mSeq (mIfS (mTest (mChain gLt gLt (mOp gSub (mC (.int 0)) (mC (.int 10))) (mVar 0) (mC (.int 10))))
  (mRet (mLst (mCons (mBlt fAbs (mCons (mVar 0) mNil)) (mCons (mC (.int 0)) (mCons (mC (.int 2)) mNil)))))
  mSkip)
  (mRet (mLst (mCons (mVar 0) (mCons (mOp gAdd (mC (.int 1)) (mOp gMod (mBlt fInt (mCons (mVar 0) mNil)) (mC (.int 1009)))) (mCons (mBlt fInt (mCons (mOp gGe (mVar 0) (mOp gPow (mC (.int 10)) (mC (.int 18)))) mNil)) mNil))))))
def F_law_dice : List LV → M LV := callF 1 B_law_dice
theorem ok_law_dice (E : Facts P w K mg base a) : FnOk P w K.K mg base (L2.CX P w) 2 a.law_dice a.fd_law_dice ["cell"] (spF K 1 F_law_dice) :=
  q_fn (k := 1) E.f_law_dice sc_law_dice fun cdv A outer s H EX hr => by
    have nd := sc_law_dice.nd
    exact (qss_cons (qs_if (qt_chain oq_lt oq_lt (qe_op oq_sub qe_int qe_int) (qe_var (pv 0)) qe_int)
  (qss_one (qs_ret (qe_lst (qa_cons (qe_callB cq_abs rfl E.bi.abs Vc.b_abs (qa_cons (qe_var (pv 0)) qa_nil)) (qa_cons qe_int (qa_cons qe_int qa_nil))))))
  qss_nil)
  (qss_one (qs_ret (qe_lst (qa_cons (qe_var (pv 0)) (qa_cons (qe_op (oq_add rfl) qe_int (qe_op oq_mod (qe_callTy cq_int rfl E.bi.int Vc.b_int (qa_cons (qe_var (pv 0)) qa_nil)) qe_int)) (qa_cons (qe_callTy cq_int rfl E.bi.int Vc.b_int (qa_cons (qe_cmp oq_ge (qe_var (pv 0)) (qe_op oq_pow qe_int qe_int) (nomark _)) qa_nil)) qa_nil)))))))

def B_law_roll : MS := (mSeq (mIfS (mOr (mTest (mOp (gEq false) (mOp gIx (mVar 0) (mC (.int 2))) (mC (.int 2)))) (mAnd (mTest (mOp (gEq false) (mOp gIx (mVar 0) (mC (.int 2))) (mC (.int 1)))) (mTest (mOp gGt (mOp gIx (mVar 0) (mC (.int 0))) (mC (.int 0))))))
  (mSeq (mAsg (mOp gMod (mBlt fInt (mCons (mOp gIx (mVar 0) (mC (.int 0))) mNil)) (mVar 1)) (gN 2))
  (mSeq (mSetIx (mVar 0) (mC (.int 0)) (mOp gFdiv (mOp gIx (mVar 0) (mC (.int 0))) (mVar 1)))
  (mRet (mVar 2))))
  mSkip)
  (mSeq (mSetIx (mVar 0) (mC (.int 2)) (mC (.int 0)))
  (mSeq (mSetIx (mVar 0) (mC (.int 0)) (mOp gMod (mBlt fInt (mCons (mOp gAdd (mOp gAdd (mOp gMul (mOp gIx (mVar 0) (mC (.int 0))) (mC (.int 48271))) (mOp gMul (mOp gIx (mVar 0) (mC (.int 1))) (mC (.int 69621)))) (mC (.int 11))) mNil)) (mC (.int 2147483647))))
  (mSeq (mSetIx (mVar 0) (mC (.int 1)) (mOp gAdd (mOp gIx (mVar 0) (mC (.int 1))) (mC (.int 1))))
  (mRet (mOp gMod (mBlt fInt (mCons (mOp gFdiv (mOp gIx (mVar 0) (mC (.int 0))) (mC (.int 7))) mNil)) (mVar 1)))))))
def F_law_roll : List LV → M LV := callF 3 B_law_roll
theorem ok_law_roll (E : Facts P w K mg base a) : FnOk P w K.K mg base (L2.CX P w) 2 a.law_roll a.fd_law_roll ["dice", "many"] (spF K 2 F_law_roll) :=
  q_fn (k := 1) E.f_law_roll sc_law_roll fun cdv A outer s H EX hr => by
    have nd := sc_law_roll.nd
    exact (qss_cons (qs_if (QW.pt (qw_or (qt_cmp (oq_eq rfl (hu64 hr)) (qe_ix rfl (qe_var (pv 0)) qe_int) qe_int (nomark _)) (qw_or1 (QW.pt (qw_and (qt_cmp (oq_eq rfl (hu64 hr)) (qe_ix rfl (qe_var (pv 0)) qe_int) qe_int (nomark _)) (qw_and1 (qt_cmp oq_gt (qe_ix rfl (qe_var (pv 0)) qe_int) qe_int (nomark _))))))))
  (qss_cons (qs_asg (qe_op oq_mod (qe_callTy cq_int rfl E.bi.int Vc.b_int (qa_cons (qe_ix rfl (qe_var (pv 0)) qe_int) qa_nil)) (qe_var (pv 1))) (qg_name (pg_name (i := 2) nd rfl (.inl rfl))))
  (qss_cons (qs_setIx (qe_op oq_fdiv (qe_ix rfl (qe_var (pv 0)) qe_int) (qe_var (pv 1))) (qe_var (pv 0)) qe_int)
  (qss_one (qs_ret (qe_var (pv 2))))))
  qss_nil)
  (qss_cons (qs_setIx qe_int (qe_var (pv 0)) qe_int)
  (qss_cons (qs_setIx (qe_op oq_mod (qe_callTy cq_int rfl E.bi.int Vc.b_int (qa_cons (qe_op (oq_add rfl) (qe_op (oq_add rfl) (qe_op oq_mul (qe_ix rfl (qe_var (pv 0)) qe_int) qe_int) (qe_op oq_mul (qe_ix rfl (qe_var (pv 0)) qe_int) qe_int)) qe_int) qa_nil)) qe_int) (qe_var (pv 0)) qe_int)
  (qss_cons (qs_setIx (qe_op (oq_add rfl) (qe_ix rfl (qe_var (pv 0)) qe_int) qe_int) (qe_var (pv 0)) qe_int)
  (qss_one (qs_ret (qe_op oq_mod (qe_callTy cq_int rfl E.bi.int Vc.b_int (qa_cons (qe_op oq_fdiv (qe_ix rfl (qe_var (pv 0)) qe_int) qe_int) qa_nil)) (qe_var (pv 1)))))))))

def B_law_rounds : MS := (mSeq (mAsg (mSl (mVar 0) mNoP (mPart (mVar 1))) (gN 2))
  (mSeq (mIfS (mTest (mOp (gEq false) (mVar 2) (mFl mNil)))
  (mAsg (mFl (mCons (mC (.int 0)) mNil)) (gN 2))
  mSkip)
  (mRet (mLc (mIt (mVar 2)) (gN 3) mYes (mCall F_law_dice [] (mCons (mVar 3) mNil)) [3]))))
def F_law_rounds : List LV → M LV := callF 4 B_law_rounds
theorem ok_law_rounds (E : Facts P w K mg base a) : FnOk P w K.K mg base (L2.CX P w) 3 a.law_rounds a.fd_law_rounds ["script", "most"] (spF K 2 F_law_rounds) :=
  q_fn (k := 2) E.f_law_rounds sc_law_rounds fun cdv A outer s H EX hr => by
    have nd := sc_law_rounds.nd
    exact (qss_cons (qs_asg (qe_slice rfl (qe_var (pv 0)) qo_none (qo_some (qe_var (pv 1)))) (qg_name (pg_name (i := 2) nd rfl (.inl rfl))))
  (qss_cons (qs_if (qt_cmp (oq_eq rfl (hu64 hr)) (qe_var (pv 2)) (qe_fl qa_nil) (nomark _))
  (qss_one (qs_asg (qe_fl (qa_cons qe_int qa_nil)) (qg_name (pg_name (i := 2) nd rfl (.inl rfl)))))
  qss_nil)
  (qss_one (qs_ret (qe_lc (ix := [3]) (own := [("cell", 3)]) rfl nd (qi_val rfl (qe_var (pv 2))) (blkOk_by (N := N_law_rounds) (sc := defScope s_law_rounds) (by decide +kernel)) (by decide) (fun _ _ _ _ _ => by exact (qg_name (pg_name (i := 3) nd rfl (.inl rfl)))) (fun _ _ _ _ _ => by exact qts_nil) (fun _ _ _ _ _ => by exact (qe_call (ok_law_dice E) (hr.mono (by decide)) rfl E.g_law_dice E.k_law_dice E.b_law_dice .nil (fun _ _ => .nil) takes0 (qa_cons (qe_var (pv 3)) qa_nil) rfl (len_cons len_nil))))))))

def B_law_at : MS := (mSeq (mAsg (mVar 0) (gT 5 (gCons (gN 2) (gCons (gN 3) (gCons (gN 4) (gCons (gN 5) (gCons (gN 6) gNil)))))))
  (mSeq (mAsg (mBlt fMax (mCons (mC (.int 0)) (mCons (mOp gSub (mVar 1) (mVar 4)) mNil))) (gN 7))
  (mSeq (mIfS (mTest (mOp gGe (mVar 1) (mOp gAdd (mVar 4) (mVar 5))))
  (mRet (mVar 3))
  mSkip)
  (mSeq (mIfS (mTest (mOp (gEq false) (mVar 7) (mC (.int 0))))
  (mRet (mVar 2))
  mSkip)
  (mSeq (mPar 8 9 (mCons (mOp gSub (mVar 5) (mVar 7)) (mCons (mOp gMul (mVar 5) (mVar 5)) mNil)))
  (mSeq (mAsg (mOp gDGet (mDisp (mPCons (mC (.str "even")) (mOp gMul (mVar 7) (mVar 5)) (mPCons (mC (.str "slow")) (mOp gMul (mVar 7) (mVar 7)) (mPCons (mC (.str "fast")) (mOp gSub (mVar 9) (mOp gMul (mVar 8) (mVar 8))) (mPCons (mC (.str "both")) (mIf (mTest (mOp gLe (mOp gMul (mC (.int 2)) (mVar 7)) (mVar 5))) (mOp gMul (mOp gMul (mC (.int 2)) (mVar 7)) (mVar 7)) (mOp gSub (mVar 9) (mOp gMul (mOp gMul (mC (.int 2)) (mVar 8)) (mVar 8)))) mPNil))))) (mVar 6)) (gN 10))
  (mRet (mOp gAdd (mVar 2) (mOp gFdiv (mOp gMul (mOp gSub (mVar 3) (mVar 2)) (mVar 10)) (mVar 9))))))))))
def F_law_at : List LV → M LV := callF 11 B_law_at
theorem ok_law_at (E : Facts P w K mg base a) : FnOk P w K.K mg base (L2.CX P w) 2 a.law_at a.fd_law_at ["row", "time"] (spF K 2 F_law_at) :=
  q_fn (k := 1) E.f_law_at sc_law_at fun cdv A outer s H EX hr => by
    have nd := sc_law_at.nd
    exact (qss_cons (qs_asg (qe_var (pv 0)) (qg_tup rfl rfl (qgs_cons (qg_name (pg_name (i := 2) nd rfl (.inl rfl))) (qgs_cons (qg_name (pg_name (i := 3) nd rfl (.inl rfl))) (qgs_cons (qg_name (pg_name (i := 4) nd rfl (.inl rfl))) (qgs_cons (qg_name (pg_name (i := 5) nd rfl (.inl rfl))) (qgs_cons (qg_name (pg_name (i := 6) nd rfl (.inl rfl))) qgs_nil)))))))
  (qss_cons (qs_asg (qe_callB (cq_max rfl) rfl E.bi.max Vc.b_max (qa_cons qe_int (qa_cons (qe_op oq_sub (qe_var (pv 1)) (qe_var (pv 4))) qa_nil))) (qg_name (pg_name (i := 7) nd rfl (.inl rfl))))
  (qss_cons (qs_if (qt_cmp oq_ge (qe_var (pv 1)) (qe_op (oq_add rfl) (qe_var (pv 4)) (qe_var (pv 5))) (nomark _))
  (qss_one (qs_ret (qe_var (pv 3))))
  qss_nil)
  (qss_cons (qs_if (qt_cmp (oq_eq rfl (hu64 hr)) (qe_var (pv 7)) qe_int (nomark _))
  (qss_one (qs_ret (qe_var (pv 2))))
  qss_nil)
  (qss_cons (qs_par (i := 8) (j := 9) rfl nd rfl rfl (by decide) rfl rfl (qa_cons (qe_op oq_sub (qe_var (pv 5)) (qe_var (pv 7))) (qa_cons (qe_op oq_mul (qe_var (pv 5)) (qe_var (pv 5))) qa_nil)) (by rfl))
  (qss_cons (qs_asg (qe_dget (hu_of hr) (qe_disp (qps_cons qe_str (qe_op oq_mul (qe_var (pv 7)) (qe_var (pv 5))) (qps_cons qe_str (qe_op oq_mul (qe_var (pv 7)) (qe_var (pv 7))) (qps_cons qe_str (qe_op oq_sub (qe_var (pv 9)) (qe_op oq_mul (qe_var (pv 8)) (qe_var (pv 8)))) (qps_cons qe_str (qe_ifExp (qt_cmp oq_le (qe_op oq_mul qe_int (qe_var (pv 7))) (qe_var (pv 5)) (nomark _)) (qe_op oq_mul (qe_op oq_mul qe_int (qe_var (pv 7))) (qe_var (pv 7))) (qe_op oq_sub (qe_var (pv 9)) (qe_op oq_mul (qe_op oq_mul qe_int (qe_var (pv 8))) (qe_var (pv 8))))) qps_nil)))) rfl rfl (fun z => nomatch z) (by decide)) (qe_var (pv 6))) (qg_name (pg_name (i := 10) nd rfl (.inl rfl))))
  (qss_one (qs_ret (qe_op (oq_add rfl) (qe_var (pv 2)) (qe_op oq_fdiv (qe_op oq_mul (qe_op oq_sub (qe_var (pv 3)) (qe_var (pv 2))) (qe_var (pv 10))) (qe_var (pv 9))))))))))))

def kb_law : Nat → Sl → M LV := fun j => [(mMeth i_Mover "set_way" F_Mover_set_way [] (mVar 23) (mCons (mC (.str "a")) (mCons (mUn gNeg (mC (.int 1))) (mCons (mC (.str "even")) mNil)))), (mMeth i_Mover "set_way" F_Mover_set_way [] (mVar 23) (mCons (mC (.str "a")) (mCons (mC (.int 5)) (mCons (mC (.str "odd")) mNil)))), (mMeth i_Mover "value_now" F_Mover_value_now [] (mVar 23) (mCons (mC (.str "a")) mNil)), (mMake i_Path F_Path_init [] (mCons (mC (.int 0)) (mCons (mC (.int 1)) (mCons (mC (.int 0)) (mCons (mUn gNeg (mC (.int 1))) (mCons (mC (.str "even")) mNil))))))].getD j (fun _ _ => .no)
theorem kept_law (E : Facts P w K mg base a) {A : Around} {outer : List Env} {s : Shared} {H : Hp} {EX : XK} {W : WX} {scope : Scope} {own : List (Str × Nat)} {ix : List Nat} {tg iter elt b : Expr} {fi : Sl → M IT} {gg : LV → Sl → Option Sl} {fe fb : Sl → M LV} {op : CmpOp} {g2 : LV → LV → M LV} {i k : Nat} {fv : Str} {pos p1 p2 p3 p4 : Pos}
    (hr : Room (k + 2) (cxOf (L2.CX P w) P w K.K mg base N_law "law" (defScope s_law) a.law (.ref a.code_law) A outer s H EX).A) (hN : (cxOf (L2.CX P w) P w K.K mg base N_law "law" (defScope s_law) a.law (.ref a.code_law) A outer s H EX).N.Nodup) (hi : QI (cxOf (L2.CX P w) P w K.K mg base N_law "law" (defScope s_law) a.law (.ref a.code_law) A outer s H EX) (K.kept (fun j => LamH (cxOf (L2.CX P w) P w K.K mg base N_law "law" (defScope s_law) a.law (.ref a.code_law) A outer s H EX) (kA_law j) (kB_law j) (kS_law j)) ((cxOf (L2.CX P w) P w K.K mg base N_law "law" (defScope s_law) a.law (.ref a.code_law) A outer s H EX).env.qual ++ "<lambda>")) W tg iter fi) (ok : BlkOk (cxOf (L2.CX P w) P w K.K mg base N_law "law" (defScope s_law) a.law (.ref a.code_law) A outer s H EX).N (cxOf (L2.CX P w) P w K.K mg base N_law "law" (defScope s_law) a.law (.ref a.code_law) A outer s H EX).env.scope scope own) (hv : ∀ j, j ∈ ix → j ∈ own.map (·.2))
    (htg : ∀ (s' : Shared) (H' : Hp) (C : Addr) (cl : List (Str × Addr)) (fp : List Addr), QG ((cxOf (L2.CX P w) P w K.K mg base N_law "law" (defScope s_law) a.law (.ref a.code_law) A outer s H EX).blk s' H' scope (compEnvC scope cl C (cxOf (L2.CX P w) P w K.K mg base N_law "law" (defScope s_law) a.law (.ref a.code_law) A outer s H EX).env) fp) (K.kept (fun j => LamH (cxOf (L2.CX P w) P w K.K mg base N_law "law" (defScope s_law) a.law (.ref a.code_law) A outer s H EX) (kA_law j) (kB_law j) (kS_law j)) ((cxOf (L2.CX P w) P w K.K mg base N_law "law" (defScope s_law) a.law (.ref a.code_law) A outer s H EX).env.qual ++ "<lambda>")) tg gg ix)
    (he : ∀ (s' : Shared) (H' : Hp) (C : Addr) (cl : List (Str × Addr)) (fp : List Addr), QE ((cxOf (L2.CX P w) P w K.K mg base N_law "law" (defScope s_law) a.law (.ref a.code_law) A outer s H EX).blk s' H' scope (compEnvC scope cl C (cxOf (L2.CX P w) P w K.K mg base N_law "law" (defScope s_law) a.law (.ref a.code_law) A outer s H EX).env) fp) (K.kept (fun j => LamH (cxOf (L2.CX P w) P w K.K mg base N_law "law" (defScope s_law) a.law (.ref a.code_law) A outer s H EX) (kA_law j) (kB_law j) (kS_law j)) ((cxOf (L2.CX P w) P w K.K mg base N_law "law" (defScope s_law) a.law (.ref a.code_law) A outer s H EX).env.qual ++ "<lambda>")) W0 elt fe)
    (hvar : ∀ (s' : Shared) (H' : Hp) (C : Addr) (cl : List (Str × Addr)) (fp : List Addr), PE ((cxOf (L2.CX P w) P w K.K mg base N_law "law" (defScope s_law) a.law (.ref a.code_law) A outer s H EX).blk s' H' scope (compEnvC scope cl C (cxOf (L2.CX P w) P w K.K mg base N_law "law" (defScope s_law) a.law (.ref a.code_law) A outer s H EX).env) fp) (.Name fv p2) (tVar i))
    (ho : ∀ (s' : Shared) (H' : Hp) (C : Addr) (cl : List (Str × Addr)) (fp : List Addr), OpQ ((cxOf (L2.CX P w) P w K.K mg base N_law "law" (defScope s_law) a.law (.ref a.code_law) A outer s H EX).blk s' H' scope (compEnvC scope cl C (cxOf (L2.CX P w) P w K.K mg base N_law "law" (defScope s_law) a.law (.ref a.code_law) A outer s H EX).env) fp) (K.kept (fun j => LamH (cxOf (L2.CX P w) P w K.K mg base N_law "law" (defScope s_law) a.law (.ref a.code_law) A outer s H EX) (kA_law j) (kB_law j) (kS_law j)) ((cxOf (L2.CX P w) P w K.K mg base N_law "law" (defScope s_law) a.law (.ref a.code_law) A outer s H EX).env.qual ++ "<lambda>")) (compareOp op) g2)
    (hb : ∀ (s' : Shared) (H' : Hp) (C : Addr) (cl : List (Str × Addr)) (fp : List Addr), QE ((cxOf (L2.CX P w) P w K.K mg base N_law "law" (defScope s_law) a.law (.ref a.code_law) A outer s H EX).blk s' H' scope (compEnvC scope cl C (cxOf (L2.CX P w) P w K.K mg base N_law "law" (defScope s_law) a.law (.ref a.code_law) A outer s H EX).env) fp) (K.kept (fun j => LamH (cxOf (L2.CX P w) P w K.K mg base N_law "law" (defScope s_law) a.law (.ref a.code_law) A outer s H EX) (kA_law j) (kB_law j) (kS_law j)) ((cxOf (L2.CX P w) P w K.K mg base N_law "law" (defScope s_law) a.law (.ref a.code_law) A outer s H EX).env.qual ++ "<lambda>")) W0 b fb)
    (hg : ∀ (s' : Shared) (H' : Hp) (C : Addr) (cl : List (Str × Addr)) (fp : List Addr), Gl ((cxOf (L2.CX P w) P w K.K mg base N_law "law" (defScope s_law) a.law (.ref a.code_law) A outer s H EX).blk s' H' scope (compEnvC scope cl C (cxOf (L2.CX P w) P w K.K mg base N_law "law" (defScope s_law) a.law (.ref a.code_law) A outer s H EX).env) fp) "_law_told")
    (hbody : ∀ j, j < 4 → ∀ (A' : Around) (outer' : List Env) (s' : Shared) (H' : Hp) (E' : XK) (f' c' : Addr), Room k (A'.deeper (LamX.lamEnv (cxOf (L2.CX P w) P w K.K mg base N_law "law" (defScope s_law) a.law (.ref a.code_law) A outer s H EX) (kS_law j) s'.heap.objs.size f' c')) → QE (LamX.lamCx (cxOf (L2.CX P w) P w K.K mg base N_law "law" (defScope s_law) a.law (.ref a.code_law) A outer s H EX) A' outer' s' H' E' (kS_law j) f' c') (K.kept (fun j => LamH (cxOf (L2.CX P w) P w K.K mg base N_law "law" (defScope s_law) a.law (.ref a.code_law) A outer s H EX) (kA_law j) (kB_law j) (kS_law j)) ((cxOf (L2.CX P w) P w K.K mg base N_law "law" (defScope s_law) a.law (.ref a.code_law) A outer s H EX).env.qual ++ "<lambda>")) (WD E') (kB_law j) (kb_law j))
    (hmk : behindInMarks op b = false) (hs : ∀ x, foldedSetIterable iter (cxOf (L2.CX P w) P w K.K mg base N_law "law" (defScope s_law) a.law (.ref a.code_law) A outer s H EX).env x = pure x := by intro _; rfl) :
    QE (cxOf (L2.CX P w) P w K.K mg base N_law "law" (defScope s_law) a.law (.ref a.code_law) A outer s H EX) (K.kept (fun j => LamH (cxOf (L2.CX P w) P w K.K mg base N_law "law" (defScope s_law) a.law (.ref a.code_law) A outer s H EX) (kA_law j) (kB_law j) (kS_law j)) ((cxOf (L2.CX P w) P w K.K mg base N_law "law" (defScope s_law) a.law (.ref a.code_law) A outer s H EX).env.qual ++ "<lambda>")) W (.ListComp elt [⟨tg, iter, [.Compare (.Call (.Name "_law_told" p1) [.Name fv p2] [] p3) [op] [b] p4], 0⟩] scope pos) (mLc fi gg (mTest (mOp g2 (mToldK cg_law_told R_law_told 4 kb_law (own.map (·.2)) (mVar i)) fb)) fe (own.map (·.2))) := by
  obtain ⟨⟨oc, od, kV, doc, pm, an, cdv, ct, osl, e1, lk, hcd⟩, kp⟩ := E.f_law_told
  have b := E.b_law_told
  rw [e1] at b lk
  exact qe_lcKept (Ng := ["what"]) (a := "what") (eN := "SizeError") rfl hN hi ok hv htg he hvar ho hb hg E.g_law_told kp lk hcd b sc_law_told rfl (.inl rfl) (fun _ => rfl) rfl E.g_SizeError (by decide) E.e_law_told hr rfl (fun _ _ => rfl) (fun j hj => LamX.lamS_by (kl_law j hj)) kbind_law hbody hmk (hs := hs)
def B_law : MS := (mSeq (mFor (mIt (mCall F_law_rounds [] (mCons (mVar 0) (mCons (mC (.int 1)) mNil)))) (gN 1)
  (mSeq (mAsg (mTup (mCons (mMake i_Mover F_Mover_init [] mNil) (mCons (mDNew (.dK [])) (mCons (mDNew (.dK [])) (mCons (mDNew (.dK [])) (mCons (mC (.int 0)) mNil)))))) (gT 5 (gCons (gN 2) (gCons (gN 3) (gCons (gN 4) (gCons (gN 5) (gCons (gN 6) gNil)))))))
  (mSeq (mFor (mI range1 (mCons (mCall F_law_roll [] (mCons (mVar 1) (mCons (mC (.int 51)) mNil))) mNil)) (gN 7)
  (mSeq (mAsg (mTup (mCons (mCall F_law_roll [] (mCons (mVar 1) (mCons (mC (.int 8)) mNil))) (mCons (mOp gIx (mC (.str "abc")) (mCall F_law_roll [] (mCons (mVar 1) (mCons (mC (.int 3)) mNil)))) (mCons (mOp gSub (mCall F_law_roll [] (mCons (mVar 1) (mCons (mC (.int 200)) mNil))) (mC (.int 100))) mNil)))) (gT 3 (gCons (gN 8) (gCons (gN 9) (gCons (gN 10) gNil)))))
  (mSeq (mIfS (mTest (mOp (gEq false) (mVar 8) (mC (.int 0))))
  (mSeq (mDPut (mVar 3) (mVar 9) (mTup (mCons (mCall F_law_roll [] (mCons (mVar 1) (mCons (mC (.int 20)) mNil))) (mCons (mOp gIx (mFl (mCons (mC (.str "even")) (mCons (mC (.str "slow")) (mCons (mC (.str "fast")) (mCons (mC (.str "both")) mNil))))) (mCall F_law_roll [] (mCons (mVar 1) (mCons (mC (.int 4)) mNil)))) mNil))))
  (mDrop (mMeth i_Mover "set_way" F_Mover_set_way [] (mVar 2) (mCons (mVar 9) (mCons (mOp gIx (mOp gDGet (mVar 3) (mVar 9)) (mC (.int 0))) (mCons (mOp gIx (mOp gDGet (mVar 3) (mVar 9)) (mC (.int 1))) mNil))))))
  (mIfS (mTest (mOp gLt (mVar 8) (mC (.int 4))))
  (mSeq (mAsg (mIf (mAnd (mTest (mDIn false (mVar 9) (mVar 4))) (mTest (mOp (gEq false) (mCall F_law_roll [] (mCons (mVar 1) (mCons (mC (.int 2)) mNil))) (mC (.int 0))))) (mOp gIx (mOp gDGet (mVar 4) (mVar 9)) (mC (.int 0))) (mVar 10)) (gN 10))
  (mSeq (mAsg (mDGet2 (mVar 3) (mVar 9) (mTup (mCons (mC (.int 0)) (mCons (mC (.str "even")) mNil)))) (gT 2 (gCons (gN 11) (gCons (gN 12) gNil))))
  (mSeq (mAsg (mIf (mTest (mDIn false (mVar 9) (mVar 4))) (mCall F_law_at [] (mCons (mOp gDGet (mVar 4) (mVar 9)) (mCons (mVar 6) mNil))) (mDGet1 (mVar 5) (mVar 9))) (gN 13))
  (mSeq (mIfS (mAnd (mTest (mDIn false (mVar 9) (mVar 4))) (mTest (mOp (gEq false) (mVar 10) (mOp gIx (mOp gDGet (mVar 4) (mVar 9)) (mC (.int 0))))))
  (mAsg (mBlt fMin (mCons (mVar 11) (mCons (mOp gSub (mVar 6) (mOp gIx (mOp gDGet (mVar 4) (mVar 9)) (mC (.int 2)))) mNil))) (gN 11))
  mSkip)
  (mSeq (mDrop (mMeth i_Mover "go_to" F_Mover_go_to [] (mVar 2) (mCons (mVar 9) (mCons (mVar 10) mNil))))
  (mSeq (mIfS (mTest (mOp (gIsN true) (mVar 13) (mC .non)))
  (mAsg (mBlt fDictP (mCons (mOp gAdd (mLock (mVar 4) (mLc (mItD (mVar 4)) (gN 14) (mTest (mOp (gEq true) (mVar 14) (mVar 9))) (mTup (mCons (mVar 14) (mCons (mOp gDGet (mVar 4) (mVar 14)) mNil))) [14])) (mOp gMul (mFl (mCons (mTup (mCons (mVar 9) (mCons (mTup (mCons (mVar 13) (mCons (mVar 10) (mCons (mVar 6) (mCons (mVar 11) (mCons (mVar 12) mNil)))))) mNil))) mNil)) (mBlt fInt (mCons (mAndV (mOp gGt (mVar 11) (mC (.int 0))) (mOp (gEq true) (mVar 13) (mVar 10))) mNil)))) mNil)) (gN 4))
  mSkip)
  (mDPut (mVar 5) (mVar 9) (mVar 10))))))))
  (mSeq (mAsg (mOp gAdd (mC (.int 1)) (mCall F_law_roll [] (mCons (mVar 1) (mCons (mC (.int 6)) mNil)))) (gN 15))
  (mSeq (mAsg (mOp gAdd (mVar 6) (mVar 15)) (gN 6))
  (mSeq (mAsg (mLc (mIt (mBlt fSortD (mCons (mVar 4) mNil))) (gN 14) (mTest (mOp gGe (mVar 6) (mOp gAdd (mOp gIx (mOp gDGet (mVar 4) (mVar 14)) (mC (.int 2))) (mOp gIx (mOp gDGet (mVar 4) (mVar 14)) (mC (.int 3)))))) (mVar 14) [14]) (gN 16))
  (mSeq (mIfS (mTest (mOp (gEq true) (mMeth i_Mover "tick" F_Mover_tick [] (mVar 2) (mCons (mVar 15) mNil)) (mBlt fTuple (mCons (mVar 16) mNil))))
  (mRet (mC (.bl false)))
  mSkip)
  (mAsg (mBlt fDictP (mCons (mLock (mVar 4) (mLc (mItD (mVar 4)) (gN 14) (mTest (mOp (gIn true) (mVar 14) (mVar 16))) (mTup (mCons (mVar 14) (mCons (mOp gDGet (mVar 4) (mVar 14)) mNil))) [14])) mNil)) (gN 4))))))))
  (mSeq (mIfS (mTest (mOp (gEq true) (mMeth i_Mover "moving" F_Mover_moving [] (mVar 2) mNil) (mBlt fTuple (mCons (mBlt fSortD (mCons (mVar 4) mNil)) mNil))))
  (mRet (mC (.bl false)))
  mSkip)
  (mLockS (mVar 5) (mFor (mItD (mVar 5)) (gN 14)
  (mSeq (mAsg (mIf (mTest (mDIn false (mVar 14) (mVar 4))) (mCall F_law_at [] (mCons (mOp gDGet (mVar 4) (mVar 14)) (mCons (mVar 6) mNil))) (mOp gDGet (mVar 5) (mVar 14))) (gN 17))
  (mIfS (mOr (mTest (mOp (gEq true) (mMeth i_Mover "value_now" F_Mover_value_now [] (mVar 2) (mCons (mVar 14) mNil)) (mVar 17))) (mAnd (mTest (mDIn false (mVar 14) (mVar 4))) (mNot (mTest (mChain gLe gLe (mBlt fMin (mCons (mOp gIx (mOp gDGet (mVar 4) (mVar 14)) (mC (.int 0))) (mCons (mOp gIx (mOp gDGet (mVar 4) (mVar 14)) (mC (.int 1))) mNil))) (mVar 17) (mBlt fMax (mCons (mOp gIx (mOp gDGet (mVar 4) (mVar 14)) (mC (.int 0))) (mCons (mOp gIx (mOp gDGet (mVar 4) (mVar 14)) (mC (.int 1))) mNil))))))))
  (mRet (mC (.bl false)))
  mSkip))))))))
  (mSeq (mAsg (mTup (mCons (mOp gSub (mCall F_law_roll [] (mCons (mVar 1) (mCons (mC (.int 50)) mNil))) (mC (.int 25))) (mCons (mOp gSub (mCall F_law_roll [] (mCons (mVar 1) (mCons (mC (.int 50)) mNil))) (mC (.int 25))) (mCons (mCall F_law_roll [] (mCons (mVar 1) (mCons (mC (.int 9)) mNil))) (mCons (mCall F_law_roll [] (mCons (mVar 1) (mCons (mC (.int 30)) mNil))) (mCons (mOp gIx (mFl (mCons (mC (.str "even")) (mCons (mC (.str "slow")) (mCons (mC (.str "fast")) (mCons (mC (.str "both")) mNil))))) (mCall F_law_roll [] (mCons (mVar 1) (mCons (mC (.int 4)) mNil)))) mNil)))))) (gN 18))
  (mSeq (mAsg (mMake i_Path F_Path_init [] (mCons (mOp gIx (mVar 18) (mC (.int 0))) (mCons (mOp gIx (mVar 18) (mC (.int 1))) (mCons (mOp gIx (mVar 18) (mC (.int 2))) (mCons (mOp gIx (mVar 18) (mC (.int 3))) (mCons (mOp gIx (mVar 18) (mC (.int 4))) mNil)))))) (gN 19))
  (mSeq (mFor (mI range1 (mCons (mC (.int 45)) mNil)) (gN 20)
  (mIfS (mOr (mTest (mOp (gEq true) (mMeth i_Path "value_at" F_Path_value_at [] (mVar 19) (mCons (mVar 20) mNil)) (mCall F_law_at [] (mCons (mVar 18) (mCons (mVar 20) mNil))))) (mTest (mOp (gEq true) (mMeth i_Path "is_over" F_Path_is_over [] (mVar 19) (mCons (mVar 20) mNil)) (mOp gGe (mVar 20) (mOp gAdd (mOp gIx (mVar 18) (mC (.int 2))) (mOp gIx (mVar 18) (mC (.int 3))))))))
  (mRet (mC (.bl false)))
  mSkip))
  (mIfS (mTest (mOp gGt (mOp gIx (mVar 18) (mC (.int 3))) (mC (.int 0))))
  (mSeq (mAsg (mLc (mI range1 (mCons (mOp gAdd (mOp gIx (mVar 18) (mC (.int 3))) (mC (.int 1))) mNil)) (gN 24) mYes (mCall F_share_of [] (mCons (mVar 24) (mCons (mOp gIx (mVar 18) (mC (.int 3))) (mCons (mOp gIx (mVar 18) (mC (.int 4))) mNil)))) [24]) (gN 21))
  (mIfS (mOr (mTest (mOp (gEq true) (mLc (mI range1 (mCons (mOp gIx (mVar 18) (mC (.int 3))) mNil)) (gN 26) (mTest (mOp gGt (mOp gMul (mOp gIx (mOp gIx (mVar 21) (mVar 26)) (mC (.int 0))) (mOp gIx (mOp gIx (mVar 21) (mOp gAdd (mVar 26) (mC (.int 1)))) (mC (.int 1)))) (mOp gMul (mOp gIx (mOp gIx (mVar 21) (mOp gAdd (mVar 26) (mC (.int 1)))) (mC (.int 0))) (mOp gIx (mOp gIx (mVar 21) (mVar 26)) (mC (.int 1)))))) (mVar 26) [26]) (mFl mNil))) (mOr (mTest (mOp (gEq true) (mOp gIx (mOp gIx (mVar 21) (mC (.int 0))) (mC (.int 0))) (mC (.int 0)))) (mTest (mOp (gEq true) (mOp gIx (mOp gIx (mVar 21) (mOp gIx (mVar 18) (mC (.int 3)))) (mC (.int 0))) (mOp gIx (mOp gIx (mVar 21) (mOp gIx (mVar 18) (mC (.int 3)))) (mC (.int 1)))))))
  (mRet (mC (.bl false)))
  mSkip))
  mSkip)))))))
  (mSeq (mAsg (mMake i_Mover F_Mover_init [] mNil) (gN 23))
  (mSeq (mAsg (mFl (mCons (mC (.lam 0)) (mCons (mC (.lam 1)) (mCons (mC (.lam 2)) (mCons (mC (.lam 3)) mNil))))) (gN 22))
  (mRet (mAndV (mOp (gEq false) (mLc (mIt (mVar 22)) (gN 25) (mTest (mOp (gEq true) (mToldK cg_law_told R_law_told 4 kb_law [25] (mVar 25)) (mC (.str "SizeError")))) (mC (.int 1)) [25]) (mFl mNil)) (mAndV (mOp (gEqD false) (mFld i_Mover "ways" (mVar 23)) (mDNew (.dK []))) (mOp (gEq false) (mMeth i_Mover "tick" F_Mover_tick [.int 1] (mVar 23) mNil) (mTup mNil))))))))
def F_law : List LV → M LV := callF 27 B_law
theorem ok_law (E : Facts P w K mg base a) : FnOk P w K.K mg base (L2.CX P w) 7 a.law a.fd_law ["script"] (spA K 1 F_law) :=
  q_fnK (k := 6) E.f_law sc_law fun A outer s H EX hr => ⟨fun j => LamH (cxOf (L2.CX P w) P w K.K mg base N_law "law" (defScope s_law) a.law (.ref a.code_law) A outer s H EX) (kA_law j) (kB_law j) (kS_law j), (cxOf (L2.CX P w) P w K.K mg base N_law "law" (defScope s_law) a.law (.ref a.code_law) A outer s H EX).env.qual ++ "<lambda>", by
    have nd := sc_law.nd
    have E0 := E
    have E := E.kept (fun j => LamH (cxOf (L2.CX P w) P w K.K mg base N_law "law" (defScope s_law) a.law (.ref a.code_law) A outer s H EX) (kA_law j) (kB_law j) (kS_law j)) ((cxOf (L2.CX P w) P w K.K mg base N_law "law" (defScope s_law) a.law (.ref a.code_law) A outer s H EX).env.qual ++ "<lambda>")
    exact (qss_cons (qs_for own_def rfl (qi_val rfl (qe_call (ok_law_rounds E) (hr.mono (by decide)) rfl E.g_law_rounds E.k_law_rounds E.b_law_rounds .nil (fun _ _ => .nil) tkE (qa_cons (qe_var (pv 0)) (qa_cons qe_int qa_nil)) rfl (len_cons (len_cons len_nil)))) (qg_name (pg_name (i := 1) nd rfl (.inl rfl)))
  (qss_cons (qs_asg (qe_tup (qa_cons (qe_make0 E.M_Mover (ok_Mover_init E) (hr.mono (by decide)) rfl E.g_Mover E.bi_Mover .nil (fun _ _ => .nil) tkE rfl) (qa_cons qe_dnewK (qa_cons qe_dnewK (qa_cons qe_dnewK (qa_cons qe_int qa_nil)))))) (qg_tup rfl rfl (qgs_cons (qg_name (pg_name (i := 2) nd rfl (.inl rfl))) (qgs_cons (qg_name (pg_name (i := 3) nd rfl (.inl rfl))) (qgs_cons (qg_name (pg_name (i := 4) nd rfl (.inr rfl))) (qgs_cons (qg_name (pg_name (i := 5) nd rfl (.inl rfl))) (qgs_cons (qg_name (pg_name (i := 6) nd rfl (.inr rfl))) qgs_nil)))))))
  (qss_cons (qs_for own_def rfl (qi_range1 rfl E.bi.range (qa_cons (qe_call (ok_law_roll E) (hr.mono (by decide)) rfl E.g_law_roll E.k_law_roll E.b_law_roll .nil (fun _ _ => .nil) tkE (qa_cons (qe_var (pv 1)) (qa_cons qe_int qa_nil)) rfl (len_cons (len_cons len_nil))) qa_nil)) (qg_name (pg_name (i := 7) nd rfl (.inl rfl)))
  (qss_cons (qs_asg (qe_tup (qa_cons (qe_call (ok_law_roll E) (hr.mono (by decide)) rfl E.g_law_roll E.k_law_roll E.b_law_roll .nil (fun _ _ => .nil) tkE (qa_cons (qe_var (pv 1)) (qa_cons qe_int qa_nil)) rfl (len_cons (len_cons len_nil))) (qa_cons (qe_ix rfl qe_str (qe_call (ok_law_roll E) (hr.mono (by decide)) rfl E.g_law_roll E.k_law_roll E.b_law_roll .nil (fun _ _ => .nil) tkE (qa_cons (qe_var (pv 1)) (qa_cons qe_int qa_nil)) rfl (len_cons (len_cons len_nil)))) (qa_cons (qe_op oq_sub (qe_call (ok_law_roll E) (hr.mono (by decide)) rfl E.g_law_roll E.k_law_roll E.b_law_roll .nil (fun _ _ => .nil) tkE (qa_cons (qe_var (pv 1)) (qa_cons qe_int qa_nil)) rfl (len_cons (len_cons len_nil))) qe_int) qa_nil)))) (qg_tup rfl rfl (qgs_cons (qg_name (pg_name (i := 8) nd rfl (.inl rfl))) (qgs_cons (qg_name (pg_name (i := 9) nd rfl (.inr rfl))) (qgs_cons (qg_name (pg_name (i := 10) nd rfl (.inl rfl))) qgs_nil)))))
  (qss_cons (qs_if (qt_cmp (oq_eq rfl (hu64 hr)) (qe_var (pv 8)) qe_int (nomark _))
  (qss_cons (qs_dput (hu_of hr) (qe_var (pv 3)) (qe_var (pv 9)) (qe_tup (qa_cons (qe_call (ok_law_roll E) (hr.mono (by decide)) rfl E.g_law_roll E.k_law_roll E.b_law_roll .nil (fun _ _ => .nil) tkE (qa_cons (qe_var (pv 1)) (qa_cons qe_int qa_nil)) rfl (len_cons (len_cons len_nil))) (qa_cons (qe_ix rfl (qe_fl (qa_cons qe_str (qa_cons qe_str (qa_cons qe_str (qa_cons qe_str qa_nil))))) (qe_call (ok_law_roll E) (hr.mono (by decide)) rfl E.g_law_roll E.k_law_roll E.b_law_roll .nil (fun _ _ => .nil) tkE (qa_cons (qe_var (pv 1)) (qa_cons qe_int qa_nil)) rfl (len_cons (len_cons len_nil)))) qa_nil))))
  (qss_one (qs_expr (qe_meth (qe_var (pv 2)) E.c_Mover E.m_Mover_set_way (ok_Mover_set_way E) (hr.mono (by decide)) E.b_Mover_set_way .nil (fun _ _ => .nil) tkE (qa_cons (qe_var (pv 9)) (qa_cons (qe_ix rfl (qe_dget (hu_of hr) (qe_var (pv 3)) (qe_var (pv 9))) qe_int) (qa_cons (qe_ix rfl (qe_dget (hu_of hr) (qe_var (pv 3)) (qe_var (pv 9))) qe_int) qa_nil))) rfl (len_cons (len_cons (len_cons len_nil)))))))
  (qss_one (qs_if (qt_cmp oq_lt (qe_var (pv 8)) qe_int (nomark _))
  (qss_cons (qs_asg (qe_ifExp (QW.pt (qw_and (qt_din (hu_of hr) (qe_var (pv 9)) (qe_var (pv 4))) (qw_and1 (qt_cmp (oq_eq rfl (hu64 hr)) (qe_call (ok_law_roll E) (hr.mono (by decide)) rfl E.g_law_roll E.k_law_roll E.b_law_roll .nil (fun _ _ => .nil) tkE (qa_cons (qe_var (pv 1)) (qa_cons qe_int qa_nil)) rfl (len_cons (len_cons len_nil))) qe_int (nomark _))))) (qe_ix rfl (qe_dget (hu_of hr) (qe_var (pv 4)) (qe_var (pv 9))) qe_int) (qe_var (pv 10))) (qg_name (pg_name (i := 10) nd rfl (.inl rfl))))
  (qss_cons (qs_asg (qe_dget2 (hu_of hr) (qe_var (pv 3)) (qe_var (pv 9)) (qe_tup (qa_cons qe_int (qa_cons qe_str qa_nil)))) (qg_tup rfl rfl (qgs_cons (qg_name (pg_name (i := 11) nd rfl (.inl rfl))) (qgs_cons (qg_name (pg_name (i := 12) nd rfl (.inl rfl))) qgs_nil))))
  (qss_cons (qs_asg (qe_ifExp (qt_din (hu_of hr) (qe_var (pv 9)) (qe_var (pv 4))) (qe_call (ok_law_at E) (hr.mono (by decide)) rfl E.g_law_at E.k_law_at E.b_law_at .nil (fun _ _ => .nil) tkE (qa_cons (qe_dget (hu_of hr) (qe_var (pv 4)) (qe_var (pv 9))) (qa_cons (qe_var (pv 6)) qa_nil)) rfl (len_cons (len_cons len_nil))) (qe_dget1 (hu_of hr) (qe_var (pv 5)) (qe_var (pv 9)))) (qg_name (pg_name (i := 13) nd rfl (.inl rfl))))
  (qss_cons (qs_if (QW.pt (qw_and (qt_din (hu_of hr) (qe_var (pv 9)) (qe_var (pv 4))) (qw_and1 (qt_cmp (oq_eq rfl (hu64 hr)) (qe_var (pv 10)) (qe_ix rfl (qe_dget (hu_of hr) (qe_var (pv 4)) (qe_var (pv 9))) qe_int) (nomark _)))))
  (qss_one (qs_asg (qe_callB (cq_min rfl) rfl E.bi.min Vc.b_min (qa_cons (qe_var (pv 11)) (qa_cons (qe_op oq_sub (qe_var (pv 6)) (qe_ix rfl (qe_dget (hu_of hr) (qe_var (pv 4)) (qe_var (pv 9))) qe_int)) qa_nil))) (qg_name (pg_name (i := 11) nd rfl (.inl rfl)))))
  qss_nil)
  (qss_cons (qs_expr (qe_meth (qe_var (pv 2)) E.c_Mover E.m_Mover_go_to (ok_Mover_go_to E) (hr.mono (by decide)) E.b_Mover_go_to .nil (fun _ _ => .nil) tkE (qa_cons (qe_var (pv 9)) (qa_cons (qe_var (pv 10)) qa_nil)) rfl (len_cons (len_cons len_nil))))
  (qss_cons (qs_if (qt_cmp oq_notN (qe_var (pv 13)) qe_non (nomark _))
  (qss_one (qs_asg (qe_callTy (cq_dictP rfl rfl) rfl E.bi.dict Vc.b_dict (qa_cons (qe_op (oq_add rfl) (qe_lock (fn := (mVar 4)) (qe_lc (ix := [14]) (own := [("one", 14)]) rfl nd (qi_keys (qe_var (pv 4))) (blkOk_by (N := N_law) (sc := defScope s_law) (by decide +kernel)) (by decide) (fun _ _ _ _ _ => by exact (qg_name (pg_name (i := 14) nd rfl (.inl rfl)))) (fun _ _ _ _ _ => by exact (qts_one (qt_cmp (oq_ne rfl (hu64 hr)) (qe_var (pv 14)) (qe_var (pv 9)) (nomark _)))) (fun _ _ _ _ _ => by exact (qe_tup (qa_cons (qe_var (pv 14)) (qa_cons (qe_dget (hu_of hr) (qe_var (pv 4)) (qe_var (pv 14))) qa_nil)))))) (qe_op oq_mul (qe_fl (qa_cons (qe_tup (qa_cons (qe_var (pv 9)) (qa_cons (qe_tup (qa_cons (qe_var (pv 13)) (qa_cons (qe_var (pv 10)) (qa_cons (qe_var (pv 6)) (qa_cons (qe_var (pv 11)) (qa_cons (qe_var (pv 12)) qa_nil)))))) qa_nil))) qa_nil)) (qe_callTy cq_int rfl E.bi.int Vc.b_int (qa_cons (qe_and (qe_cmp oq_gt (qe_var (pv 11)) qe_int (nomark _)) (qe_one (qe_cmp (oq_ne rfl (hu64 hr)) (qe_var (pv 13)) (qe_var (pv 10)) (nomark _)))) qa_nil)))) qa_nil)) (qg_name (pg_name (i := 4) nd rfl (.inr rfl)))))
  qss_nil)
  (qss_one (qs_dput (hu_of hr) (qe_var (pv 5)) (qe_var (pv 9)) (qe_var (pv 10))))))))))
  (qss_cons (qs_asg (qe_op (oq_add rfl) qe_int (qe_call (ok_law_roll E) (hr.mono (by decide)) rfl E.g_law_roll E.k_law_roll E.b_law_roll .nil (fun _ _ => .nil) tkE (qa_cons (qe_var (pv 1)) (qa_cons qe_int qa_nil)) rfl (len_cons (len_cons len_nil)))) (qg_name (pg_name (i := 15) nd rfl (.inl rfl))))
  (qss_cons (qs_asg (qe_op (oq_add rfl) (qe_var (pv 6)) (qe_var (pv 15))) (qg_name (pg_name (i := 6) nd rfl (.inr rfl))))
  (qss_cons (qs_asg (qe_lc (ix := [14]) (own := [("one", 14)]) rfl nd (qi_val rfl (qe_callB (cq_sortD rfl) rfl E.bi.sorted Vc.b_sorted (qa_cons (qe_var (pv 4)) qa_nil))) (blkOk_by (N := N_law) (sc := defScope s_law) (by decide +kernel)) (by decide) (fun _ _ _ _ _ => by exact (qg_name (pg_name (i := 14) nd rfl (.inl rfl)))) (fun _ _ _ _ _ => by exact (qts_one (qt_cmp oq_ge (qe_var (pv 6)) (qe_op (oq_add rfl) (qe_ix rfl (qe_dget (hu_of hr) (qe_var (pv 4)) (qe_var (pv 14))) qe_int) (qe_ix rfl (qe_dget (hu_of hr) (qe_var (pv 4)) (qe_var (pv 14))) qe_int)) (nomark _)))) (fun _ _ _ _ _ => by exact (qe_var (pv 14)))) (qg_name (pg_name (i := 16) nd rfl (.inr rfl))))
  (qss_cons (qs_if (qt_cmp (oq_ne rfl (hu64 hr)) (qe_meth (qe_var (pv 2)) E.c_Mover E.m_Mover_tick (ok_Mover_tick E) (hr.mono (by decide)) E.b_Mover_tick .nil (fun _ _ => .nil) tkE (qa_cons (qe_var (pv 15)) qa_nil) rfl (len_cons len_nil)) (qe_callTy (cq_tuple rfl) rfl E.bi.tuple Vc.b_tuple (qa_cons (qe_var (pv 16)) qa_nil)) (nomark _))
  (qss_one (qs_ret qe_bl))
  qss_nil)
  (qss_one (qs_asg (qe_callTy (cq_dictP rfl rfl) rfl E.bi.dict Vc.b_dict (qa_cons (qe_lock (fn := (mVar 4)) (qe_lc (ix := [14]) (own := [("one", 14)]) rfl nd (qi_keys (qe_var (pv 4))) (blkOk_by (N := N_law) (sc := defScope s_law) (by decide +kernel)) (by decide) (fun _ _ _ _ _ => by exact (qg_name (pg_name (i := 14) nd rfl (.inl rfl)))) (fun _ _ _ _ _ => by exact (qts_one (qt_cmp (oq_notIn rfl) (qe_var (pv 14)) (qe_var (pv 16)) (by rfl)))) (fun _ _ _ _ _ => by exact (qe_tup (qa_cons (qe_var (pv 14)) (qa_cons (qe_dget (hu_of hr) (qe_var (pv 4)) (qe_var (pv 14))) qa_nil)))))) qa_nil)) (qg_name (pg_name (i := 4) nd rfl (.inr rfl))))))))))))
  (qss_cons (qs_if (qt_cmp (oq_ne rfl (hu64 hr)) (qe_meth0 (qe_var (pv 2)) E.c_Mover E.m_Mover_moving (ok_Mover_moving E) (hr.mono (by decide)) E.b_Mover_moving .nil (fun _ _ => .nil) tkE rfl) (qe_callTy (cq_tuple rfl) rfl E.bi.tuple Vc.b_tuple (qa_cons (qe_callB (cq_sortD rfl) rfl E.bi.sorted Vc.b_sorted (qa_cons (qe_var (pv 4)) qa_nil)) qa_nil)) (nomark _))
  (qss_one (qs_ret qe_bl))
  qss_nil)
  (qss_one (qs_lock (fn := (mVar 5)) (qs_for own_def rfl (qi_keys (qe_var (pv 5))) (qg_name (pg_name (i := 14) nd rfl (.inl rfl)))
  (qss_cons (qs_asg (qe_ifExp (qt_din (hu_of hr) (qe_var (pv 14)) (qe_var (pv 4))) (qe_call (ok_law_at E) (hr.mono (by decide)) rfl E.g_law_at E.k_law_at E.b_law_at .nil (fun _ _ => .nil) takes0 (qa_cons (qe_dget (hu_of hr) (qe_var (pv 4)) (qe_var (pv 14))) (qa_cons (qe_var (pv 6)) qa_nil)) rfl (len_cons (len_cons len_nil))) (qe_dget (hu_of hr) (qe_var (pv 5)) (qe_var (pv 14)))) (qg_name (pg_name (i := 17) nd rfl (.inl rfl))))
  (qss_one (qs_if (QW.pt (qw_or (qt_cmp (oq_ne rfl (hu64 hr)) (qe_meth (qe_var (pv 2)) E.c_Mover E.m_Mover_value_now (ok_Mover_value_now E) (hr.mono (by decide)) E.b_Mover_value_now .nil (fun _ _ => .nil) takes0 (qa_cons (qe_var (pv 14)) qa_nil) rfl (len_cons len_nil)) (qe_var (pv 17)) (nomark _)) (qw_or1 (QW.pt (qw_and (qt_din (hu_of hr) (qe_var (pv 14)) (qe_var (pv 4))) (qw_and1 (qt_not (qt_chain oq_le oq_le (qe_callB (cq_min rfl) rfl E.bi.min Vc.b_min (qa_cons (qe_ix rfl (qe_dget (hu_of hr) (qe_var (pv 4)) (qe_var (pv 14))) qe_int) (qa_cons (qe_ix rfl (qe_dget (hu_of hr) (qe_var (pv 4)) (qe_var (pv 14))) qe_int) qa_nil))) (qe_var (pv 17)) (qe_callB (cq_max rfl) rfl E.bi.max Vc.b_max (qa_cons (qe_ix rfl (qe_dget (hu_of hr) (qe_var (pv 4)) (qe_var (pv 14))) qe_int) (qa_cons (qe_ix rfl (qe_dget (hu_of hr) (qe_var (pv 4)) (qe_var (pv 14))) qe_int) qa_nil)))))))))))
  (qss_one (qs_ret qe_bl))
  qss_nil))))))))))
  (qss_cons (qs_asg (qe_tup (qa_cons (qe_op oq_sub (qe_call (ok_law_roll E) (hr.mono (by decide)) rfl E.g_law_roll E.k_law_roll E.b_law_roll .nil (fun _ _ => .nil) tkE (qa_cons (qe_var (pv 1)) (qa_cons qe_int qa_nil)) rfl (len_cons (len_cons len_nil))) qe_int) (qa_cons (qe_op oq_sub (qe_call (ok_law_roll E) (hr.mono (by decide)) rfl E.g_law_roll E.k_law_roll E.b_law_roll .nil (fun _ _ => .nil) tkE (qa_cons (qe_var (pv 1)) (qa_cons qe_int qa_nil)) rfl (len_cons (len_cons len_nil))) qe_int) (qa_cons (qe_call (ok_law_roll E) (hr.mono (by decide)) rfl E.g_law_roll E.k_law_roll E.b_law_roll .nil (fun _ _ => .nil) tkE (qa_cons (qe_var (pv 1)) (qa_cons qe_int qa_nil)) rfl (len_cons (len_cons len_nil))) (qa_cons (qe_call (ok_law_roll E) (hr.mono (by decide)) rfl E.g_law_roll E.k_law_roll E.b_law_roll .nil (fun _ _ => .nil) tkE (qa_cons (qe_var (pv 1)) (qa_cons qe_int qa_nil)) rfl (len_cons (len_cons len_nil))) (qa_cons (qe_ix rfl (qe_fl (qa_cons qe_str (qa_cons qe_str (qa_cons qe_str (qa_cons qe_str qa_nil))))) (qe_call (ok_law_roll E) (hr.mono (by decide)) rfl E.g_law_roll E.k_law_roll E.b_law_roll .nil (fun _ _ => .nil) tkE (qa_cons (qe_var (pv 1)) (qa_cons qe_int qa_nil)) rfl (len_cons (len_cons len_nil)))) qa_nil)))))) (qg_name (pg_name (i := 18) nd rfl (.inr rfl))))
  (qss_cons (qs_asg (qe_make E.M_Path (ok_Path_init E) (hr.mono (by decide)) rfl E.g_Path E.bi_Path .nil (fun _ _ => .nil) tkE (qa_cons (qe_ix rfl (qe_var (pv 18)) qe_int) (qa_cons (qe_ix rfl (qe_var (pv 18)) qe_int) (qa_cons (qe_ix rfl (qe_var (pv 18)) qe_int) (qa_cons (qe_ix rfl (qe_var (pv 18)) qe_int) (qa_cons (qe_ix rfl (qe_var (pv 18)) qe_int) qa_nil))))) rfl (len_cons (len_cons (len_cons (len_cons (len_cons len_nil)))))) (qg_name (pg_name (i := 19) nd rfl (.inl rfl))))
  (qss_cons (qs_for own_def rfl (qi_range1 rfl E.bi.range (qa_cons qe_int qa_nil)) (qg_name (pg_name (i := 20) nd rfl (.inl rfl)))
  (qss_one (qs_if (QW.pt (qw_or (qt_cmp (oq_ne rfl (hu64 hr)) (qe_meth (qe_var (pv 19)) E.c_Path E.m_Path_value_at (ok_Path_value_at E) (hr.mono (by decide)) E.b_Path_value_at .nil (fun _ _ => .nil) tkE (qa_cons (qe_var (pv 20)) qa_nil) rfl (len_cons len_nil)) (qe_call (ok_law_at E) (hr.mono (by decide)) rfl E.g_law_at E.k_law_at E.b_law_at .nil (fun _ _ => .nil) tkE (qa_cons (qe_var (pv 18)) (qa_cons (qe_var (pv 20)) qa_nil)) rfl (len_cons (len_cons len_nil))) (nomark _)) (qw_or1 (qt_cmp (oq_ne rfl (hu64 hr)) (qe_meth (qe_var (pv 19)) E.c_Path E.m_Path_is_over (ok_Path_is_over E) (hr.mono (by decide)) E.b_Path_is_over .nil (fun _ _ => .nil) tkE (qa_cons (qe_var (pv 20)) qa_nil) rfl (len_cons len_nil)) (qe_cmp oq_ge (qe_var (pv 20)) (qe_op (oq_add rfl) (qe_ix rfl (qe_var (pv 18)) qe_int) (qe_ix rfl (qe_var (pv 18)) qe_int)) (nomark _)) (nomark _)))))
  (qss_one (qs_ret qe_bl))
  qss_nil)))
  (qss_one (qs_if (qt_cmp oq_gt (qe_ix rfl (qe_var (pv 18)) qe_int) qe_int (nomark _))
  (qss_cons (qs_asg (qe_lc (ix := [24]) (own := [("gone", 24)]) rfl nd (qi_range1 rfl E.bi.range (qa_cons (qe_op (oq_add rfl) (qe_ix rfl (qe_var (pv 18)) qe_int) qe_int) qa_nil)) (blkOk_by (N := N_law) (sc := defScope s_law) (by decide +kernel)) (by decide) (fun _ _ _ _ _ => by exact (qg_name (pg_name (i := 24) nd rfl (.inl rfl)))) (fun _ _ _ _ _ => by exact qts_nil) (fun _ _ _ _ _ => by exact (qe_call (ok_share_of E) (hr.mono (by decide)) rfl E.g_share_of E.k_share_of E.b_share_of .nil (fun _ _ => .nil) takes0 (qa_cons (qe_var (pv 24)) (qa_cons (qe_ix rfl (qe_var (pv 18)) qe_int) (qa_cons (qe_ix rfl (qe_var (pv 18)) qe_int) qa_nil))) rfl (len_cons (len_cons (len_cons len_nil)))))) (qg_name (pg_name (i := 21) nd rfl (.inr rfl))))
  (qss_one (qs_if (QW.pt (qw_or (qt_cmp (oq_ne rfl (hu64 hr)) (qe_lc (ix := [26]) (own := [("k", 26)]) rfl nd (qi_range1 rfl E.bi.range (qa_cons (qe_ix rfl (qe_var (pv 18)) qe_int) qa_nil)) (blkOk_by (N := N_law) (sc := defScope s_law) (by decide +kernel)) (by decide) (fun _ _ _ _ _ => by exact (qg_name (pg_name (i := 26) nd rfl (.inl rfl)))) (fun _ _ _ _ _ => by exact (qts_one (qt_cmp oq_gt (qe_op oq_mul (qe_ix rfl (qe_ix rfl (qe_var (pv 21)) (qe_var (pv 26))) qe_int) (qe_ix rfl (qe_ix rfl (qe_var (pv 21)) (qe_op (oq_add rfl) (qe_var (pv 26)) qe_int)) qe_int)) (qe_op oq_mul (qe_ix rfl (qe_ix rfl (qe_var (pv 21)) (qe_op (oq_add rfl) (qe_var (pv 26)) qe_int)) qe_int) (qe_ix rfl (qe_ix rfl (qe_var (pv 21)) (qe_var (pv 26))) qe_int)) (nomark _)))) (fun _ _ _ _ _ => by exact (qe_var (pv 26)))) (qe_fl qa_nil) (nomark _)) (qw_or (qt_cmp (oq_ne rfl (hu64 hr)) (qe_ix rfl (qe_ix rfl (qe_var (pv 21)) qe_int) qe_int) qe_int (nomark _)) (qw_or1 (qt_cmp (oq_ne rfl (hu64 hr)) (qe_ix rfl (qe_ix rfl (qe_var (pv 21)) (qe_ix rfl (qe_var (pv 18)) qe_int)) qe_int) (qe_ix rfl (qe_ix rfl (qe_var (pv 21)) (qe_ix rfl (qe_var (pv 18)) qe_int)) qe_int) (nomark _))))))
  (qss_one (qs_ret qe_bl))
  qss_nil)))
  qss_nil))))))))
  (qss_cons (qs_asg (qe_make0 E.M_Mover (ok_Mover_init E) (hr.mono (by decide)) rfl E.g_Mover E.bi_Mover .nil (fun _ _ => .nil) tkE rfl) (qg_name (pg_name (i := 23) nd rfl (.inr rfl))))
  (qss_cons (qs_asg (qe_fl (qa_cons (qe_lam 0 rfl rfl E.t_law E.u_law E.TL_law rfl (LamX.lamS_by (kl_law 0 (by decide))) rfl) (qa_cons (qe_lam 1 rfl rfl E.t_law E.u_law E.TL_law rfl (LamX.lamS_by (kl_law 1 (by decide))) rfl) (qa_cons (qe_lam 2 rfl rfl E.t_law E.u_law E.TL_law rfl (LamX.lamS_by (kl_law 2 (by decide))) rfl) (qa_cons (qe_lam 3 rfl rfl E.t_law E.u_law E.TL_law rfl (LamX.lamS_by (kl_law 3 (by decide))) rfl) qa_nil))))) (qg_name (pg_name (i := 22) nd rfl (.inl rfl))))
  (qss_one (qs_ret (qe_and (qe_cmp (oq_eq rfl (hu64 hr)) (kept_law E0 (ix := [25]) (own := [("f", 25)]) (k := 4) (i := 25) (fv := "f") (hr.mono (by decide)) nd (qi_val rfl (qe_var (pv 22))) (blkOk_by (N := N_law) (sc := defScope s_law) (by decide +kernel)) (by decide) (fun _ _ _ _ _ => by exact (qg_name (pg_name (i := 25) nd rfl (.inl rfl)))) (fun _ _ _ _ _ => by exact qe_int) (fun _ _ _ _ _ => by exact (pv 25)) (fun _ _ _ _ _ => by exact (oq_ne rfl (hu64 hr))) (fun _ _ _ _ _ => by exact qe_str) (fun _ _ _ _ _ => rfl)
    (fun j hj A' outer' s' H' E' f' c' hl => match j, hj with
    | 0, _ => by exact (qe_meth (qe_var (pv 23)) E.c_Mover E.m_Mover_set_way (ok_Mover_set_way E) (hl.mono (by decide)) E.b_Mover_set_way .nil (fun _ _ => .nil) (by exact takes_of rfl rfl rfl rfl) (qa_cons qe_str (qa_cons (qe_un uq_neg qe_int) (qa_cons qe_str qa_nil))) rfl (len_cons (len_cons (len_cons len_nil))))
    | 1, _ => by exact (qe_meth (qe_var (pv 23)) E.c_Mover E.m_Mover_set_way (ok_Mover_set_way E) (hl.mono (by decide)) E.b_Mover_set_way .nil (fun _ _ => .nil) (by exact takes_of rfl rfl rfl rfl) (qa_cons qe_str (qa_cons qe_int (qa_cons qe_str qa_nil))) rfl (len_cons (len_cons (len_cons len_nil))))
    | 2, _ => by exact (qe_meth (qe_var (pv 23)) E.c_Mover E.m_Mover_value_now (ok_Mover_value_now E) (hl.mono (by decide)) E.b_Mover_value_now .nil (fun _ _ => .nil) (by exact takes_of rfl rfl rfl rfl) (qa_cons qe_str qa_nil) rfl (len_cons len_nil))
    | 3, _ => by exact (qe_make (X := LamX.lamCx (cxOf (L2.CX P w) P w K.K mg base N_law "law" (defScope s_law) a.law (.ref a.code_law) A outer s H EX) A' outer' s' H' E' (kS_law 3) f' c') E.M_Path (ok_Path_init E) (hl.mono (by decide)) (by rfl) E.g_Path E.bi_Path .nil (fun _ _ => .nil) (by exact takes_of rfl rfl rfl rfl) (qa_cons qe_int (qa_cons qe_int (qa_cons qe_int (qa_cons (qe_un uq_neg qe_int) (qa_cons qe_str qa_nil))))) (by rfl) (len_cons (len_cons (len_cons (len_cons (len_cons len_nil))))))
    | j + 4, h => absurd h (by omega)) (nomark _)) (qe_fl qa_nil) (nomark _)) (qe_and (qe_cmp (oq_eqD (hu0 hr)) (qe_fld rfl (qe_var (pv 23)) E.c_Mover E.n_Mover_ways) qe_dnewK (nomark _)) (qe_one (qe_cmp (oq_eq rfl (hu64 hr)) (qe_meth0 (qe_var (pv 23)) E.c_Mover E.m_Mover_tick (ok_Mover_tick E) (hr.mono (by decide)) E.bd_Mover_tick.choose_spec.2 E.bd_Mover_tick.choose_spec.1 (fun _ _ => (.cons (.int _) .nil)) tkE rfl) (qe_tup qa_nil) (nomark _))))))))))⟩

end
end Q.K18
end
section
set_option Elab.async false
namespace Q.K18i
theorem sq_le {a b : Int} (h0 : 0 ≤ a) (h : a ≤ b) : a * a ≤ b * b := Int.mul_le_mul h h h0 (by omega)
theorem sq_nn (a : Int) (h : 0 ≤ a) : 0 ≤ a * a := Int.mul_nonneg h h
theorem both_up {g l : Int} (h0 : 0 ≤ g) (h : 2 * g ≤ l) : 2 * g * g ≤ l * g := Int.mul_le_mul_of_nonneg_right h h0
theorem shn_le_slow {g l : Int} (h0 : 0 ≤ g) (h : g ≤ l) : 0 ≤ g * g ∧ g * g ≤ l * l := ⟨sq_nn g h0, sq_le h0 h⟩
theorem fast_le {g l : Int} (h0 : 0 ≤ g) (h : g ≤ l) : 0 ≤ l * l - (l - g) * (l - g) ∧ l * l - (l - g) * (l - g) ≤ l * l := by
  have h1 := sq_le (a := l - g) (b := l) (by omega) (by omega)
  have h2 := sq_nn (l - g) (by omega)
  omega
theorem both1 {g l : Int} (h0 : 0 ≤ g) (h : 2 * g ≤ l) : 0 ≤ 2 * g * g ∧ 2 * g * g ≤ l * l := by
  have h1 := both_up h0 h
  have h2 : l * g ≤ l * l := Int.mul_le_mul_of_nonneg_left (show g ≤ l by omega) (by omega)
  have h3 : 0 ≤ 2 * g * g := Int.mul_nonneg (by omega) h0
  omega
theorem both2 {g l : Int} (h0 : 0 ≤ g) (h : g ≤ l) (h2 : ¬ 2 * g ≤ l) : 0 ≤ l * l - 2 * (l - g) * (l - g) ∧ l * l - 2 * (l - g) * (l - g) ≤ l * l := by
  have := both1 (g := l - g) (l := l) (by omega) (by omega)
  omega
theorem both3 {g l : Int} (h0 : 0 ≤ g) (h : 2 * g ≤ l) (h2 : ¬ 2 * (g + 1) ≤ l) (h3 : g + 1 ≤ l) : 2 * g * g ≤ l * l - 2 * (l - (g + 1)) * (l - (g + 1)) := by
  have a := both_up h0 h
  have b := both_up (g := l - (g + 1)) (l := l) (by omega) (by omega)
  have c : l * g + l * (l - (g + 1)) = l * l - l := by
    rw [← Int.mul_add, show g + (l - (g + 1)) = l - 1 by omega, Int.mul_sub, Int.mul_one]
  omega
/-- between the ends -/
theorem share_in {f a n d : Int} (hd : 0 < d) (h0 : 0 ≤ n) (h1 : n ≤ d) : min f a ≤ f + (a - f) * n / d ∧ f + (a - f) * n / d ≤ max f a := by
  by_cases h : f ≤ a
  · have p : 0 ≤ (a - f) * n := Int.mul_nonneg (by omega) h0
    have q : (a - f) * n ≤ (a - f) * d := Int.mul_le_mul_of_nonneg_left h1 (by omega)
    have r := Int.ediv_nonneg p (Int.le_of_lt hd)
    have s : (a - f) * n / d ≤ a - f := Int.ediv_le_of_le_mul hd q
    omega
  · have p : (f - a) * n ≤ (f - a) * d := Int.mul_le_mul_of_nonneg_left h1 (by omega)
    have e : (a - f) * n = - ((f - a) * n) := by rw [← Int.neg_mul]; congr 1; omega
    have p0 : 0 ≤ (f - a) * n := Int.mul_nonneg (by omega) h0
    have e2 : (a - f) * d = - ((f - a) * d) := by rw [← Int.neg_mul]; congr 1; omega
    have q : (a - f) * d ≤ (a - f) * n := by omega
    have r : a - f ≤ (a - f) * n / d := Int.le_ediv_of_mul_le hd q
    have s : (a - f) * n / d ≤ 0 := Int.ediv_le_of_le_mul hd (by omega)
    omega
end Q.K18i
end
section
set_option Elab.async false
set_option linter.all false
set_option maxRecDepth 100000
set_option maxHeartbeats 1000000
namespace Q.K18
open PySem L2 Q
abbrev mvO (v p w : Nat) (t : Int) : LO := .ins i_Mover [("values_now", .ref v), ("paths", .ref p), ("ways", .ref w), ("time", .int t)]
abbrev paO (f a s l : Int) (w : Str) : LO := .ins i_Path [("first", .int f), ("last", .int a), ("start", .int s), ("length", .int l), ("way", .str w)]
abbrev WS4 : List Str := ["even", "slow", "fast", "both"]
/-- the share of a way -/
def shn (w : Str) (g l : Int) : Int := if w = "even" then g else if w = "slow" then g * g else if w = "fast" then l * l - (l - g) * (l - g) else if 2 * g ≤ l then 2 * g * g else l * l - 2 * (l - g) * (l - g)
def shd (w : Str) (l : Int) : Int := if w = "even" then l else l * l
/-- the value of a path at a time -/
def val (f a s l : Int) (w : Str) (t : Int) : Int := if s + l ≤ t then a else if t ≤ s then f else f + (a - f) * shn w (t - s) l / shd w l
section
variable {L : LH} {m v p w n q : Nat} {t f a s l g : Int} {W : Str} {x : LV}
theorem f_vals (h : L[m]? = some (mvO v p w t)) : fldOf i_Mover "values_now" L (.ref m) = some (.ref v) := by simp only [fldOf, h]; rfl
theorem f_paths (h : L[m]? = some (mvO v p w t)) : fldOf i_Mover "paths" L (.ref m) = some (.ref p) := by simp only [fldOf, h]; rfl
theorem f_ways (h : L[m]? = some (mvO v p w t)) : fldOf i_Mover "ways" L (.ref m) = some (.ref w) := by simp only [fldOf, h]; rfl
theorem f_time (h : L[m]? = some (mvO v p w t)) : fldOf i_Mover "time" L (.ref m) = some (.int t) := by simp only [fldOf, h]; rfl
theorem f_first (h : L[q]? = some (paO f a s l W)) : fldOf i_Path "first" L (.ref q) = some (.int f) := by simp only [fldOf, h]; rfl
theorem f_last (h : L[q]? = some (paO f a s l W)) : fldOf i_Path "last" L (.ref q) = some (.int a) := by simp only [fldOf, h]; rfl
theorem f_start (h : L[q]? = some (paO f a s l W)) : fldOf i_Path "start" L (.ref q) = some (.int s) := by simp only [fldOf, h]; rfl
theorem f_length (h : L[q]? = some (paO f a s l W)) : fldOf i_Path "length" L (.ref q) = some (.int l) := by simp only [fldOf, h]; rfl
theorem f_way (h : L[q]? = some (paO f a s l W)) : fldOf i_Path "way" L (.ref q) = some (.str W) := by simp only [fldOf, h]; rfl
theorem s_time {t2 : Int} (h : L[m]? = some (mvO v p w t)) : setFld i_Mover "time" (.int t2) L (.ref m) = some (L.set m (mvO v p w t2)) := by simp only [setFld, h]; rfl
theorem ins_mv {z : Str} (h : L[m]? = some (mvO v p w t)) (hm : (List.lookup z ([("values_now", .ref v), ("paths", .ref p), ("ways", .ref w), ("time", .int t)] : List (Str × LV))).isNone = true := by rfl) : insAt L (.ref m) z i_Mover = true := by
  simp only [insAt, h, beq_self_eq_true, Bool.true_and]
  exact hm
theorem ins_pa {z : Str} (h : L[q]? = some (paO f a s l W)) (hm : (List.lookup z ([("first", .int f), ("last", .int a), ("start", .int s), ("length", .int l), ("way", .str W)] : List (Str × LV))).isNone = true := by rfl) : insAt L (.ref q) z i_Path = true := by
  simp only [insAt, h, beq_self_eq_true, Bool.true_and]
  exact hm
theorem notin_ways (hw : W ∈ WS4) : gIn true (.str W) (.st [.str "even", .str "slow", .str "fast", .str "both"]) L = .ok (.bl false) L := by
  simp only [WS4, List.mem_cons, List.not_mem_nil, or_false] at hw
  rcases hw with rfl | rfl | rfl | rfl <;> rfl
theorem need_ok (hl : 0 ≤ l) (hw : W ∈ WS4) : F_need_way [.int l, .str W] L = .ok .non L := by
  unfold F_need_way B_need_way
  have d : decide (l < 0) = false := decide_eq_false (by omega)
  simp only [callF, mSeq, mIfS, mAsg, mRet, mRetN, mDrop, mOr, mAnd, mNot, mTest, mOp, mUn, mVar, mC, mCons, mNil, mBlt, mTup, mFl, mLst, mIf, mNotV, mAndV, mOrV, toB, mSkip, mBreak, mCont, mRaise, mBM, mFld, mDGet1, mDGet2, mDPut, mDDel, mDIn, mSetFld, mSetIx, mAugFld, mMeth, mCall, mMake, mDNew, mDisp, mPCons, mPNil, kvOf, keyOf, mChain, mPar, mTru, truthL, Res.bind, lift, Fl.andThen, isNon, gN, gT, gCons, gNil, Option.bind_some, gIsN, e_gEqS, e_gEq, e_gI, e_gIc, e_gMul, e_gAdd, e_gCmp, gSub, gAddI, gFdiv, gMod,   List.map_cons, List.map_nil, List.cons_append, List.nil_append, List.append_nil, List.length_cons, List.length_nil, List.replicate, List.set_cons_succ, List.set_cons_zero, List.getElem?_cons_succ, List.getElem?_cons_zero, Nat.reduceSub, Nat.reduceAdd, if_true, if_false, Bool.false_eq_true, Bool.true_eq_false, Bool.not_true, Bool.not_false, reduceCtorEq, Nat.reduceLeDiff, d, V_WAYS, notin_ways hw]
theorem need_neg (hl : l < 0) : F_need_way [.int l, .str W] L = .exc 0 L := by
  unfold F_need_way B_need_way
  have d : decide (l < 0) = true := decide_eq_true (by omega)
  simp only [callF, mSeq, mIfS, mAsg, mRet, mRetN, mDrop, mOr, mAnd, mNot, mTest, mOp, mUn, mVar, mC, mCons, mNil, mBlt, mTup, mFl, mLst, mIf, mNotV, mAndV, mOrV, toB, mSkip, mBreak, mCont, mRaise, mBM, mFld, mDGet1, mDGet2, mDPut, mDDel, mDIn, mSetFld, mSetIx, mAugFld, mMeth, mCall, mMake, mDNew, mDisp, mPCons, mPNil, kvOf, keyOf, mChain, mPar, mTru, truthL, Res.bind, lift, Fl.andThen, isNon, gN, gT, gCons, gNil, Option.bind_some, gIsN, e_gEqS, e_gEq, e_gI, e_gIc, e_gMul, e_gAdd, e_gCmp, gSub, gAddI, gFdiv, gMod,   List.map_cons, List.map_nil, List.cons_append, List.nil_append, List.append_nil, List.length_cons, List.length_nil, List.replicate, List.set_cons_succ, List.set_cons_zero, List.getElem?_cons_succ, List.getElem?_cons_zero, Nat.reduceSub, Nat.reduceAdd, if_true, if_false, Bool.false_eq_true, Bool.true_eq_false, Bool.not_true, Bool.not_false, reduceCtorEq, Nat.reduceLeDiff, d]
theorem need_odd (hl : 0 ≤ l) : F_need_way [.int l, .str "odd"] L = .exc 0 L := by
  unfold F_need_way B_need_way
  have d : decide (l < 0) = false := decide_eq_false (by omega)
  have e : gIn true (.str "odd") (.st [.str "even", .str "slow", .str "fast", .str "both"]) L = .ok (.bl true) L := rfl
  simp only [callF, mSeq, mIfS, mAsg, mRet, mRetN, mDrop, mOr, mAnd, mNot, mTest, mOp, mUn, mVar, mC, mCons, mNil, mBlt, mTup, mFl, mLst, mIf, mNotV, mAndV, mOrV, toB, mSkip, mBreak, mCont, mRaise, mBM, mFld, mDGet1, mDGet2, mDPut, mDDel, mDIn, mSetFld, mSetIx, mAugFld, mMeth, mCall, mMake, mDNew, mDisp, mPCons, mPNil, kvOf, keyOf, mChain, mPar, mTru, truthL, Res.bind, lift, Fl.andThen, isNon, gN, gT, gCons, gNil, Option.bind_some, gIsN, e_gEqS, e_gEq, e_gI, e_gIc, e_gMul, e_gAdd, e_gCmp, gSub, gAddI, gFdiv, gMod,   List.map_cons, List.map_nil, List.cons_append, List.nil_append, List.append_nil, List.length_cons, List.length_nil, List.replicate, List.set_cons_succ, List.set_cons_zero, List.getElem?_cons_succ, List.getElem?_cons_zero, Nat.reduceSub, Nat.reduceAdd, if_true, if_false, Bool.false_eq_true, Bool.true_eq_false, Bool.not_true, Bool.not_false, reduceCtorEq, Nat.reduceLeDiff, d, V_WAYS, e]
abbrev small (l : Int) : Prop := 0 ≤ l ∧ l ≤ 1000
theorem cm {i j : Int} (h : small i) : cMul i j = true := by
  unfold cMul
  have : decide (-(2 ^ 64) < i) = true := decide_eq_true (by omega)
  have h2 : decide (i < 2 ^ 64) = true := decide_eq_true (by omega)
  rw [this, h2]; rfl
theorem cm2 {i : Int} {j : Int} (h : small j) : cMul i j = true := by
  unfold cMul
  have : decide (-(2 ^ 64) < j) = true := decide_eq_true (by omega)
  have h2 : decide (j < 2 ^ 64) = true := decide_eq_true (by omega)
  rw [this, h2]; simp
theorem share_eq (hg : small g) (hl : small l) (hgl : g ≤ l) : F_share_of [.int g, .int l, .str W] L = .ok (.tup [.int (shn W g l), .int (shd W l)]) L := by
  have hd : small (l - g) := by omega
  unfold F_share_of B_share_of shn shd
  by_cases h1 : W = "even"
  · simp only [callF, mSeq, mIfS, mAsg, mRet, mRetN, mDrop, mOr, mAnd, mNot, mTest, mOp, mUn, mVar, mC, mCons, mNil, mBlt, mTup, mFl, mLst, mIf, mNotV, mAndV, mOrV, toB, mSkip, mBreak, mCont, mRaise, mBM, mFld, mDGet1, mDGet2, mDPut, mDDel, mDIn, mSetFld, mSetIx, mAugFld, mMeth, mCall, mMake, mDNew, mDisp, mPCons, mPNil, kvOf, keyOf, mChain, mPar, mTru, truthL, Res.bind, lift, Fl.andThen, isNon, gN, gT, gCons, gNil, Option.bind_some, gIsN, e_gEqS, e_gEq, e_gI, e_gIc, e_gMul, e_gAdd, e_gCmp, gSub, gAddI, gFdiv, gMod,   List.map_cons, List.map_nil, List.cons_append, List.nil_append, List.append_nil, List.length_cons, List.length_nil, List.replicate, List.set_cons_succ, List.set_cons_zero, List.getElem?_cons_succ, List.getElem?_cons_zero, Nat.reduceSub, Nat.reduceAdd, if_true, if_false, Bool.false_eq_true, Bool.true_eq_false, Bool.not_true, Bool.not_false, reduceCtorEq, Nat.reduceLeDiff, cm hl, h1, decide_true, List.length_cons, List.length_nil]
  · by_cases h2 : W = "slow"
    · simp only [callF, mSeq, mIfS, mAsg, mRet, mRetN, mDrop, mOr, mAnd, mNot, mTest, mOp, mUn, mVar, mC, mCons, mNil, mBlt, mTup, mFl, mLst, mIf, mNotV, mAndV, mOrV, toB, mSkip, mBreak, mCont, mRaise, mBM, mFld, mDGet1, mDGet2, mDPut, mDDel, mDIn, mSetFld, mSetIx, mAugFld, mMeth, mCall, mMake, mDNew, mDisp, mPCons, mPNil, kvOf, keyOf, mChain, mPar, mTru, truthL, Res.bind, lift, Fl.andThen, isNon, gN, gT, gCons, gNil, Option.bind_some, gIsN, e_gEqS, e_gEq, e_gI, e_gIc, e_gMul, e_gAdd, e_gCmp, gSub, gAddI, gFdiv, gMod,   List.map_cons, List.map_nil, List.cons_append, List.nil_append, List.append_nil, List.length_cons, List.length_nil, List.replicate, List.set_cons_succ, List.set_cons_zero, List.getElem?_cons_succ, List.getElem?_cons_zero, Nat.reduceSub, Nat.reduceAdd, if_true, if_false, Bool.false_eq_true, Bool.true_eq_false, Bool.not_true, Bool.not_false, reduceCtorEq, Nat.reduceLeDiff, cm hl, cm hg, h1, h2, decide_true, decide_false, show decide (("slow" : Str) = "even") = false by decide +kernel, show ¬ (("slow" : Str) = "even") by decide +kernel]
    · by_cases h3 : W = "fast"
      · simp only [callF, mSeq, mIfS, mAsg, mRet, mRetN, mDrop, mOr, mAnd, mNot, mTest, mOp, mUn, mVar, mC, mCons, mNil, mBlt, mTup, mFl, mLst, mIf, mNotV, mAndV, mOrV, toB, mSkip, mBreak, mCont, mRaise, mBM, mFld, mDGet1, mDGet2, mDPut, mDDel, mDIn, mSetFld, mSetIx, mAugFld, mMeth, mCall, mMake, mDNew, mDisp, mPCons, mPNil, kvOf, keyOf, mChain, mPar, mTru, truthL, Res.bind, lift, Fl.andThen, isNon, gN, gT, gCons, gNil, Option.bind_some, gIsN, e_gEqS, e_gEq, e_gI, e_gIc, e_gMul, e_gAdd, e_gCmp, gSub, gAddI, gFdiv, gMod,   List.map_cons, List.map_nil, List.cons_append, List.nil_append, List.append_nil, List.length_cons, List.length_nil, List.replicate, List.set_cons_succ, List.set_cons_zero, List.getElem?_cons_succ, List.getElem?_cons_zero, Nat.reduceSub, Nat.reduceAdd, if_true, if_false, Bool.false_eq_true, Bool.true_eq_false, Bool.not_true, Bool.not_false, reduceCtorEq, Nat.reduceLeDiff, cm hl, cm hg, cm hd, h3, decide_true, decide_false, show decide (("fast" : Str) = "even") = false by decide +kernel, show ¬ (("fast" : Str) = "even") by decide +kernel, show decide (("fast" : Str) = "slow") = false by decide +kernel, show ¬ (("fast" : Str) = "slow") by decide +kernel]
      · have c2 : ∀ j, cMul 2 j = true := fun j => cm (by omega)
        by_cases h4 : 2 * g ≤ l
        · simp only [callF, mSeq, mIfS, mAsg, mRet, mRetN, mDrop, mOr, mAnd, mNot, mTest, mOp, mUn, mVar, mC, mCons, mNil, mBlt, mTup, mFl, mLst, mIf, mNotV, mAndV, mOrV, toB, mSkip, mBreak, mCont, mRaise, mBM, mFld, mDGet1, mDGet2, mDPut, mDDel, mDIn, mSetFld, mSetIx, mAugFld, mMeth, mCall, mMake, mDNew, mDisp, mPCons, mPNil, kvOf, keyOf, mChain, mPar, mTru, truthL, Res.bind, lift, Fl.andThen, isNon, gN, gT, gCons, gNil, Option.bind_some, gIsN, e_gEqS, e_gEq, e_gI, e_gIc, e_gMul, e_gAdd, e_gCmp, gSub, gAddI, gFdiv, gMod,   List.map_cons, List.map_nil, List.cons_append, List.nil_append, List.append_nil, List.length_cons, List.length_nil, List.replicate, List.set_cons_succ, List.set_cons_zero, List.getElem?_cons_succ, List.getElem?_cons_zero, Nat.reduceSub, Nat.reduceAdd, if_true, if_false, Bool.false_eq_true, Bool.true_eq_false, Bool.not_true, Bool.not_false, reduceCtorEq, Nat.reduceLeDiff, cm hl, cm2 hg, cm2 hd, c2, h1, h2, h3, decide_false, h4, decide_true]
        · simp only [callF, mSeq, mIfS, mAsg, mRet, mRetN, mDrop, mOr, mAnd, mNot, mTest, mOp, mUn, mVar, mC, mCons, mNil, mBlt, mTup, mFl, mLst, mIf, mNotV, mAndV, mOrV, toB, mSkip, mBreak, mCont, mRaise, mBM, mFld, mDGet1, mDGet2, mDPut, mDDel, mDIn, mSetFld, mSetIx, mAugFld, mMeth, mCall, mMake, mDNew, mDisp, mPCons, mPNil, kvOf, keyOf, mChain, mPar, mTru, truthL, Res.bind, lift, Fl.andThen, isNon, gN, gT, gCons, gNil, Option.bind_some, gIsN, e_gEqS, e_gEq, e_gI, e_gIc, e_gMul, e_gAdd, e_gCmp, gSub, gAddI, gFdiv, gMod,   List.map_cons, List.map_nil, List.cons_append, List.nil_append, List.append_nil, List.length_cons, List.length_nil, List.replicate, List.set_cons_succ, List.set_cons_zero, List.getElem?_cons_succ, List.getElem?_cons_zero, Nat.reduceSub, Nat.reduceAdd, if_true, if_false, Bool.false_eq_true, Bool.true_eq_false, Bool.not_true, Bool.not_false, reduceCtorEq, Nat.reduceLeDiff, cm hl, cm2 hg, cm2 hd, c2, h1, h2, h3, decide_false, h4, decide_true]
theorem over_eq (h : L[q]? = some (paO f a s l W)) : F_Path_is_over [.ref q, .int t] L = .ok (.bl (decide (s + l ≤ t))) L := by
  unfold F_Path_is_over B_Path_is_over
  simp only [callF, mSeq, mIfS, mAsg, mRet, mRetN, mDrop, mOr, mAnd, mNot, mTest, mOp, mUn, mVar, mC, mCons, mNil, mBlt, mTup, mFl, mLst, mIf, mNotV, mAndV, mOrV, toB, mSkip, mBreak, mCont, mRaise, mBM, mFld, mDGet1, mDGet2, mDPut, mDDel, mDIn, mSetFld, mSetIx, mAugFld, mMeth, mCall, mMake, mDNew, mDisp, mPCons, mPNil, kvOf, keyOf, mChain, mPar, mTru, truthL, Res.bind, lift, Fl.andThen, isNon, gN, gT, gCons, gNil, Option.bind_some, gIsN, e_gEqS, e_gEq, e_gI, e_gIc, e_gMul, e_gAdd, e_gCmp, gSub, gAddI, gFdiv, gMod,   List.map_cons, List.map_nil, List.cons_append, List.nil_append, List.append_nil, List.length_cons, List.length_nil, List.replicate, List.set_cons_succ, List.set_cons_zero, List.getElem?_cons_succ, List.getElem?_cons_zero, Nat.reduceSub, Nat.reduceAdd, if_true, if_false, Bool.false_eq_true, Bool.true_eq_false, Bool.not_true, Bool.not_false, reduceCtorEq, Nat.reduceLeDiff, f_start h, f_length h]
theorem shd_pos (h : 0 < l) : 0 < shd W l := by
  unfold shd
  split
  · exact h
  · exact Int.mul_pos h h
theorem shd_le (h : 0 ≤ l) (h2 : l ≤ 1000) : shd W l < 1073741824 := by
  unfold shd
  split
  · omega
  · have := Int.mul_le_mul h2 h2 h (by decide)
    omega
theorem shn_in (hg : 0 ≤ g) (hl : g ≤ l) : 0 ≤ shn W g l ∧ shn W g l ≤ shd W l := by
  unfold shn shd
  by_cases h1 : W = "even"
  · rw [if_pos h1, if_pos h1]; exact ⟨hg, hl⟩
  · rw [if_neg h1, if_neg h1]
    by_cases h2 : W = "slow"
    · rw [if_pos h2]; exact K18i.shn_le_slow hg hl
    · rw [if_neg h2]
      by_cases h3 : W = "fast"
      · rw [if_pos h3]; exact K18i.fast_le hg hl
      · rw [if_neg h3]
        by_cases h4 : 2 * g ≤ l
        · rw [if_pos h4]; exact K18i.both1 hg h4
        · rw [if_neg h4]; exact K18i.both2 hg hl h4
theorem shn_up (hg : 0 ≤ g) (hl : g + 1 ≤ l) : shn W g l ≤ shn W (g + 1) l := by
  unfold shn
  by_cases h1 : W = "even"
  · rw [if_pos h1, if_pos h1]; omega
  · rw [if_neg h1, if_neg h1]
    by_cases h2 : W = "slow"
    · rw [if_pos h2, if_pos h2]; exact K18i.sq_le hg (by omega)
    · rw [if_neg h2, if_neg h2]
      by_cases h3 : W = "fast"
      · rw [if_pos h3, if_pos h3]
        have := K18i.sq_le (a := l - (g + 1)) (b := l - g) (by omega) (by omega)
        omega
      · rw [if_neg h3, if_neg h3]
        by_cases h4 : 2 * g ≤ l
        · rw [if_pos h4]
          by_cases h5 : 2 * (g + 1) ≤ l
          · rw [if_pos h5]
            have := K18i.sq_le (a := g) (b := g + 1) hg (by omega)
            have e1 : 2 * g * g = 2 * (g * g) := Int.mul_assoc _ _ _
            have e2 : 2 * (g + 1) * (g + 1) = 2 * ((g + 1) * (g + 1)) := Int.mul_assoc _ _ _
            omega
          · rw [if_neg h5]; exact K18i.both3 hg h4 h5 hl
        · rw [if_neg h4, if_neg (by omega)]
          have := K18i.sq_le (a := l - (g + 1)) (b := l - g) (by omega) (by omega)
          have e1 : 2 * (l - g) * (l - g) = 2 * ((l - g) * (l - g)) := Int.mul_assoc _ _ _
          have e2 : 2 * (l - (g + 1)) * (l - (g + 1)) = 2 * ((l - (g + 1)) * (l - (g + 1))) := Int.mul_assoc _ _ _
          omega
theorem cmn (hg : 0 ≤ g) (hl : g ≤ l) (h : small l) {i : Int} : cMul i (shn W g l) = true := by
  have h1 := shn_in (W := W) hg hl
  have h2 := shd_le (W := W) h.1 h.2
  unfold cMul
  have : decide (-(2 ^ 64) < shn W g l) = true := decide_eq_true (by omega)
  have h2 : decide (shn W g l < 2 ^ 64) = true := decide_eq_true (by omega)
  rw [this, h2]; simp
theorem value_eq (h : L[q]? = some (paO f a s l W)) (hl : small l) : F_Path_value_at [.ref q, .int t] L = .ok (.int (val f a s l W t)) L := by
  unfold F_Path_value_at B_Path_value_at val
  by_cases h1 : s + l ≤ t
  · simp only [callF, mSeq, mIfS, mAsg, mRet, mRetN, mDrop, mOr, mAnd, mNot, mTest, mOp, mUn, mVar, mC, mCons, mNil, mBlt, mTup, mFl, mLst, mIf, mNotV, mAndV, mOrV, toB, mSkip, mBreak, mCont, mRaise, mBM, mFld, mDGet1, mDGet2, mDPut, mDDel, mDIn, mSetFld, mSetIx, mAugFld, mMeth, mCall, mMake, mDNew, mDisp, mPCons, mPNil, kvOf, keyOf, mChain, mPar, mTru, truthL, Res.bind, lift, Fl.andThen, isNon, gN, gT, gCons, gNil, Option.bind_some, gIsN, e_gEqS, e_gEq, e_gI, e_gIc, e_gMul, e_gAdd, e_gCmp, gSub, gAddI, gFdiv, gMod,   List.map_cons, List.map_nil, List.cons_append, List.nil_append, List.append_nil, List.length_cons, List.length_nil, List.replicate, List.set_cons_succ, List.set_cons_zero, List.getElem?_cons_succ, List.getElem?_cons_zero, Nat.reduceSub, Nat.reduceAdd, if_true, if_false, Bool.false_eq_true, Bool.true_eq_false, Bool.not_true, Bool.not_false, reduceCtorEq, Nat.reduceLeDiff, ins_pa (z := "is_over") h, over_eq h, h1, decide_true, f_last h]
  · by_cases h2 : t ≤ s
    · simp only [callF, mSeq, mIfS, mAsg, mRet, mRetN, mDrop, mOr, mAnd, mNot, mTest, mOp, mUn, mVar, mC, mCons, mNil, mBlt, mTup, mFl, mLst, mIf, mNotV, mAndV, mOrV, toB, mSkip, mBreak, mCont, mRaise, mBM, mFld, mDGet1, mDGet2, mDPut, mDDel, mDIn, mSetFld, mSetIx, mAugFld, mMeth, mCall, mMake, mDNew, mDisp, mPCons, mPNil, kvOf, keyOf, mChain, mPar, mTru, truthL, Res.bind, lift, Fl.andThen, isNon, gN, gT, gCons, gNil, Option.bind_some, gIsN, e_gEqS, e_gEq, e_gI, e_gIc, e_gMul, e_gAdd, e_gCmp, gSub, gAddI, gFdiv, gMod,   List.map_cons, List.map_nil, List.cons_append, List.nil_append, List.append_nil, List.length_cons, List.length_nil, List.replicate, List.set_cons_succ, List.set_cons_zero, List.getElem?_cons_succ, List.getElem?_cons_zero, Nat.reduceSub, Nat.reduceAdd, if_true, if_false, Bool.false_eq_true, Bool.true_eq_false, Bool.not_true, Bool.not_false, reduceCtorEq, Nat.reduceLeDiff, ins_pa (z := "is_over") h, over_eq h, h1, decide_false, f_start h, h2, decide_true, f_first h]
    · have sh := share_eq (L := L) (W := W) (g := t - s) (l := l) (by omega) hl (by omega)
      have d1 : decide (0 < shd W l) = true := decide_eq_true (shd_pos (by omega))
      have d2 : decide (shd W l < 1073741824) = true := decide_eq_true (shd_le hl.1 hl.2)
      have c : cMul (a - f) (shn W (t - s) l) = true := cmn (by omega) (by omega) hl
      simp only [callF, mSeq, mIfS, mAsg, mRet, mRetN, mDrop, mOr, mAnd, mNot, mTest, mOp, mUn, mVar, mC, mCons, mNil, mBlt, mTup, mFl, mLst, mIf, mNotV, mAndV, mOrV, toB, mSkip, mBreak, mCont, mRaise, mBM, mFld, mDGet1, mDGet2, mDPut, mDDel, mDIn, mSetFld, mSetIx, mAugFld, mMeth, mCall, mMake, mDNew, mDisp, mPCons, mPNil, kvOf, keyOf, mChain, mPar, mTru, truthL, Res.bind, lift, Fl.andThen, isNon, gN, gT, gCons, gNil, Option.bind_some, gIsN, e_gEqS, e_gEq, e_gI, e_gIc, e_gMul, e_gAdd, e_gCmp, gSub, gAddI, gFdiv, gMod,   List.map_cons, List.map_nil, List.cons_append, List.nil_append, List.append_nil, List.length_cons, List.length_nil, List.replicate, List.set_cons_succ, List.set_cons_zero, List.getElem?_cons_succ, List.getElem?_cons_zero, Nat.reduceSub, Nat.reduceAdd, if_true, if_false, Bool.false_eq_true, Bool.true_eq_false, Bool.not_true, Bool.not_false, reduceCtorEq, Nat.reduceLeDiff, ins_pa (z := "is_over") h, over_eq h, h1, decide_false, f_start h, h2, f_length h, f_way h, sh, f_first h, f_last h, c, d1, d2, Bool.and_self]
/-- the law's own value -/
theorem even_div {x g l : Int} (h : 0 < l) : x * (g * l) / (l * l) = x * g / l := by
  rw [← Int.mul_assoc, Int.mul_ediv_mul_of_pos_left _ _ h]
abbrev kv4 (a b c d : LV) : List (Key × LV) := [(.inr "even", a), (.inr "slow", b), (.inr "fast", c), (.inr "both", d)]
theorem mg4 {a b c d : LV} : mergeKL [] (kv4 a b c d) = kv4 a b c d := rfl
theorem lk4 {a b c d : LV} (hW : W ∈ WS4) : ∃ y, lookK (kv4 a b c d) (.inr W) = some y ∧ y = if W = "even" then a else if W = "slow" then b else if W = "fast" then c else d := by
  simp only [WS4, List.mem_cons, List.not_mem_nil, or_false] at hW
  rcases hW with rfl | rfl | rfl | rfl <;> exact ⟨_, rfl, rfl⟩
theorem lat_eq (hW : W ∈ WS4) (hl : small l) : ∃ T, F_law_at [.tup [.int f, .int a, .int s, .int l, .str W], .int t] L = .ok (.int (val f a s l W t)) (L ++ T) := by
  unfold F_law_at B_law_at val
  have l5 : ∀ a b c d e : LV, [a, b, c, d, e].length = 5 := fun _ _ _ _ _ => rfl
  by_cases h1 : s + l ≤ t
  · refine ⟨[], ?_⟩
    simp only [callF, mSeq, mIfS, mAsg, mRet, mRetN, mDrop, mOr, mAnd, mNot, mTest, mOp, mUn, mVar, mC, mCons, mNil, mBlt, mTup, mFl, mLst, mIf, mNotV, mAndV, mOrV, toB, mSkip, mBreak, mCont, mRaise, mBM, mFld, mDGet1, mDGet2, mDPut, mDDel, mDIn, mSetFld, mSetIx, mAugFld, mMeth, mCall, mMake, mDNew, mDisp, mPCons, mPNil, kvOf, keyOf, mChain, mPar, mTru, truthL, Res.bind, lift, Fl.andThen, isNon, gN, gT, gCons, gNil, Option.bind_some, gIsN, e_gEqS, e_gEq, e_gI, e_gIc, e_gMul, e_gAdd, e_gCmp, gSub, gAddI, gFdiv, gMod,   List.map_cons, List.map_nil, List.cons_append, List.nil_append, List.append_nil, List.length_cons, List.length_nil, List.replicate, List.set_cons_succ, List.set_cons_zero, List.getElem?_cons_succ, List.getElem?_cons_zero, Nat.reduceSub, Nat.reduceAdd, if_true, if_false, Bool.false_eq_true, Bool.true_eq_false, Bool.not_true, Bool.not_false, reduceCtorEq, Nat.reduceLeDiff, l5, fMax, h1, decide_true]
  · by_cases h2 : t ≤ s
    · refine ⟨[], ?_⟩
      have e : (if t - s > 0 then t - s else 0) = 0 := by rw [if_neg (by omega)]
      simp only [callF, mSeq, mIfS, mAsg, mRet, mRetN, mDrop, mOr, mAnd, mNot, mTest, mOp, mUn, mVar, mC, mCons, mNil, mBlt, mTup, mFl, mLst, mIf, mNotV, mAndV, mOrV, toB, mSkip, mBreak, mCont, mRaise, mBM, mFld, mDGet1, mDGet2, mDPut, mDDel, mDIn, mSetFld, mSetIx, mAugFld, mMeth, mCall, mMake, mDNew, mDisp, mPCons, mPNil, kvOf, keyOf, mChain, mPar, mTru, truthL, Res.bind, lift, Fl.andThen, isNon, gN, gT, gCons, gNil, Option.bind_some, gIsN, e_gEqS, e_gEq, e_gI, e_gIc, e_gMul, e_gAdd, e_gCmp, gSub, gAddI, gFdiv, gMod,   List.map_cons, List.map_nil, List.cons_append, List.nil_append, List.append_nil, List.length_cons, List.length_nil, List.replicate, List.set_cons_succ, List.set_cons_zero, List.getElem?_cons_succ, List.getElem?_cons_zero, Nat.reduceSub, Nat.reduceAdd, if_true, if_false, Bool.false_eq_true, Bool.true_eq_false, Bool.not_true, Bool.not_false, reduceCtorEq, Nat.reduceLeDiff, l5, fMax, h1, decide_false, h2, e, decide_true]
    · obtain ⟨G, eG⟩ : ∃ G, G = t - s := ⟨_, rfl⟩
      have e : (if t - s > 0 then t - s else 0) = G := by rw [if_pos (by omega), eG]
      have g0 : small G := by omega
      have g1 : small (l - G) := by omega
      have z : decide (G = 0) = false := decide_eq_false (by omega)
      have c2 : ∀ j, cMul 2 j = true := fun j => cm (by omega)
      obtain ⟨y, hy, ey⟩ := lk4 (W := W) (a := .int (G * l)) (b := .int (G * G)) (c := .int (l * l - (l - G) * (l - G))) (d := .int (if 2 * G ≤ l then 2 * G * G else l * l - 2 * (l - G) * (l - G))) hW
      have hn : y = .int (if W = "even" then G * l else shn W G l) := by
        rw [ey]
        unfold shn
        by_cases h1 : W = "even"
        · simp only [h1, if_true]
        · simp only [h1, if_false]
          by_cases h2 : W = "slow"
          · simp only [h2, if_true]
          · simp only [h2, if_false]
            by_cases h3 : W = "fast"
            · simp only [h3, if_true]
            · simp only [h3, if_false]
      have hv : (a - f) * (if W = "even" then G * l else shn W G l) / (l * l) = (a - f) * shn W G l / shd W l := by
        unfold shn shd
        by_cases h1 : W = "even"
        · simp only [h1, if_true]
          exact even_div (by omega)
        · simp only [h1, if_false]
      have c3 : cMul (a - f) (if W = "even" then G * l else shn W G l) = true := by
        by_cases h1 : W = "even"
        · rw [if_pos h1]
          have a1 : 0 ≤ G * l := Int.mul_nonneg (by omega) (by omega)
          have a2 : G * l ≤ 1000 * 1000 := Int.mul_le_mul (by omega) (by omega) (by omega) (by omega)
          unfold cMul
          have : decide (-(2 ^ 64) < G * l) = true := decide_eq_true (by omega)
          have h2 : decide (G * l < 2 ^ 64) = true := decide_eq_true (by omega)
          rw [this, h2]; simp
        · rw [if_neg h1]; exact cmn (by omega) (by omega) hl
      have d1 : decide (0 < l * l) = true := decide_eq_true (Int.mul_pos (by omega) (by omega))
      have d2 : decide (l * l < 1073741824) = true := decide_eq_true (by have := Int.mul_le_mul hl.2 hl.2 hl.1 (by decide); omega)
      refine ⟨[dk (kv4 (.int (G * l)) (.int (G * G)) (.int (l * l - (l - G) * (l - G))) (.int (if 2 * G ≤ l then 2 * G * G else l * l - 2 * (l - G) * (l - G))))], ?_⟩
      rw [if_neg h1, if_neg h2, ← eG, ← hv]
      by_cases h4 : 2 * G ≤ l
      · simp only [h4, if_true] at hy ⊢
        simp only [callF, mSeq, mIfS, mAsg, mRet, mRetN, mDrop, mOr, mAnd, mNot, mTest, mOp, mUn, mVar, mC, mCons, mNil, mBlt, mTup, mFl, mLst, mIf, mNotV, mAndV, mOrV, toB, mSkip, mBreak, mCont, mRaise, mBM, mFld, mDGet1, mDGet2, mDPut, mDDel, mDIn, mSetFld, mSetIx, mAugFld, mMeth, mCall, mMake, mDNew, mDisp, mPCons, mPNil, kvOf, keyOf, mChain, mPar, mTru, truthL, Res.bind, lift, Fl.andThen, isNon, gN, gT, gCons, gNil, Option.bind_some, gIsN, e_gEqS, e_gEq, e_gI, e_gIc, e_gMul, e_gAdd, e_gCmp, gSub, gAddI, gFdiv, gMod,   List.map_cons, List.map_nil, List.cons_append, List.nil_append, List.append_nil, List.length_cons, List.length_nil, List.replicate, List.set_cons_succ, List.set_cons_zero, List.getElem?_cons_succ, List.getElem?_cons_zero, Nat.reduceSub, Nat.reduceAdd, if_true, if_false, Bool.false_eq_true, Bool.true_eq_false, Bool.not_true, Bool.not_false, reduceCtorEq, Nat.reduceLeDiff, l5, fMax, h1, decide_false, e, z, cm hl, cm g0, cm2 g0, cm g1, cm2 g1, c2, h4, decide_true, at_at, mg4, set_at, gDGet, dget (k := .inr W) (x := .str W) rfl at_at, hy, hn, c3, d1, d2, Bool.and_self]
      · simp only [h4, if_false] at hy ⊢
        simp only [callF, mSeq, mIfS, mAsg, mRet, mRetN, mDrop, mOr, mAnd, mNot, mTest, mOp, mUn, mVar, mC, mCons, mNil, mBlt, mTup, mFl, mLst, mIf, mNotV, mAndV, mOrV, toB, mSkip, mBreak, mCont, mRaise, mBM, mFld, mDGet1, mDGet2, mDPut, mDDel, mDIn, mSetFld, mSetIx, mAugFld, mMeth, mCall, mMake, mDNew, mDisp, mPCons, mPNil, kvOf, keyOf, mChain, mPar, mTru, truthL, Res.bind, lift, Fl.andThen, isNon, gN, gT, gCons, gNil, Option.bind_some, gIsN, e_gEqS, e_gEq, e_gI, e_gIc, e_gMul, e_gAdd, e_gCmp, gSub, gAddI, gFdiv, gMod,   List.map_cons, List.map_nil, List.cons_append, List.nil_append, List.append_nil, List.length_cons, List.length_nil, List.replicate, List.set_cons_succ, List.set_cons_zero, List.getElem?_cons_succ, List.getElem?_cons_zero, Nat.reduceSub, Nat.reduceAdd, if_true, if_false, Bool.false_eq_true, Bool.true_eq_false, Bool.not_true, Bool.not_false, reduceCtorEq, Nat.reduceLeDiff, l5, fMax, h1, decide_false, e, z, cm hl, cm g0, cm2 g0, cm g1, cm2 g1, c2, h4, decide_true, at_at, mg4, set_at, gDGet, dget (k := .inr W) (x := .str W) rfl at_at, hy, hn, c3, d1, d2, Bool.and_self]
end
end Q.K18
end
section
set_option Elab.async false
set_option linter.all false
set_option maxRecDepth 100000
set_option maxHeartbeats 1000000
namespace Q.K18
open PySem L2 Q
section
variable {L : LH} {m v p w n q : Nat} {t f a s l g : Int} {W k : Str} {x : LV} {V P Wd : List (Key × LV)}
theorem dgk (h : L[n]? = some (dk V)) : dGet L (.ref n) (.str k) = some (lookK V (.inr k)) := dget rfl h
theorem dgl (h : L[n]? = some (lk V)) : dGet L (.ref n) (.str k) = some (lookK V (.inr k)) := dget' rfl h
theorem now_path (h : L[m]? = some (mvO v p w t)) (hp : L[p]? = some (dk P)) (hk : lookK P (.inr k) = some (.ref q)) (hq : L[q]? = some (paO f a s l W)) (hl : small l) : F_Mover_value_now [.ref m, .str k] L = .ok (.int (val f a s l W t)) L := by
  unfold F_Mover_value_now B_Mover_value_now
  simp only [callF, mSeq, mIfS, mAsg, mRet, mRetN, mDrop, mOr, mAnd, mNot, mTest, mOp, mUn, mVar, mC, mCons, mNil, mBlt, mTup, mFl, mLst, mIf, mNotV, mAndV, mOrV, toB, mSkip, mBreak, mCont, mRaise, mBM, mFld, mDGet1, mDGet2, mDPut, mDDel, mDIn, mSetFld, mSetIx, mAugFld, mMeth, mCall, mMake, mDNew, mDisp, mPCons, mPNil, kvOf, keyOf, mChain, mPar, mTru, truthL, Res.bind, lift, Fl.andThen, isNon, gN, gT, gCons, gNil, Option.bind_some, gIsN, e_gEqS, e_gEq, e_gI, e_gIc, e_gMul, e_gAdd, e_gCmp, gSub, gAddI, gFdiv, gMod,   List.map_cons, List.map_nil, List.cons_append, List.nil_append, List.append_nil, List.length_cons, List.length_nil, List.replicate, List.set_cons_succ, List.set_cons_zero, List.getElem?_cons_succ, List.getElem?_cons_zero, Nat.reduceSub, Nat.reduceAdd, if_true, if_false, Bool.false_eq_true, Bool.true_eq_false, Bool.not_true, Bool.not_false, reduceCtorEq, Nat.reduceLeDiff, f_paths h, dgk hp, hk, Option.isSome, gDGet, ins_pa (z := "value_at") hq, f_time h, value_eq hq hl]
theorem now_val (h : L[m]? = some (mvO v p w t)) (hp : L[p]? = some (dk P)) (hk : lookK P (.inr k) = none) (hv : L[v]? = some (dk V)) (hx : lookK V (.inr k) = some x) : F_Mover_value_now [.ref m, .str k] L = .ok x L := by
  unfold F_Mover_value_now B_Mover_value_now
  simp only [callF, mSeq, mIfS, mAsg, mRet, mRetN, mDrop, mOr, mAnd, mNot, mTest, mOp, mUn, mVar, mC, mCons, mNil, mBlt, mTup, mFl, mLst, mIf, mNotV, mAndV, mOrV, toB, mSkip, mBreak, mCont, mRaise, mBM, mFld, mDGet1, mDGet2, mDPut, mDDel, mDIn, mSetFld, mSetIx, mAugFld, mMeth, mCall, mMake, mDNew, mDisp, mPCons, mPNil, kvOf, keyOf, mChain, mPar, mTru, truthL, Res.bind, lift, Fl.andThen, isNon, gN, gT, gCons, gNil, Option.bind_some, gIsN, e_gEqS, e_gEq, e_gI, e_gIc, e_gMul, e_gAdd, e_gCmp, gSub, gAddI, gFdiv, gMod,   List.map_cons, List.map_nil, List.cons_append, List.nil_append, List.append_nil, List.length_cons, List.length_nil, List.replicate, List.set_cons_succ, List.set_cons_zero, List.getElem?_cons_succ, List.getElem?_cons_zero, Nat.reduceSub, Nat.reduceAdd, if_true, if_false, Bool.false_eq_true, Bool.true_eq_false, Bool.not_true, Bool.not_false, reduceCtorEq, Nat.reduceLeDiff, f_paths h, dgk hp, hk, Option.isSome, gDGet, f_vals h, dgk hv, hx]
theorem now_no (h : L[m]? = some (mvO v p w t)) (hp : L[p]? = some (dk P)) (hk : lookK P (.inr k) = none) (hv : L[v]? = some (dk V)) (hx : lookK V (.inr k) = none) : F_Mover_value_now [.ref m, .str k] L = .exc 0 L := by
  unfold F_Mover_value_now B_Mover_value_now
  simp only [callF, mSeq, mIfS, mAsg, mRet, mRetN, mDrop, mOr, mAnd, mNot, mTest, mOp, mUn, mVar, mC, mCons, mNil, mBlt, mTup, mFl, mLst, mIf, mNotV, mAndV, mOrV, toB, mSkip, mBreak, mCont, mRaise, mBM, mFld, mDGet1, mDGet2, mDPut, mDDel, mDIn, mSetFld, mSetIx, mAugFld, mMeth, mCall, mMake, mDNew, mDisp, mPCons, mPNil, kvOf, keyOf, mChain, mPar, mTru, truthL, Res.bind, lift, Fl.andThen, isNon, gN, gT, gCons, gNil, Option.bind_some, gIsN, e_gEqS, e_gEq, e_gI, e_gIc, e_gMul, e_gAdd, e_gCmp, gSub, gAddI, gFdiv, gMod,   List.map_cons, List.map_nil, List.cons_append, List.nil_append, List.append_nil, List.length_cons, List.length_nil, List.replicate, List.set_cons_succ, List.set_cons_zero, List.getElem?_cons_succ, List.getElem?_cons_zero, Nat.reduceSub, Nat.reduceAdd, if_true, if_false, Bool.false_eq_true, Bool.true_eq_false, Bool.not_true, Bool.not_false, reduceCtorEq, Nat.reduceLeDiff, f_paths h, dgk hp, hk, Option.isSome, gDGet, f_vals h, dgk hv, hx]
theorem stay_no (h : L[m]? = some (mvO v p w t)) (hp : L[p]? = some (dk P)) (hk : lookK P (.inr k) = none) (hv : L[v]? = some (dk V)) (hV : V.length < 1000) (n1 : v ≠ m) (n2 : v ≠ p) : F_Mover_stay [.ref m, .str k, x] L = .ok .non (L.set v (dk (putKL V (.inr k) x))) := by
  unfold F_Mover_stay B_Mover_stay
  have h' := at_ne (o' := dk (putKL V (.inr k) x)) n1 h
  have hp' := at_ne (o' := dk (putKL V (.inr k) x)) n2 hp
  simp only [callF, mSeq, mIfS, mAsg, mRet, mRetN, mDrop, mOr, mAnd, mNot, mTest, mOp, mUn, mVar, mC, mCons, mNil, mBlt, mTup, mFl, mLst, mIf, mNotV, mAndV, mOrV, toB, mSkip, mBreak, mCont, mRaise, mBM, mFld, mDGet1, mDGet2, mDPut, mDDel, mDIn, mSetFld, mSetIx, mAugFld, mMeth, mCall, mMake, mDNew, mDisp, mPCons, mPNil, kvOf, keyOf, mChain, mPar, mTru, truthL, Res.bind, lift, Fl.andThen, isNon, gN, gT, gCons, gNil, Option.bind_some, gIsN, e_gEqS, e_gEq, e_gI, e_gIc, e_gMul, e_gAdd, e_gCmp, gSub, gAddI, gFdiv, gMod,   List.map_cons, List.map_nil, List.cons_append, List.nil_append, List.append_nil, List.length_cons, List.length_nil, List.replicate, List.set_cons_succ, List.set_cons_zero, List.getElem?_cons_succ, List.getElem?_cons_zero, Nat.reduceSub, Nat.reduceAdd, if_true, if_false, Bool.false_eq_true, Bool.true_eq_false, Bool.not_true, Bool.not_false, reduceCtorEq, Nat.reduceLeDiff, f_vals h, dput (k := .inr k) (x := .str k) rfl hv hV, f_paths h', dgk hp', hk, Option.isSome]
theorem stay_drop (h : L[m]? = some (mvO v p w t)) (hp : L[p]? = some (dk P)) (hk : lookK P (.inr k) = some x) {y : LV} (hv : L[v]? = some (dk V)) (hV : V.length < 1000) (n1 : v ≠ m) (n2 : v ≠ p) : F_Mover_stay [.ref m, .str k, y] L = .ok .non ((L.set v (dk (putKL V (.inr k) y))).set p (dk (dropKL P (.inr k)))) := by
  unfold F_Mover_stay B_Mover_stay
  have h' := at_ne (o' := dk (putKL V (.inr k) y)) n1 h
  have hp' := at_ne (o' := dk (putKL V (.inr k) y)) n2 hp
  simp only [callF, mSeq, mIfS, mAsg, mRet, mRetN, mDrop, mOr, mAnd, mNot, mTest, mOp, mUn, mVar, mC, mCons, mNil, mBlt, mTup, mFl, mLst, mIf, mNotV, mAndV, mOrV, toB, mSkip, mBreak, mCont, mRaise, mBM, mFld, mDGet1, mDGet2, mDPut, mDDel, mDIn, mSetFld, mSetIx, mAugFld, mMeth, mCall, mMake, mDNew, mDisp, mPCons, mPNil, kvOf, keyOf, mChain, mPar, mTru, truthL, Res.bind, lift, Fl.andThen, isNon, gN, gT, gCons, gNil, Option.bind_some, gIsN, e_gEqS, e_gEq, e_gI, e_gIc, e_gMul, e_gAdd, e_gCmp, gSub, gAddI, gFdiv, gMod,   List.map_cons, List.map_nil, List.cons_append, List.nil_append, List.append_nil, List.length_cons, List.length_nil, List.replicate, List.set_cons_succ, List.set_cons_zero, List.getElem?_cons_succ, List.getElem?_cons_zero, Nat.reduceSub, Nat.reduceAdd, if_true, if_false, Bool.false_eq_true, Bool.true_eq_false, Bool.not_true, Bool.not_false, reduceCtorEq, Nat.reduceLeDiff, f_vals h, dput (k := .inr k) (x := .str k) rfl hv hV, f_paths h', dgk hp', hk, Option.isSome, hp']
theorem set_way_ok (h : L[m]? = some (mvO v p w t)) (hw : L[w]? = some (dk Wd)) (hW : Wd.length < 1000) (h0 : 0 ≤ l) (h4 : W ∈ WS4) : F_Mover_set_way [.ref m, .str k, .int l, .str W] L = .ok .non (L.set w (dk (putKL Wd (.inr k) (.tup [.int l, .str W])))) := by
  unfold F_Mover_set_way B_Mover_set_way
  simp only [callF, mSeq, mIfS, mAsg, mRet, mRetN, mDrop, mOr, mAnd, mNot, mTest, mOp, mUn, mVar, mC, mCons, mNil, mBlt, mTup, mFl, mLst, mIf, mNotV, mAndV, mOrV, toB, mSkip, mBreak, mCont, mRaise, mBM, mFld, mDGet1, mDGet2, mDPut, mDDel, mDIn, mSetFld, mSetIx, mAugFld, mMeth, mCall, mMake, mDNew, mDisp, mPCons, mPNil, kvOf, keyOf, mChain, mPar, mTru, truthL, Res.bind, lift, Fl.andThen, isNon, gN, gT, gCons, gNil, Option.bind_some, gIsN, e_gEqS, e_gEq, e_gI, e_gIc, e_gMul, e_gAdd, e_gCmp, gSub, gAddI, gFdiv, gMod,   List.map_cons, List.map_nil, List.cons_append, List.nil_append, List.append_nil, List.length_cons, List.length_nil, List.replicate, List.set_cons_succ, List.set_cons_zero, List.getElem?_cons_succ, List.getElem?_cons_zero, Nat.reduceSub, Nat.reduceAdd, if_true, if_false, Bool.false_eq_true, Bool.true_eq_false, Bool.not_true, Bool.not_false, reduceCtorEq, Nat.reduceLeDiff, need_ok (L := L) h0 h4, f_ways h, dput (k := .inr k) (x := .str k) rfl hw hW]
theorem back_no (h : L[m]? = some (mvO v p w t)) (hp : L[p]? = some (dk P)) (hk : lookK P (.inr k) = none) : F_Mover_longest_back [.ref m, .str k, .int a, .int l] L = .ok (.int l) L := by
  unfold F_Mover_longest_back B_Mover_longest_back
  simp only [callF, mSeq, mIfS, mAsg, mRet, mRetN, mDrop, mOr, mAnd, mNot, mTest, mOp, mUn, mVar, mC, mCons, mNil, mBlt, mTup, mFl, mLst, mIf, mNotV, mAndV, mOrV, toB, mSkip, mBreak, mCont, mRaise, mBM, mFld, mDGet1, mDGet2, mDPut, mDDel, mDIn, mSetFld, mSetIx, mAugFld, mMeth, mCall, mMake, mDNew, mDisp, mPCons, mPNil, kvOf, keyOf, mChain, mPar, mTru, truthL, Res.bind, lift, Fl.andThen, isNon, gN, gT, gCons, gNil, Option.bind_some, gIsN, e_gEqS, e_gEq, e_gI, e_gIc, e_gMul, e_gAdd, e_gCmp, gSub, gAddI, gFdiv, gMod,   List.map_cons, List.map_nil, List.cons_append, List.nil_append, List.append_nil, List.length_cons, List.length_nil, List.replicate, List.set_cons_succ, List.set_cons_zero, List.getElem?_cons_succ, List.getElem?_cons_zero, Nat.reduceSub, Nat.reduceAdd, if_true, if_false, Bool.false_eq_true, Bool.true_eq_false, Bool.not_true, Bool.not_false, reduceCtorEq, Nat.reduceLeDiff, f_paths h, e_isD hp, dgk hp, hk, Option.getD]
theorem back_eq {b g : Int} (h : L[m]? = some (mvO v p w t)) (hp : L[p]? = some (dk P)) (hk : lookK P (.inr k) = some (.ref q)) (hq : L[q]? = some (paO f a s l W)) : F_Mover_longest_back [.ref m, .str k, .int b, .int g] L = .ok (.int (if f = b then t - s else g)) L := by
  unfold F_Mover_longest_back B_Mover_longest_back
  by_cases e : f = b
  · simp only [callF, mSeq, mIfS, mAsg, mRet, mRetN, mDrop, mOr, mAnd, mNot, mTest, mOp, mUn, mVar, mC, mCons, mNil, mBlt, mTup, mFl, mLst, mIf, mNotV, mAndV, mOrV, toB, mSkip, mBreak, mCont, mRaise, mBM, mFld, mDGet1, mDGet2, mDPut, mDDel, mDIn, mSetFld, mSetIx, mAugFld, mMeth, mCall, mMake, mDNew, mDisp, mPCons, mPNil, kvOf, keyOf, mChain, mPar, mTru, truthL, Res.bind, lift, Fl.andThen, isNon, gN, gT, gCons, gNil, Option.bind_some, gIsN, e_gEqS, e_gEq, e_gI, e_gIc, e_gMul, e_gAdd, e_gCmp, gSub, gAddI, gFdiv, gMod,   List.map_cons, List.map_nil, List.cons_append, List.nil_append, List.append_nil, List.length_cons, List.length_nil, List.replicate, List.set_cons_succ, List.set_cons_zero, List.getElem?_cons_succ, List.getElem?_cons_zero, Nat.reduceSub, Nat.reduceAdd, if_true, if_false, Bool.false_eq_true, Bool.true_eq_false, Bool.not_true, Bool.not_false, reduceCtorEq, Nat.reduceLeDiff, f_paths h, e_isD hp, dgk hp, hk, Option.getD, f_first hq, e, decide_true, f_time h, f_start hq]
  · simp only [callF, mSeq, mIfS, mAsg, mRet, mRetN, mDrop, mOr, mAnd, mNot, mTest, mOp, mUn, mVar, mC, mCons, mNil, mBlt, mTup, mFl, mLst, mIf, mNotV, mAndV, mOrV, toB, mSkip, mBreak, mCont, mRaise, mBM, mFld, mDGet1, mDGet2, mDPut, mDDel, mDIn, mSetFld, mSetIx, mAugFld, mMeth, mCall, mMake, mDNew, mDisp, mPCons, mPNil, kvOf, keyOf, mChain, mPar, mTru, truthL, Res.bind, lift, Fl.andThen, isNon, gN, gT, gCons, gNil, Option.bind_some, gIsN, e_gEqS, e_gEq, e_gI, e_gIc, e_gMul, e_gAdd, e_gCmp, gSub, gAddI, gFdiv, gMod,   List.map_cons, List.map_nil, List.cons_append, List.nil_append, List.append_nil, List.length_cons, List.length_nil, List.replicate, List.set_cons_succ, List.set_cons_zero, List.getElem?_cons_succ, List.getElem?_cons_zero, Nat.reduceSub, Nat.reduceAdd, if_true, if_false, Bool.false_eq_true, Bool.true_eq_false, Bool.not_true, Bool.not_false, reduceCtorEq, Nat.reduceLeDiff, f_paths h, e_isD hp, dgk hp, hk, Option.getD, f_first hq, e, decide_false, f_time h, f_start hq]
theorem path_init (h0 : 0 ≤ l) (h4 : W ∈ WS4) : F_Path_init [.ref L.length, .int f, .int a, .int s, .int l, .str W] (L ++ [.ins i_Path []]) = .ok .non (L ++ [paO f a s l W]) := by
  have e1 : setFld i_Path "first" (.int f) (L ++ [LO.ins i_Path []]) (.ref L.length) = some (L ++ [LO.ins i_Path [("first", .int f)]]) := by
    simp only [setFld, at_at, set_at]; rfl
  have e2 : setFld i_Path "last" (.int a) (L ++ [LO.ins i_Path [("first", .int f)]]) (.ref L.length) = some (L ++ [LO.ins i_Path [("first", .int f), ("last", .int a)]]) := by
    simp only [setFld, at_at, set_at]; rfl
  have e3 : setFld i_Path "start" (.int s) (L ++ [LO.ins i_Path [("first", .int f), ("last", .int a)]]) (.ref L.length) = some (L ++ [LO.ins i_Path [("first", .int f), ("last", .int a), ("start", .int s)]]) := by
    simp only [setFld, at_at, set_at]; rfl
  have e4 : setFld i_Path "length" (.int l) (L ++ [LO.ins i_Path [("first", .int f), ("last", .int a), ("start", .int s)]]) (.ref L.length) = some (L ++ [LO.ins i_Path [("first", .int f), ("last", .int a), ("start", .int s), ("length", .int l)]]) := by
    simp only [setFld, at_at, set_at]; rfl
  have e5 : setFld i_Path "way" (.str W) (L ++ [LO.ins i_Path [("first", .int f), ("last", .int a), ("start", .int s), ("length", .int l)]]) (.ref L.length) = some (L ++ [paO f a s l W]) := by
    simp only [setFld, at_at, set_at]; rfl
  unfold F_Path_init B_Path_init
  simp only [callF, mSeq, mIfS, mAsg, mRet, mRetN, mDrop, mOr, mAnd, mNot, mTest, mOp, mUn, mVar, mC, mCons, mNil, mBlt, mTup, mFl, mLst, mIf, mNotV, mAndV, mOrV, toB, mSkip, mBreak, mCont, mRaise, mBM, mFld, mDGet1, mDGet2, mDPut, mDDel, mDIn, mSetFld, mSetIx, mAugFld, mMeth, mCall, mMake, mDNew, mDisp, mPCons, mPNil, kvOf, keyOf, mChain, mPar, mTru, truthL, Res.bind, lift, Fl.andThen, isNon, gN, gT, gCons, gNil, Option.bind_some, gIsN, e_gEqS, e_gEq, e_gI, e_gIc, e_gMul, e_gAdd, e_gCmp, gSub, gAddI, gFdiv, gMod,   List.map_cons, List.map_nil, List.cons_append, List.nil_append, List.append_nil, List.length_cons, List.length_nil, List.replicate, List.set_cons_succ, List.set_cons_zero, List.getElem?_cons_succ, List.getElem?_cons_zero, Nat.reduceSub, Nat.reduceAdd, if_true, if_false, Bool.false_eq_true, Bool.true_eq_false, Bool.not_true, Bool.not_false, reduceCtorEq, Nat.reduceLeDiff, need_ok (L := L ++ [LO.ins i_Path []]) h0 h4, e1, e2, e3, e4, e5]
theorem path_make {args : Sl → M (List LV)} {sl : Sl} {L1 : LH} (ha : args sl L1 = .ok [.int f, .int a, .int s, .int l, .str W] L) (h0 : 0 ≤ l) (h4 : W ∈ WS4) : mMake i_Path F_Path_init [] args sl L1 = .ok (.ref L.length) (L ++ [paO f a s l W]) := by
  simp only [callF, mSeq, mIfS, mAsg, mRet, mRetN, mDrop, mOr, mAnd, mNot, mTest, mOp, mUn, mVar, mC, mCons, mNil, mBlt, mTup, mFl, mLst, mIf, mNotV, mAndV, mOrV, toB, mSkip, mBreak, mCont, mRaise, mBM, mFld, mDGet1, mDGet2, mDPut, mDDel, mDIn, mSetFld, mSetIx, mAugFld, mMeth, mCall, mMake, mDNew, mDisp, mPCons, mPNil, kvOf, keyOf, mChain, mPar, mTru, truthL, Res.bind, lift, Fl.andThen, isNon, gN, gT, gCons, gNil, Option.bind_some, gIsN, e_gEqS, e_gEq, e_gI, e_gIc, e_gMul, e_gAdd, e_gCmp, gSub, gAddI, gFdiv, gMod,   List.map_cons, List.map_nil, List.cons_append, List.nil_append, List.append_nil, List.length_cons, List.length_nil, List.replicate, List.set_cons_succ, List.set_cons_zero, List.getElem?_cons_succ, List.getElem?_cons_zero, Nat.reduceSub, Nat.reduceAdd, if_true, if_false, Bool.false_eq_true, Bool.true_eq_false, Bool.not_true, Bool.not_false, reduceCtorEq, Nat.reduceLeDiff, ha, path_init h0 h4]
theorem mover_make {sl : Sl} : mMake i_Mover F_Mover_init [] mNil sl L = .ok (.ref L.length) (L ++ [mvO (L.length + 1) (L.length + 2) (L.length + 3) 0, dk [], dk [], dk []]) := by
  have e1 : setFld i_Mover "values_now" (.ref (L.length + 1)) (L ++ [LO.ins i_Mover [], dk []]) (.ref L.length) = some (L ++ [LO.ins i_Mover [("values_now", .ref (L.length + 1))], dk []]) := by
    simp only [setFld, at_at, set_at]; rfl
  have e2 : setFld i_Mover "paths" (.ref (L.length + 2)) (L ++ [LO.ins i_Mover [("values_now", .ref (L.length + 1))], dk [], dk []]) (.ref L.length) = some (L ++ [LO.ins i_Mover [("values_now", .ref (L.length + 1)), ("paths", .ref (L.length + 2))], dk [], dk []]) := by
    simp only [setFld, at_at, set_at]; rfl
  have e3 : setFld i_Mover "ways" (.ref (L.length + 3)) (L ++ [LO.ins i_Mover [("values_now", .ref (L.length + 1)), ("paths", .ref (L.length + 2))], dk [], dk [], dk []]) (.ref L.length) = some (L ++ [LO.ins i_Mover [("values_now", .ref (L.length + 1)), ("paths", .ref (L.length + 2)), ("ways", .ref (L.length + 3))], dk [], dk [], dk []]) := by
    simp only [setFld, at_at, set_at]; rfl
  have e4 : setFld i_Mover "time" (.int 0) (L ++ [LO.ins i_Mover [("values_now", .ref (L.length + 1)), ("paths", .ref (L.length + 2)), ("ways", .ref (L.length + 3))], dk [], dk [], dk []]) (.ref L.length) = some (L ++ [mvO (L.length + 1) (L.length + 2) (L.length + 3) 0, dk [], dk [], dk []]) := by
    simp only [setFld, at_at, set_at]; rfl
  have ap : ∀ {a b : LO} {t : LH}, (L ++ a :: t) ++ [b] = L ++ (a :: (t ++ [b])) := by intros; simp
  unfold mMake F_Mover_init B_Mover_init
  simp only [callF, mSeq, mIfS, mAsg, mRet, mRetN, mDrop, mOr, mAnd, mNot, mTest, mOp, mUn, mVar, mC, mCons, mNil, mBlt, mTup, mFl, mLst, mIf, mNotV, mAndV, mOrV, toB, mSkip, mBreak, mCont, mRaise, mBM, mFld, mDGet1, mDGet2, mDPut, mDDel, mDIn, mSetFld, mSetIx, mAugFld, mMeth, mCall, mMake, mDNew, mDisp, mPCons, mPNil, kvOf, keyOf, mChain, mPar, mTru, truthL, Res.bind, lift, Fl.andThen, isNon, gN, gT, gCons, gNil, Option.bind_some, gIsN, e_gEqS, e_gEq, e_gI, e_gIc, e_gMul, e_gAdd, e_gCmp, gSub, gAddI, gFdiv, gMod,   List.map_cons, List.map_nil, List.cons_append, List.nil_append, List.append_nil, List.length_cons, List.length_nil, List.replicate, List.set_cons_succ, List.set_cons_zero, List.getElem?_cons_succ, List.getElem?_cons_zero, Nat.reduceSub, Nat.reduceAdd, if_true, if_false, Bool.false_eq_true, Bool.true_eq_false, Bool.not_true, Bool.not_false, reduceCtorEq, Nat.reduceLeDiff, ap, List.length_append, e1, e2, e3, e4]
/-- what a way tells -/
def wayV : Option (Int × Str) → LV
  | none => .st [.int 0, .str "even"]
  | some x => .tup [.int x.1, .str x.2]
def wayOf (o : Option (Int × Str)) : Int × Str := o.getD (0, "even")
theorem way_get {o : Option (Int × Str)} (h : (o.map fun x => LV.tup [.int x.1, .str x.2]).getD (.st [.int 0, .str "even"]) = y) {sl : Sl} (i j : Nat) : gT 2 (gCons (gN i) (gCons (gN j) gNil)) y sl = some ((sl.set i (some (.int (wayOf o).1))).set j (some (.str (wayOf o).2))) := by
  subst h
  cases o <;> rfl
/-- where a value is set for the first time -/
theorem go_first (h : L[m]? = some (mvO v p w t)) (hp : L[p]? = some (dk P)) (hk : lookK P (.inr k) = none) (hv : L[v]? = some (dk V)) (hx : lookK V (.inr k) = none) (hV : V.length < 1000) (n1 : v ≠ m) (n2 : v ≠ p) : F_Mover_go_to [.ref m, .str k, .int a] L = .ok .non (L.set v (dk (putKL V (.inr k) (.int a)))) := by
  unfold F_Mover_go_to B_Mover_go_to
  simp only [callF, mSeq, mIfS, mAsg, mRet, mRetN, mDrop, mOr, mAnd, mNot, mTest, mOp, mUn, mVar, mC, mCons, mNil, mBlt, mTup, mFl, mLst, mIf, mNotV, mAndV, mOrV, toB, mSkip, mBreak, mCont, mRaise, mBM, mFld, mDGet1, mDGet2, mDPut, mDDel, mDIn, mSetFld, mSetIx, mAugFld, mMeth, mCall, mMake, mDNew, mDisp, mPCons, mPNil, kvOf, keyOf, mChain, mPar, mTru, truthL, Res.bind, lift, Fl.andThen, isNon, gN, gT, gCons, gNil, Option.bind_some, gIsN, e_gEqS, e_gEq, e_gI, e_gIc, e_gMul, e_gAdd, e_gCmp, gSub, gAddI, gFdiv, gMod,   List.map_cons, List.map_nil, List.cons_append, List.nil_append, List.append_nil, List.length_cons, List.length_nil, List.replicate, List.set_cons_succ, List.set_cons_zero, List.getElem?_cons_succ, List.getElem?_cons_zero, Nat.reduceSub, Nat.reduceAdd, if_true, if_false, Bool.false_eq_true, Bool.true_eq_false, Bool.not_true, Bool.not_false, reduceCtorEq, Nat.reduceLeDiff, f_paths h, dgk hp, hk, Option.isSome, f_vals h, dgk hv, hx, ins_mv (z := "stay") h, stay_no h hp hk hv hV n1 n2]
theorem go_stay {b : Int} {o : Option (Int × Str)} {L1 : LH} (h : L[m]? = some (mvO v p w t)) (hp : L[p]? = some (dk P)) (hv : L[v]? = some (dk V)) (hin : (lookK P (.inr k)).isSome = true ∨ (lookK V (.inr k)).isSome = true)
    (hn : F_Mover_value_now [.ref m, .str k] L = .ok (.int b) L) (hw : L[w]? = some (dk Wd)) (ho : lookK Wd (.inr k) = o.map fun x => LV.tup [.int x.1, .str x.2]) (hc : b = a ∨ (wayOf o).1 = 0) (hs : F_Mover_stay [.ref m, .str k, .int a] L = .ok .non L1) : F_Mover_go_to [.ref m, .str k, .int a] L = .ok .non L1 := by
  unfold F_Mover_go_to B_Mover_go_to
  have hg := fun sl => way_get (o := o) rfl (sl := sl) 4 5
  have c1 : mAnd (mTest (mDIn true (mVar 1) (mFld i_Mover "paths" (mVar 0)))) (mTest (mDIn true (mVar 1) (mFld i_Mover "values_now" (mVar 0)))) [some (.ref m), some (.str k), some (.int a), none, none, none] L = .ok false L := by
    rcases hin with z | z
    · simp only [callF, mSeq, mIfS, mAsg, mRet, mRetN, mDrop, mOr, mAnd, mNot, mTest, mOp, mUn, mVar, mC, mCons, mNil, mBlt, mTup, mFl, mLst, mIf, mNotV, mAndV, mOrV, toB, mSkip, mBreak, mCont, mRaise, mBM, mFld, mDGet1, mDGet2, mDPut, mDDel, mDIn, mSetFld, mSetIx, mAugFld, mMeth, mCall, mMake, mDNew, mDisp, mPCons, mPNil, kvOf, keyOf, mChain, mPar, mTru, truthL, Res.bind, lift, Fl.andThen, isNon, gN, gT, gCons, gNil, Option.bind_some, gIsN, e_gEqS, e_gEq, e_gI, e_gIc, e_gMul, e_gAdd, e_gCmp, gSub, gAddI, gFdiv, gMod,   List.map_cons, List.map_nil, List.cons_append, List.nil_append, List.append_nil, List.length_cons, List.length_nil, List.replicate, List.set_cons_succ, List.set_cons_zero, List.getElem?_cons_succ, List.getElem?_cons_zero, Nat.reduceSub, Nat.reduceAdd, if_true, if_false, Bool.false_eq_true, Bool.true_eq_false, Bool.not_true, Bool.not_false, reduceCtorEq, Nat.reduceLeDiff, f_paths h, dgk hp, z]
    · cases eP : (lookK P (.inr k)).isSome with
      | true => simp only [callF, mSeq, mIfS, mAsg, mRet, mRetN, mDrop, mOr, mAnd, mNot, mTest, mOp, mUn, mVar, mC, mCons, mNil, mBlt, mTup, mFl, mLst, mIf, mNotV, mAndV, mOrV, toB, mSkip, mBreak, mCont, mRaise, mBM, mFld, mDGet1, mDGet2, mDPut, mDDel, mDIn, mSetFld, mSetIx, mAugFld, mMeth, mCall, mMake, mDNew, mDisp, mPCons, mPNil, kvOf, keyOf, mChain, mPar, mTru, truthL, Res.bind, lift, Fl.andThen, isNon, gN, gT, gCons, gNil, Option.bind_some, gIsN, e_gEqS, e_gEq, e_gI, e_gIc, e_gMul, e_gAdd, e_gCmp, gSub, gAddI, gFdiv, gMod,   List.map_cons, List.map_nil, List.cons_append, List.nil_append, List.append_nil, List.length_cons, List.length_nil, List.replicate, List.set_cons_succ, List.set_cons_zero, List.getElem?_cons_succ, List.getElem?_cons_zero, Nat.reduceSub, Nat.reduceAdd, if_true, if_false, Bool.false_eq_true, Bool.true_eq_false, Bool.not_true, Bool.not_false, reduceCtorEq, Nat.reduceLeDiff, f_paths h, dgk hp, eP]
      | false => simp only [callF, mSeq, mIfS, mAsg, mRet, mRetN, mDrop, mOr, mAnd, mNot, mTest, mOp, mUn, mVar, mC, mCons, mNil, mBlt, mTup, mFl, mLst, mIf, mNotV, mAndV, mOrV, toB, mSkip, mBreak, mCont, mRaise, mBM, mFld, mDGet1, mDGet2, mDPut, mDDel, mDIn, mSetFld, mSetIx, mAugFld, mMeth, mCall, mMake, mDNew, mDisp, mPCons, mPNil, kvOf, keyOf, mChain, mPar, mTru, truthL, Res.bind, lift, Fl.andThen, isNon, gN, gT, gCons, gNil, Option.bind_some, gIsN, e_gEqS, e_gEq, e_gI, e_gIc, e_gMul, e_gAdd, e_gCmp, gSub, gAddI, gFdiv, gMod,   List.map_cons, List.map_nil, List.cons_append, List.nil_append, List.append_nil, List.length_cons, List.length_nil, List.replicate, List.set_cons_succ, List.set_cons_zero, List.getElem?_cons_succ, List.getElem?_cons_zero, Nat.reduceSub, Nat.reduceAdd, if_true, if_false, Bool.false_eq_true, Bool.true_eq_false, Bool.not_true, Bool.not_false, reduceCtorEq, Nat.reduceLeDiff, f_paths h, dgk hp, f_vals h, dgk hv, z, eP]
  have a1 : mMeth i_Mover "value_now" F_Mover_value_now [] (mVar 0) (mCons (mVar 1) mNil) [some (.ref m), some (.str k), some (.int a), none, none, none] L = .ok (.int b) L := by simp only [callF, mSeq, mIfS, mAsg, mRet, mRetN, mDrop, mOr, mAnd, mNot, mTest, mOp, mUn, mVar, mC, mCons, mNil, mBlt, mTup, mFl, mLst, mIf, mNotV, mAndV, mOrV, toB, mSkip, mBreak, mCont, mRaise, mBM, mFld, mDGet1, mDGet2, mDPut, mDDel, mDIn, mSetFld, mSetIx, mAugFld, mMeth, mCall, mMake, mDNew, mDisp, mPCons, mPNil, kvOf, keyOf, mChain, mPar, mTru, truthL, Res.bind, lift, Fl.andThen, isNon, gN, gT, gCons, gNil, Option.bind_some, gIsN, e_gEqS, e_gEq, e_gI, e_gIc, e_gMul, e_gAdd, e_gCmp, gSub, gAddI, gFdiv, gMod,   List.map_cons, List.map_nil, List.cons_append, List.nil_append, List.append_nil, List.length_cons, List.length_nil, List.replicate, List.set_cons_succ, List.set_cons_zero, List.getElem?_cons_succ, List.getElem?_cons_zero, Nat.reduceSub, Nat.reduceAdd, if_true, if_false, Bool.false_eq_true, Bool.true_eq_false, Bool.not_true, Bool.not_false, reduceCtorEq, Nat.reduceLeDiff, ins_mv (z := "value_now") h, hn]
  have a2 : mDGet2 (mFld i_Mover "ways" (mVar 0)) (mVar 1) V_AT_ONCE [some (.ref m), some (.str k), some (.int a), some (.int b), none, none] L = .ok ((o.map fun x => LV.tup [.int x.1, .str x.2]).getD (.st [.int 0, .str "even"])) L := by
    cases o <;> simp only [callF, mSeq, mIfS, mAsg, mRet, mRetN, mDrop, mOr, mAnd, mNot, mTest, mOp, mUn, mVar, mC, mCons, mNil, mBlt, mTup, mFl, mLst, mIf, mNotV, mAndV, mOrV, toB, mSkip, mBreak, mCont, mRaise, mBM, mFld, mDGet1, mDGet2, mDPut, mDDel, mDIn, mSetFld, mSetIx, mAugFld, mMeth, mCall, mMake, mDNew, mDisp, mPCons, mPNil, kvOf, keyOf, mChain, mPar, mTru, truthL, Res.bind, lift, Fl.andThen, isNon, gN, gT, gCons, gNil, Option.bind_some, gIsN, e_gEqS, e_gEq, e_gI, e_gIc, e_gMul, e_gAdd, e_gCmp, gSub, gAddI, gFdiv, gMod,   List.map_cons, List.map_nil, List.cons_append, List.nil_append, List.append_nil, List.length_cons, List.length_nil, List.replicate, List.set_cons_succ, List.set_cons_zero, List.getElem?_cons_succ, List.getElem?_cons_zero, Nat.reduceSub, Nat.reduceAdd, if_true, if_false, Bool.false_eq_true, Bool.true_eq_false, Bool.not_true, Bool.not_false, reduceCtorEq, Nat.reduceLeDiff, f_ways h, e_isD hw, dgk hw, ho, V_AT_ONCE, Option.map, Option.getD]
  refine call_ret ((seq_no c1).trans ((seq_asg a1 rfl).trans ((seq_asg a2 (hg _)).trans (seq_yes (L1 := L) ?_ (L2 := L1) ?_))))
  · by_cases e : b = a
    · simp only [callF, mSeq, mIfS, mAsg, mRet, mRetN, mDrop, mOr, mAnd, mNot, mTest, mOp, mUn, mVar, mC, mCons, mNil, mBlt, mTup, mFl, mLst, mIf, mNotV, mAndV, mOrV, toB, mSkip, mBreak, mCont, mRaise, mBM, mFld, mDGet1, mDGet2, mDPut, mDDel, mDIn, mSetFld, mSetIx, mAugFld, mMeth, mCall, mMake, mDNew, mDisp, mPCons, mPNil, kvOf, keyOf, mChain, mPar, mTru, truthL, Res.bind, lift, Fl.andThen, isNon, gN, gT, gCons, gNil, Option.bind_some, gIsN, e_gEqS, e_gEq, e_gI, e_gIc, e_gMul, e_gAdd, e_gCmp, gSub, gAddI, gFdiv, gMod,   List.map_cons, List.map_nil, List.cons_append, List.nil_append, List.append_nil, List.length_cons, List.length_nil, List.replicate, List.set_cons_succ, List.set_cons_zero, List.getElem?_cons_succ, List.getElem?_cons_zero, Nat.reduceSub, Nat.reduceAdd, if_true, if_false, Bool.false_eq_true, Bool.true_eq_false, Bool.not_true, Bool.not_false, reduceCtorEq, Nat.reduceLeDiff, e, decide_true]
    · simp only [callF, mSeq, mIfS, mAsg, mRet, mRetN, mDrop, mOr, mAnd, mNot, mTest, mOp, mUn, mVar, mC, mCons, mNil, mBlt, mTup, mFl, mLst, mIf, mNotV, mAndV, mOrV, toB, mSkip, mBreak, mCont, mRaise, mBM, mFld, mDGet1, mDGet2, mDPut, mDDel, mDIn, mSetFld, mSetIx, mAugFld, mMeth, mCall, mMake, mDNew, mDisp, mPCons, mPNil, kvOf, keyOf, mChain, mPar, mTru, truthL, Res.bind, lift, Fl.andThen, isNon, gN, gT, gCons, gNil, Option.bind_some, gIsN, e_gEqS, e_gEq, e_gI, e_gIc, e_gMul, e_gAdd, e_gCmp, gSub, gAddI, gFdiv, gMod,   List.map_cons, List.map_nil, List.cons_append, List.nil_append, List.append_nil, List.length_cons, List.length_nil, List.replicate, List.set_cons_succ, List.set_cons_zero, List.getElem?_cons_succ, List.getElem?_cons_zero, Nat.reduceSub, Nat.reduceAdd, if_true, if_false, Bool.false_eq_true, Bool.true_eq_false, Bool.not_true, Bool.not_false, reduceCtorEq, Nat.reduceLeDiff, e, decide_false, hc.resolve_left e, decide_true]
  · simp only [callF, mSeq, mIfS, mAsg, mRet, mRetN, mDrop, mOr, mAnd, mNot, mTest, mOp, mUn, mVar, mC, mCons, mNil, mBlt, mTup, mFl, mLst, mIf, mNotV, mAndV, mOrV, toB, mSkip, mBreak, mCont, mRaise, mBM, mFld, mDGet1, mDGet2, mDPut, mDDel, mDIn, mSetFld, mSetIx, mAugFld, mMeth, mCall, mMake, mDNew, mDisp, mPCons, mPNil, kvOf, keyOf, mChain, mPar, mTru, truthL, Res.bind, lift, Fl.andThen, isNon, gN, gT, gCons, gNil, Option.bind_some, gIsN, e_gEqS, e_gEq, e_gI, e_gIc, e_gMul, e_gAdd, e_gCmp, gSub, gAddI, gFdiv, gMod,   List.map_cons, List.map_nil, List.cons_append, List.nil_append, List.append_nil, List.length_cons, List.length_nil, List.replicate, List.set_cons_succ, List.set_cons_zero, List.getElem?_cons_succ, List.getElem?_cons_zero, Nat.reduceSub, Nat.reduceAdd, if_true, if_false, Bool.false_eq_true, Bool.true_eq_false, Bool.not_true, Bool.not_false, reduceCtorEq, Nat.reduceLeDiff, ins_mv (z := "stay") h, hs]
theorem go_path {b back : Int} {o : Option (Int × Str)} (h : L[m]? = some (mvO v p w t)) (hp : L[p]? = some (dk P)) (hv : L[v]? = some (dk V)) (hin : (lookK P (.inr k)).isSome = true ∨ (lookK V (.inr k)).isSome = true)
    (hn : F_Mover_value_now [.ref m, .str k] L = .ok (.int b) L) (hw : L[w]? = some (dk Wd)) (ho : lookK Wd (.inr k) = o.map fun x => LV.tup [.int x.1, .str x.2]) (h1 : b ≠ a) (h2 : (wayOf o).1 ≠ 0) (hb : F_Mover_longest_back [.ref m, .str k, .int a, .int (wayOf o).1] L = .ok (.int back) L)
    (h0 : 0 ≤ min back (wayOf o).1) (h4 : (wayOf o).2 ∈ WS4) (hP : P.length < 1000) : F_Mover_go_to [.ref m, .str k, .int a] L = .ok .non ((L ++ [paO b a t (min back (wayOf o).1) (wayOf o).2]).set p (dk (putKL P (.inr k) (.ref L.length)))) := by
  unfold F_Mover_go_to B_Mover_go_to
  have hg := fun sl => way_get (o := o) rfl (sl := sl) 4 5
  have c1 : mAnd (mTest (mDIn true (mVar 1) (mFld i_Mover "paths" (mVar 0)))) (mTest (mDIn true (mVar 1) (mFld i_Mover "values_now" (mVar 0)))) [some (.ref m), some (.str k), some (.int a), none, none, none] L = .ok false L := by
    rcases hin with z | z
    · simp only [callF, mSeq, mIfS, mAsg, mRet, mRetN, mDrop, mOr, mAnd, mNot, mTest, mOp, mUn, mVar, mC, mCons, mNil, mBlt, mTup, mFl, mLst, mIf, mNotV, mAndV, mOrV, toB, mSkip, mBreak, mCont, mRaise, mBM, mFld, mDGet1, mDGet2, mDPut, mDDel, mDIn, mSetFld, mSetIx, mAugFld, mMeth, mCall, mMake, mDNew, mDisp, mPCons, mPNil, kvOf, keyOf, mChain, mPar, mTru, truthL, Res.bind, lift, Fl.andThen, isNon, gN, gT, gCons, gNil, Option.bind_some, gIsN, e_gEqS, e_gEq, e_gI, e_gIc, e_gMul, e_gAdd, e_gCmp, gSub, gAddI, gFdiv, gMod,   List.map_cons, List.map_nil, List.cons_append, List.nil_append, List.append_nil, List.length_cons, List.length_nil, List.replicate, List.set_cons_succ, List.set_cons_zero, List.getElem?_cons_succ, List.getElem?_cons_zero, Nat.reduceSub, Nat.reduceAdd, if_true, if_false, Bool.false_eq_true, Bool.true_eq_false, Bool.not_true, Bool.not_false, reduceCtorEq, Nat.reduceLeDiff, f_paths h, dgk hp, z]
    · cases eP : (lookK P (.inr k)).isSome with
      | true => simp only [callF, mSeq, mIfS, mAsg, mRet, mRetN, mDrop, mOr, mAnd, mNot, mTest, mOp, mUn, mVar, mC, mCons, mNil, mBlt, mTup, mFl, mLst, mIf, mNotV, mAndV, mOrV, toB, mSkip, mBreak, mCont, mRaise, mBM, mFld, mDGet1, mDGet2, mDPut, mDDel, mDIn, mSetFld, mSetIx, mAugFld, mMeth, mCall, mMake, mDNew, mDisp, mPCons, mPNil, kvOf, keyOf, mChain, mPar, mTru, truthL, Res.bind, lift, Fl.andThen, isNon, gN, gT, gCons, gNil, Option.bind_some, gIsN, e_gEqS, e_gEq, e_gI, e_gIc, e_gMul, e_gAdd, e_gCmp, gSub, gAddI, gFdiv, gMod,   List.map_cons, List.map_nil, List.cons_append, List.nil_append, List.append_nil, List.length_cons, List.length_nil, List.replicate, List.set_cons_succ, List.set_cons_zero, List.getElem?_cons_succ, List.getElem?_cons_zero, Nat.reduceSub, Nat.reduceAdd, if_true, if_false, Bool.false_eq_true, Bool.true_eq_false, Bool.not_true, Bool.not_false, reduceCtorEq, Nat.reduceLeDiff, f_paths h, dgk hp, eP]
      | false => simp only [callF, mSeq, mIfS, mAsg, mRet, mRetN, mDrop, mOr, mAnd, mNot, mTest, mOp, mUn, mVar, mC, mCons, mNil, mBlt, mTup, mFl, mLst, mIf, mNotV, mAndV, mOrV, toB, mSkip, mBreak, mCont, mRaise, mBM, mFld, mDGet1, mDGet2, mDPut, mDDel, mDIn, mSetFld, mSetIx, mAugFld, mMeth, mCall, mMake, mDNew, mDisp, mPCons, mPNil, kvOf, keyOf, mChain, mPar, mTru, truthL, Res.bind, lift, Fl.andThen, isNon, gN, gT, gCons, gNil, Option.bind_some, gIsN, e_gEqS, e_gEq, e_gI, e_gIc, e_gMul, e_gAdd, e_gCmp, gSub, gAddI, gFdiv, gMod,   List.map_cons, List.map_nil, List.cons_append, List.nil_append, List.append_nil, List.length_cons, List.length_nil, List.replicate, List.set_cons_succ, List.set_cons_zero, List.getElem?_cons_succ, List.getElem?_cons_zero, Nat.reduceSub, Nat.reduceAdd, if_true, if_false, Bool.false_eq_true, Bool.true_eq_false, Bool.not_true, Bool.not_false, reduceCtorEq, Nat.reduceLeDiff, f_paths h, dgk hp, f_vals h, dgk hv, z, eP]
  have a1 : mMeth i_Mover "value_now" F_Mover_value_now [] (mVar 0) (mCons (mVar 1) mNil) [some (.ref m), some (.str k), some (.int a), none, none, none] L = .ok (.int b) L := by simp only [callF, mSeq, mIfS, mAsg, mRet, mRetN, mDrop, mOr, mAnd, mNot, mTest, mOp, mUn, mVar, mC, mCons, mNil, mBlt, mTup, mFl, mLst, mIf, mNotV, mAndV, mOrV, toB, mSkip, mBreak, mCont, mRaise, mBM, mFld, mDGet1, mDGet2, mDPut, mDDel, mDIn, mSetFld, mSetIx, mAugFld, mMeth, mCall, mMake, mDNew, mDisp, mPCons, mPNil, kvOf, keyOf, mChain, mPar, mTru, truthL, Res.bind, lift, Fl.andThen, isNon, gN, gT, gCons, gNil, Option.bind_some, gIsN, e_gEqS, e_gEq, e_gI, e_gIc, e_gMul, e_gAdd, e_gCmp, gSub, gAddI, gFdiv, gMod,   List.map_cons, List.map_nil, List.cons_append, List.nil_append, List.append_nil, List.length_cons, List.length_nil, List.replicate, List.set_cons_succ, List.set_cons_zero, List.getElem?_cons_succ, List.getElem?_cons_zero, Nat.reduceSub, Nat.reduceAdd, if_true, if_false, Bool.false_eq_true, Bool.true_eq_false, Bool.not_true, Bool.not_false, reduceCtorEq, Nat.reduceLeDiff, ins_mv (z := "value_now") h, hn]
  have a2 : mDGet2 (mFld i_Mover "ways" (mVar 0)) (mVar 1) V_AT_ONCE [some (.ref m), some (.str k), some (.int a), some (.int b), none, none] L = .ok ((o.map fun x => LV.tup [.int x.1, .str x.2]).getD (.st [.int 0, .str "even"])) L := by
    cases o <;> simp only [callF, mSeq, mIfS, mAsg, mRet, mRetN, mDrop, mOr, mAnd, mNot, mTest, mOp, mUn, mVar, mC, mCons, mNil, mBlt, mTup, mFl, mLst, mIf, mNotV, mAndV, mOrV, toB, mSkip, mBreak, mCont, mRaise, mBM, mFld, mDGet1, mDGet2, mDPut, mDDel, mDIn, mSetFld, mSetIx, mAugFld, mMeth, mCall, mMake, mDNew, mDisp, mPCons, mPNil, kvOf, keyOf, mChain, mPar, mTru, truthL, Res.bind, lift, Fl.andThen, isNon, gN, gT, gCons, gNil, Option.bind_some, gIsN, e_gEqS, e_gEq, e_gI, e_gIc, e_gMul, e_gAdd, e_gCmp, gSub, gAddI, gFdiv, gMod,   List.map_cons, List.map_nil, List.cons_append, List.nil_append, List.append_nil, List.length_cons, List.length_nil, List.replicate, List.set_cons_succ, List.set_cons_zero, List.getElem?_cons_succ, List.getElem?_cons_zero, Nat.reduceSub, Nat.reduceAdd, if_true, if_false, Bool.false_eq_true, Bool.true_eq_false, Bool.not_true, Bool.not_false, reduceCtorEq, Nat.reduceLeDiff, f_ways h, e_isD hw, dgk hw, ho, V_AT_ONCE, Option.map, Option.getD]
  have mn : (if back < (wayOf o).1 then back else (wayOf o).1) = min back (wayOf o).1 := by omega
  have hp2 := at_app (t := [paO b a t (min back (wayOf o).1) (wayOf o).2]) hp
  refine call_nx (sl := [some (.ref m), some (.str k), some (.int a), some (.int b), some (.int (min back (wayOf o).1)), some (.str (wayOf o).2)]) ((seq_no c1).trans ((seq_asg a1 rfl).trans ((seq_asg a2 (hg _)).trans ((seq_no (L1 := L) ?_).trans ?_))))
  · simp only [callF, mSeq, mIfS, mAsg, mRet, mRetN, mDrop, mOr, mAnd, mNot, mTest, mOp, mUn, mVar, mC, mCons, mNil, mBlt, mTup, mFl, mLst, mIf, mNotV, mAndV, mOrV, toB, mSkip, mBreak, mCont, mRaise, mBM, mFld, mDGet1, mDGet2, mDPut, mDDel, mDIn, mSetFld, mSetIx, mAugFld, mMeth, mCall, mMake, mDNew, mDisp, mPCons, mPNil, kvOf, keyOf, mChain, mPar, mTru, truthL, Res.bind, lift, Fl.andThen, isNon, gN, gT, gCons, gNil, Option.bind_some, gIsN, e_gEqS, e_gEq, e_gI, e_gIc, e_gMul, e_gAdd, e_gCmp, gSub, gAddI, gFdiv, gMod,   List.map_cons, List.map_nil, List.cons_append, List.nil_append, List.append_nil, List.length_cons, List.length_nil, List.replicate, List.set_cons_succ, List.set_cons_zero, List.getElem?_cons_succ, List.getElem?_cons_zero, Nat.reduceSub, Nat.reduceAdd, if_true, if_false, Bool.false_eq_true, Bool.true_eq_false, Bool.not_true, Bool.not_false, reduceCtorEq, Nat.reduceLeDiff, h1, h2, decide_false]
  · simp only [callF, mSeq, mIfS, mAsg, mRet, mRetN, mDrop, mOr, mAnd, mNot, mTest, mOp, mUn, mVar, mC, mCons, mNil, mBlt, mTup, mFl, mLst, mIf, mNotV, mAndV, mOrV, toB, mSkip, mBreak, mCont, mRaise, mBM, mFld, mDGet1, mDGet2, mDPut, mDDel, mDIn, mSetFld, mSetIx, mAugFld, mMeth, mCall, mMake, mDNew, mDisp, mPCons, mPNil, kvOf, keyOf, mChain, mPar, mTru, truthL, Res.bind, lift, Fl.andThen, isNon, gN, gT, gCons, gNil, Option.bind_some, gIsN, e_gEqS, e_gEq, e_gI, e_gIc, e_gMul, e_gAdd, e_gCmp, gSub, gAddI, gFdiv, gMod,   List.map_cons, List.map_nil, List.cons_append, List.nil_append, List.append_nil, List.length_cons, List.length_nil, List.replicate, List.set_cons_succ, List.set_cons_zero, List.getElem?_cons_succ, List.getElem?_cons_zero, Nat.reduceSub, Nat.reduceAdd, if_true, if_false, Bool.false_eq_true, Bool.true_eq_false, Bool.not_true, Bool.not_false, reduceCtorEq, Nat.reduceLeDiff, ins_mv (z := "longest_back") h, hb, fMin, mn, f_time h, path_init h0 h4, f_paths (at_app (t := [paO b a t (min back (wayOf o).1) (wayOf o).2]) h), dput (k := .inr k) (x := .str k) rfl hp2 hP]
end
end Q.K18
end
section
set_option Elab.async false
set_option linter.all false
set_option maxRecDepth 100000
set_option maxHeartbeats 1000000
namespace Q.K18
open PySem L2 Q
abbrev abc : List Str := ["a", "b", "c"]
theorem abc_uo : Uo abc := by
  refine ⟨?_, by decide +kernel, by decide⟩
  have : ∀ a b : Str, leS a b = true → LeS a b := fun a b h => leS_iff.mp h
  simp only [abc, List.pairwise_cons, List.mem_cons, List.not_mem_nil, or_false, forall_eq_or_imp, forall_eq, false_implies, implies_true, and_true, List.Pairwise.nil]
  exact ⟨⟨this _ _ (by decide +kernel), this _ _ (by decide +kernel)⟩, this _ _ (by decide +kernel)⟩
def ENDB : MS := (mSeq (mDPut (mFld i_Mover "values_now" (mVar 0)) (mVar 2) (mFld i_Path "last" (mOp gDGet (mFld i_Mover "paths" (mVar 0)) (mVar 2))))
  (mDDel (mFld i_Mover "paths" (mVar 0)) (mVar 2)))
/-- what stands but at these places -/
abbrev Keep (A : List Nat) (L L' : LH) : Prop := ∀ n o, n ∉ A → L[n]? = some o → L'[n]? = some o
section
variable {L : LH} {m v p w n q : Nat} {t f a s l : Int} {W k : Str} {x : LV} {V P Wd : List (Key × LV)} {vf pf : Str → Option LV}
theorem end_one (h : L[m]? = some (mvO v p w t)) (hv : L[v]? = some (dk V)) (hp : L[p]? = some (dk P)) (hk : lookK P (.inr k) = some (.ref q)) (hq : L[q]? = some (paO f a s l W)) (hV : V.length < 1000) (n1 : v ≠ m) (n2 : v ≠ p) {x1 x3 : Option LV} : ENDB [some (.ref m), x1, some (.str k), x3] L = .next [some (.ref m), x1, some (.str k), x3] ((L.set v (dk (putKL V (.inr k) (.int a)))).set p (dk (dropKL P (.inr k)))) := by
  have h' := at_ne (o' := dk (putKL V (.inr k) (.int a))) n1 h
  have hp' := at_ne (o' := dk (putKL V (.inr k) (.int a))) n2 hp
  unfold ENDB
  simp only [callF, mSeq, mIfS, mAsg, mRet, mRetN, mDrop, mOr, mAnd, mNot, mTest, mOp, mUn, mVar, mC, mCons, mNil, mBlt, mTup, mFl, mLst, mIf, mNotV, mAndV, mOrV, toB, mSkip, mBreak, mCont, mRaise, mBM, mFld, mDGet1, mDGet2, mDPut, mDDel, mDIn, mSetFld, mSetIx, mAugFld, mMeth, mCall, mMake, mDNew, mDisp, mPCons, mPNil, kvOf, keyOf, mChain, mPar, mTru, truthL, Res.bind, lift, Fl.andThen, isNon, gN, gT, gCons, gNil, Option.bind_some, gIsN, e_gEqS, e_gEq, e_gI, e_gIc, e_gMul, e_gAdd, e_gCmp, gSub, gAddI, gFdiv, gMod,   List.map_cons, List.map_nil, List.cons_append, List.nil_append, List.append_nil, List.length_cons, List.length_nil, List.replicate, List.set_cons_succ, List.set_cons_zero, List.getElem?_cons_succ, List.getElem?_cons_zero, Nat.reduceSub, Nat.reduceAdd, if_true, if_false, Bool.false_eq_true, Bool.true_eq_false, Bool.not_true, Bool.not_false, reduceCtorEq, Nat.reduceLeDiff, f_paths h, gDGet, dgk hp, hk, f_last hq, f_vals h, dput (k := .inr k) (x := .str k) rfl hv hV, f_paths h', hp', Option.isSome]
theorem abc_f (F : Str → Bool) : (abc.filter F).length ≤ 3 := List.length_filter_le F abc
theorem ends_go {g : Str → Int} (all : List Str) (n1 : v ≠ m) (n2 : v ≠ p) (n3 : p ≠ m) {x1 x3 : Option LV} : ∀ (c : Nat) (pre post : List Str) (L : LH) (V P : List (Key × LV)) (vf pf : Str → Option LV) (x2 : Option LV), all = pre ++ post → post.length < c → post.Nodup → (∀ k, k ∈ post → k ∈ abc) →
    L[m]? = some (mvO v p w t) → L[v]? = some (dk V) → Rep abc V vf → L[p]? = some (dk P) → Rep abc P pf → (∀ k, k ∈ post → ∃ q f s l W, pf k = some (.ref q) ∧ L[q]? = some (paO f (g k) s l W) ∧ q ≠ v ∧ q ≠ p) →
    ∃ L' sl' V' P', forGo (itV (all.map LV.str)) (gN 2) ENDB c pre.length [some (.ref m), x1, x2, x3] L = .next sl' L' ∧ sl'[3]? = some x3 ∧ L'[v]? = some (dk V') ∧ Rep abc V' (fun k => if k ∈ post then some (.int (g k)) else vf k) ∧ L'[p]? = some (dk P') ∧ Rep abc P' (fun k => if k ∈ post then none else pf k) ∧ Keep [v, p] L L' := by
  intro c
  induction c with
  | zero => intro pre post L V P vf pf x2 _ h; omega
  | succ c ih =>
    intro pre post L V P vf pf x2 e h1 nd hU hm hv rV hp rP hq
    unfold forGo
    cases post with
    | nil =>
      have : itV (all.map LV.str) pre.length L = some none := by simp only [itV, e]; simp
      rw [this]
      exact ⟨L, _, V, P, rfl, rfl, hv, rV.congr fun k => by simp, hp, rP.congr fun k => by simp, fun n o _ h => h⟩
    | cons k r =>
      have hi : itV (all.map LV.str) pre.length L = some (some (.str k)) := by simp only [itV, e]; simp
      rw [hi]
      simp only [List.length_cons] at h1
      rw [List.nodup_cons] at nd
      obtain ⟨q, f, s, l, W, q1, q2, q3, q4⟩ := hq k (by simp)
      have hk := rP.at_ k
      rw [q1] at hk
      have lV := rV.len
      have := end_one hm hv hp hk q2 (by simp at lV; omega) n1 n2 (x1 := x1) (x3 := x3)
      have hg : gN 2 (.str k) [some (.ref m), x1, x2, x3] = some [some (.ref m), x1, some (.str k), x3] := rfl
      simp only [hg, this]
      have hm' := at_ne (o' := dk (dropKL P (.inr k))) n3 (at_ne (o' := dk (putKL V (.inr k) (.int (g k)))) n1 hm)
      have hv' : ((L.set v (dk (putKL V (.inr k) (.int (g k))))).set p (dk (dropKL P (.inr k))))[v]? = some (dk (putKL V (.inr k) (.int (g k)))) := at_ne (Ne.symm n2) (at_self (at_lt hv))
      have hp' : ((L.set v (dk (putKL V (.inr k) (.int (g k))))).set p (dk (dropKL P (.inr k))))[p]? = some (dk (dropKL P (.inr k))) := at_self (by rw [List.length_set]; exact at_lt hp)
      obtain ⟨L', sl', V', P', a1, a2, a3, a4, a5, a6, a7⟩ := ih (pre ++ [k]) r _ _ _ _ _ (some (.str k)) (by rw [e]; simp) (by omega) nd.2 (fun x hx => hU x (List.mem_cons_of_mem _ hx)) hm' hv' (rV.put (hU k (by simp)) _) hp' (rP.drop k) fun x hx => by
        obtain ⟨q, f, s, l, W, q1, q2, q3, q4⟩ := hq x (List.mem_cons_of_mem _ hx)
        exact ⟨q, f, s, l, W, by show (if x = k then none else pf x) = _; rw [if_neg (fun z : x = k => nd.1 (z ▸ hx))]; exact q1, at_ne (Ne.symm q4) (at_ne (Ne.symm q3) q2), q3, q4⟩
      rw [show (pre ++ [k]).length = pre.length + 1 by simp] at a1
      refine ⟨L', sl', V', P', a1, a2, a3, a4.congr fun x => ?_, a5, a6.congr fun x => ?_, fun n o hn ho => a7 n o hn ?_⟩
      · by_cases e1 : x = k
        · subst e1; simp [nd.1]
        · simp [e1]
      · by_cases e1 : x = k
        · subst e1; simp [nd.1]
        · simp [e1]
      · simp only [List.mem_cons, List.not_mem_nil, or_false, not_or] at hn
        exact at_ne (fun z => hn.2 z.symm) (at_ne (fun z => hn.1 z.symm) ho)
/-- the time goes on -/
theorem tick_eq (hm : L[m]? = some (mvO v p w t)) (hv : L[v]? = some (dk V)) (rV : Rep abc V vf) (hp : L[p]? = some (dk P)) (rP : Rep abc P pf) (n1 : v ≠ m) (n2 : v ≠ p) (n3 : p ≠ m) {many : Int} {over : Str → Bool} {g : Str → Int}
    (hq : ∀ k, (pf k).isSome = true → ∃ q f s l W, pf k = some (.ref q) ∧ L[q]? = some (paO f (g k) s l W) ∧ q ≠ m ∧ q ≠ v ∧ q ≠ p ∧ over k = decide (s + l ≤ t + many)) :
    ∃ L' V' P', F_Mover_tick [.ref m, .int many] L = .ok (.tup ((abc.filter fun k => (pf k).isSome && over k).map .str)) L' ∧ L'[m]? = some (mvO v p w (t + many)) ∧ L'[v]? = some (dk V') ∧ Rep abc V' (fun k => if (pf k).isSome && over k then some (.int (g k)) else vf k) ∧ L'[p]? = some (dk P') ∧ Rep abc P' (fun k => if (pf k).isSome && over k then none else pf k) ∧ Keep [m, v, p] L L' := by
  obtain ⟨L1, eL1⟩ : ∃ L1, L1 = L.set m (mvO v p w (t + many)) := ⟨_, rfl⟩
  have hm1 : L1[m]? = some (mvO v p w (t + many)) := by rw [eL1]; exact at_self (at_lt hm)
  have hv1 : L1[v]? = some (dk V) := by rw [eL1]; exact at_ne (Ne.symm n1) hv
  have hp1 : L1[p]? = some (dk P) := by rw [eL1]; exact at_ne (Ne.symm n3) hp
  obtain ⟨ks, eks⟩ : ∃ ks, ks = abc.filter fun k => (pf k).isSome := ⟨_, rfl⟩
  have srt := sort_rep abc_uo rP hp1
  rw [← eks] at srt
  have hks : ∀ k, k ∈ ks → k ∈ abc ∧ (pf k).isSome = true := fun k hk => by rw [eks] at hk; exact List.mem_filter.mp hk
  have ff : ks.filter over = abc.filter fun k => (pf k).isSome && over k := by
    rw [eks, List.filter_filter]
    exact List.filter_congr fun k _ => Bool.and_comm _ _
  have lc : ∀ x3, lcGo (itV (ks.map .str)) (gN 2) (mTest (mMeth i_Path "is_over" F_Path_is_over [] (mOp gDGet (mFld i_Mover "paths" (mVar 0)) (mVar 2)) (mCons (mFld i_Mover "time" (mVar 0)) mNil))) (mVar 2) [some (.ref m), some (.int many), none, x3] FUEL 0 [] L1 = .ok (.fl ((ks.filter over).map .str)) L1 := fun x3 => by
    refine lc_pure (xs := ks) LV.str over LV.str (fun i => by simp [itV]) (by have := abc_f (fun k => (pf k).isSome); rw [eks]; omega) fun k hk => ?_
    obtain ⟨q, f, s, l, W, q1, q2, q3, q4, q5, q6⟩ := hq k (hks k hk).2
    have q2' : L1[q]? = some (paO f (g k) s l W) := by rw [eL1]; exact at_ne (Ne.symm q3) q2
    have hk2 := rP.at_ k
    rw [q1] at hk2
    refine ⟨_, rfl, ?_, fun _ => by simp only [callF, mSeq, mIfS, mAsg, mRet, mRetN, mDrop, mOr, mAnd, mNot, mTest, mOp, mUn, mVar, mC, mCons, mNil, mBlt, mTup, mFl, mLst, mIf, mNotV, mAndV, mOrV, toB, mSkip, mBreak, mCont, mRaise, mBM, mFld, mDGet1, mDGet2, mDPut, mDDel, mDIn, mSetFld, mSetIx, mAugFld, mMeth, mCall, mMake, mDNew, mDisp, mPCons, mPNil, kvOf, keyOf, mChain, mPar, mTru, truthL, Res.bind, lift, Fl.andThen, isNon, gN, gT, gCons, gNil, Option.bind_some, gIsN, e_gEqS, e_gEq, e_gI, e_gIc, e_gMul, e_gAdd, e_gCmp, gSub, gAddI, gFdiv, gMod,   List.map_cons, List.map_nil, List.cons_append, List.nil_append, List.append_nil, List.length_cons, List.length_nil, List.replicate, List.set_cons_succ, List.set_cons_zero, List.getElem?_cons_succ, List.getElem?_cons_zero, Nat.reduceSub, Nat.reduceAdd, if_true, if_false, Bool.false_eq_true, Bool.true_eq_false, Bool.not_true, Bool.not_false, reduceCtorEq, Nat.reduceLeDiff]⟩
    simp only [callF, mSeq, mIfS, mAsg, mRet, mRetN, mDrop, mOr, mAnd, mNot, mTest, mOp, mUn, mVar, mC, mCons, mNil, mBlt, mTup, mFl, mLst, mIf, mNotV, mAndV, mOrV, toB, mSkip, mBreak, mCont, mRaise, mBM, mFld, mDGet1, mDGet2, mDPut, mDDel, mDIn, mSetFld, mSetIx, mAugFld, mMeth, mCall, mMake, mDNew, mDisp, mPCons, mPNil, kvOf, keyOf, mChain, mPar, mTru, truthL, Res.bind, lift, Fl.andThen, isNon, gN, gT, gCons, gNil, Option.bind_some, gIsN, e_gEqS, e_gEq, e_gI, e_gIc, e_gMul, e_gAdd, e_gCmp, gSub, gAddI, gFdiv, gMod,   List.map_cons, List.map_nil, List.cons_append, List.nil_append, List.append_nil, List.length_cons, List.length_nil, List.replicate, List.set_cons_succ, List.set_cons_zero, List.getElem?_cons_succ, List.getElem?_cons_zero, Nat.reduceSub, Nat.reduceAdd, if_true, if_false, Bool.false_eq_true, Bool.true_eq_false, Bool.not_true, Bool.not_false, reduceCtorEq, Nat.reduceLeDiff, f_paths hm1, gDGet, dgk hp1, hk2, ins_pa (z := "is_over") q2', f_time hm1, over_eq q2', q6]
  have nd : (ks.filter over).Nodup := by
    rw [ff]
    exact (show abc.Nodup by decide +kernel).sublist List.filter_sublist
  obtain ⟨L', sl', V', P', a1, a2, a3, a4, a5, a6, a7⟩ := ends_go (m := m) (v := v) (p := p) (w := w) (t := t + many) (g := g) (ks.filter over) n1 n2 n3 (x1 := some (.int many)) (x3 := some (.fl ((ks.filter over).map .str))) FUEL [] (ks.filter over) L1 V P vf pf none rfl
    (by have := List.length_filter_le over ks; have h2 := abc_f (fun k => (pf k).isSome); rw [eks] at this ⊢; unfold FUEL; omega) nd (fun k hk => (hks k (List.mem_filter.mp hk).1).1) hm1 hv1 rV hp1 rP fun k hk => by
      obtain ⟨q, f, s, l, W, q1, q2, q3, q4, q5, q6⟩ := hq k (hks k (List.mem_filter.mp hk).1).2
      exact ⟨q, f, s, l, W, q1, by rw [eL1]; exact at_ne (Ne.symm q3) q2, q4, q5⟩
  rw [List.length_nil] at a1
  have hmem : ∀ k, k ∈ abc → (k ∈ ks.filter over ↔ ((pf k).isSome && over k) = true) := fun k hk => by
    rw [ff, List.mem_filter]
    exact ⟨fun h => h.2, fun h => ⟨hk, h⟩⟩
  have hmem2 : ∀ k, (k ∈ ks.filter over ↔ ((pf k).isSome && over k) = true) := fun k => by
    by_cases hk : k ∈ abc
    · exact hmem k hk
    · have : pf k = none := by
        rw [← rP.at_ k, look_none]
        intro z
        obtain ⟨k', h1, e⟩ := rP.ks _ z
        cases e
        exact hk h1
      rw [this]
      exact ⟨fun h => absurd (hks k (List.mem_filter.mp h).1).1 hk, fun h => (by simp at h)⟩
  refine ⟨L', V', P', ?_, ?_, a3, a4.congr fun k => ?_, a5, a6.congr fun k => ?_, ?_⟩
  · unfold F_Mover_tick B_Mover_tick
    have s1 : (mAugFld i_Mover "time" gAddI (mVar 0) (mVar 1)) [some (.ref m), some (.int many), none, none] L = .next [some (.ref m), some (.int many), none, none] L1 := by
      simp only [callF, mSeq, mIfS, mAsg, mRet, mRetN, mDrop, mOr, mAnd, mNot, mTest, mOp, mUn, mVar, mC, mCons, mNil, mBlt, mTup, mFl, mLst, mIf, mNotV, mAndV, mOrV, toB, mSkip, mBreak, mCont, mRaise, mBM, mFld, mDGet1, mDGet2, mDPut, mDDel, mDIn, mSetFld, mSetIx, mAugFld, mMeth, mCall, mMake, mDNew, mDisp, mPCons, mPNil, kvOf, keyOf, mChain, mPar, mTru, truthL, Res.bind, lift, Fl.andThen, isNon, gN, gT, gCons, gNil, Option.bind_some, gIsN, e_gEqS, e_gEq, e_gI, e_gIc, e_gMul, e_gAdd, e_gCmp, gSub, gAddI, gFdiv, gMod,   List.map_cons, List.map_nil, List.cons_append, List.nil_append, List.append_nil, List.length_cons, List.length_nil, List.replicate, List.set_cons_succ, List.set_cons_zero, List.getElem?_cons_succ, List.getElem?_cons_zero, Nat.reduceSub, Nat.reduceAdd, if_true, if_false, Bool.false_eq_true, Bool.true_eq_false, Bool.not_true, Bool.not_false, reduceCtorEq, Nat.reduceLeDiff, f_time hm, s_time hm, eL1]
    have s2 : mLc (mIt (mBlt fSortD (mCons (mFld i_Mover "paths" (mVar 0)) mNil))) (gN 2) (mTest (mMeth i_Path "is_over" F_Path_is_over [] (mOp gDGet (mFld i_Mover "paths" (mVar 0)) (mVar 2)) (mCons (mFld i_Mover "time" (mVar 0)) mNil))) (mVar 2) [2] [some (.ref m), some (.int many), none, none] L1 = .ok (.fl ((ks.filter over).map .str)) L1 := by
      have e : mIt (mBlt fSortD (mCons (mFld i_Mover "paths" (mVar 0)) mNil)) [some (.ref m), some (.int many), none, none] L1 = .ok (itV (ks.map .str)) L1 := by
        simp only [callF, mSeq, mIfS, mAsg, mRet, mRetN, mDrop, mOr, mAnd, mNot, mTest, mOp, mUn, mVar, mC, mCons, mNil, mBlt, mTup, mFl, mLst, mIf, mNotV, mAndV, mOrV, toB, mSkip, mBreak, mCont, mRaise, mBM, mFld, mDGet1, mDGet2, mDPut, mDDel, mDIn, mSetFld, mSetIx, mAugFld, mMeth, mCall, mMake, mDNew, mDisp, mPCons, mPNil, kvOf, keyOf, mChain, mPar, mTru, truthL, Res.bind, lift, Fl.andThen, isNon, gN, gT, gCons, gNil, Option.bind_some, gIsN, e_gEqS, e_gEq, e_gI, e_gIc, e_gMul, e_gAdd, e_gCmp, gSub, gAddI, gFdiv, gMod,   List.map_cons, List.map_nil, List.cons_append, List.nil_append, List.append_nil, List.length_cons, List.length_nil, List.replicate, List.set_cons_succ, List.set_cons_zero, List.getElem?_cons_succ, List.getElem?_cons_zero, Nat.reduceSub, Nat.reduceAdd, if_true, if_false, Bool.false_eq_true, Bool.true_eq_false, Bool.not_true, Bool.not_false, reduceCtorEq, Nat.reduceLeDiff, mIt, f_paths hm1, srt, itOf]
      have e0 : wipeL [some (.ref m), some (.int many), none, none] [2] = [some (.ref m), some (.int many), none, none] := rfl
      unfold mLc
      rw [e, e0]
      simp only [Res.bind]
      rw [lc none]
    have s3 : mFor (mIt (mVar 3)) (gN 2) ENDB [some (.ref m), some (.int many), none, some (.fl ((ks.filter over).map .str))] L1 = .next sl' L' := by
      have e : mIt (mVar 3) [some (.ref m), some (.int many), none, some (.fl ((ks.filter over).map .str))] L1 = .ok (itV ((ks.filter over).map .str)) L1 := by simp only [callF, mSeq, mIfS, mAsg, mRet, mRetN, mDrop, mOr, mAnd, mNot, mTest, mOp, mUn, mVar, mC, mCons, mNil, mBlt, mTup, mFl, mLst, mIf, mNotV, mAndV, mOrV, toB, mSkip, mBreak, mCont, mRaise, mBM, mFld, mDGet1, mDGet2, mDPut, mDDel, mDIn, mSetFld, mSetIx, mAugFld, mMeth, mCall, mMake, mDNew, mDisp, mPCons, mPNil, kvOf, keyOf, mChain, mPar, mTru, truthL, Res.bind, lift, Fl.andThen, isNon, gN, gT, gCons, gNil, Option.bind_some, gIsN, e_gEqS, e_gEq, e_gI, e_gIc, e_gMul, e_gAdd, e_gCmp, gSub, gAddI, gFdiv, gMod,   List.map_cons, List.map_nil, List.cons_append, List.nil_append, List.append_nil, List.length_cons, List.length_nil, List.replicate, List.set_cons_succ, List.set_cons_zero, List.getElem?_cons_succ, List.getElem?_cons_zero, Nat.reduceSub, Nat.reduceAdd, if_true, if_false, Bool.false_eq_true, Bool.true_eq_false, Bool.not_true, Bool.not_false, reduceCtorEq, Nat.reduceLeDiff, mIt, itOf]
      unfold mFor
      rw [e]
      simp only [lift]
      exact a1
    refine call_ret ((seq_nx s1).trans ((seq_asg s2 rfl).trans ((seq_nx s3).trans ?_)))
    simp only [callF, mSeq, mIfS, mAsg, mRet, mRetN, mDrop, mOr, mAnd, mNot, mTest, mOp, mUn, mVar, mC, mCons, mNil, mBlt, mTup, mFl, mLst, mIf, mNotV, mAndV, mOrV, toB, mSkip, mBreak, mCont, mRaise, mBM, mFld, mDGet1, mDGet2, mDPut, mDDel, mDIn, mSetFld, mSetIx, mAugFld, mMeth, mCall, mMake, mDNew, mDisp, mPCons, mPNil, kvOf, keyOf, mChain, mPar, mTru, truthL, Res.bind, lift, Fl.andThen, isNon, gN, gT, gCons, gNil, Option.bind_some, gIsN, e_gEqS, e_gEq, e_gI, e_gIc, e_gMul, e_gAdd, e_gCmp, gSub, gAddI, gFdiv, gMod,   List.map_cons, List.map_nil, List.cons_append, List.nil_append, List.append_nil, List.length_cons, List.length_nil, List.replicate, List.set_cons_succ, List.set_cons_zero, List.getElem?_cons_succ, List.getElem?_cons_zero, Nat.reduceSub, Nat.reduceAdd, if_true, if_false, Bool.false_eq_true, Bool.true_eq_false, Bool.not_true, Bool.not_false, reduceCtorEq, Nat.reduceLeDiff, a2, fTuple, tview, lviewR, lview, ff]
  · have := a7 m _ (by simp [Ne.symm n1, Ne.symm n3]) hm1
    exact this
  · by_cases e : k ∈ ks.filter over
    · rw [if_pos e, if_pos ((hmem2 k).mp e)]
    · rw [if_neg e, if_neg fun z => e ((hmem2 k).mpr z)]
  · by_cases e : k ∈ ks.filter over
    · rw [if_pos e, if_pos ((hmem2 k).mp e)]
    · rw [if_neg e, if_neg fun z => e ((hmem2 k).mpr z)]
  · intro n o hn ho
    simp only [List.mem_cons, List.not_mem_nil, or_false, not_or] at hn
    exact a7 n o (by simp [hn.2.1, hn.2.2]) (by rw [eL1]; exact at_ne (fun z => hn.1 z.symm) ho)
theorem moving_eq (hm : L[m]? = some (mvO v p w t)) (hp : L[p]? = some (dk P)) (rP : Rep abc P pf) : F_Mover_moving [.ref m] L = .ok (.tup ((abc.filter fun k => (pf k).isSome).map .str)) L := by
  unfold F_Mover_moving B_Mover_moving
  have srt := sort_rep abc_uo rP hp
  simp only [callF, mSeq, mIfS, mAsg, mRet, mRetN, mDrop, mOr, mAnd, mNot, mTest, mOp, mUn, mVar, mC, mCons, mNil, mBlt, mTup, mFl, mLst, mIf, mNotV, mAndV, mOrV, toB, mSkip, mBreak, mCont, mRaise, mBM, mFld, mDGet1, mDGet2, mDPut, mDDel, mDIn, mSetFld, mSetIx, mAugFld, mMeth, mCall, mMake, mDNew, mDisp, mPCons, mPNil, kvOf, keyOf, mChain, mPar, mTru, truthL, Res.bind, lift, Fl.andThen, isNon, gN, gT, gCons, gNil, Option.bind_some, gIsN, e_gEqS, e_gEq, e_gI, e_gIc, e_gMul, e_gAdd, e_gCmp, gSub, gAddI, gFdiv, gMod,   List.map_cons, List.map_nil, List.cons_append, List.nil_append, List.append_nil, List.length_cons, List.length_nil, List.replicate, List.set_cons_succ, List.set_cons_zero, List.getElem?_cons_succ, List.getElem?_cons_zero, Nat.reduceSub, Nat.reduceAdd, if_true, if_false, Bool.false_eq_true, Bool.true_eq_false, Bool.not_true, Bool.not_false, reduceCtorEq, Nat.reduceLeDiff, f_paths hm, srt, fTuple, tview, lviewR, lview]
end
end Q.K18
end
section
set_option Elab.async false
set_option linter.all false
set_option maxRecDepth 100000
set_option maxHeartbeats 1000000
namespace Q.K18
open PySem L2 Q
structure Row where
  f : Int
  a : Int
  s : Int
  l : Int
  w : Str
def Row.tup (r : Row) : LV := .tup [.int r.f, .int r.a, .int r.s, .int r.l, .str r.w]
abbrev Row.pa (r : Row) : LO := paO r.f r.a r.s r.l r.w
abbrev Row.val (r : Row) (t : Int) : Int := K18.val r.f r.a r.s r.l r.w t
abbrev wtup (x : Int × Str) : LV := .tup [.int x.1, .str x.2]
/-- what a value is now -/
def nowOf (t : Int) (ρ : Option Row) (x : Option Int) : Option Int := match ρ with
  | some ρ => some (ρ.val t)
  | none => x
structure RowOk (t : Int) (ρ : Row) (x : Option Int) : Prop where
  w : ρ.w ∈ WS4
  l0 : 0 < ρ.l
  l1 : ρ.l ≤ 1000
  s : ρ.s ≤ t
  e : t < ρ.s + ρ.l
  x : x = some ρ.a
structure St (L : LH) (t : Int) (r : Nat) (rs : Str → Option Row) (ws : Str → Option (Int × Str)) (sv : Str → Option Int) : Prop where
  d : ∃ x y z, L[0]? = some (dice x y z)
  hm : L[1]? = some (mvO 2 3 4 t)
  V : ∃ V vf, L[2]? = some (dk V) ∧ Rep abc V vf ∧ (∀ k, (vf k).isSome = (sv k).isSome) ∧ ∀ k, rs k = none → vf k = (sv k).map .int
  P : ∃ P pf, L[3]? = some (dk P) ∧ Rep abc P pf ∧ (∀ k, rs k = none → pf k = none) ∧ ∀ k ρ, rs k = some ρ → ∃ q, pf k = some (.ref q) ∧ L[q]? = some ρ.pa ∧ 8 ≤ q
  W : ∃ W, L[4]? = some (dk W) ∧ Rep abc W (fun k => (ws k).map wtup)
  W' : ∃ W, L[5]? = some (dk W) ∧ Rep abc W (fun k => (ws k).map wtup)
  R : ∃ R, L[r]? = some (dk R) ∧ Rep abc R (fun k => (rs k).map Row.tup)
  hr : r = 6 ∨ 8 ≤ r
  S : ∃ S, L[7]? = some (dk S) ∧ Rep abc S (fun k => (sv k).map .int)
  ok : ∀ k ρ, rs k = some ρ → RowOk t ρ (sv k)
  wok : ∀ k x, ws k = some x → 0 ≤ x.1 ∧ x.1 ≤ 1000 ∧ x.2 ∈ WS4
section
variable {L L' : LH} {t : Int} {r : Nat} {rs : Str → Option Row} {ws : Str → Option (Int × Str)} {sv : Str → Option Int} {k : Str}
theorem St.keep (h : St L t r rs ws sv) (K : Keep [0] L L') (d : ∃ x y z, L'[0]? = some (dice x y z)) : St L' t r rs ws sv where
  d := d
  hm := K _ _ (by decide) h.hm
  V := let ⟨V, vf, a, b⟩ := h.V; ⟨V, vf, K _ _ (by decide) a, b⟩
  P := let ⟨P, pf, a, b, c, e⟩ := h.P; ⟨P, pf, K _ _ (by decide) a, b, c, fun k ρ hk => let ⟨q, q1, q2, q3⟩ := e k ρ hk; ⟨q, q1, K _ _ (by simp; omega) q2, q3⟩⟩
  W := let ⟨W, a, b⟩ := h.W; ⟨W, K _ _ (by decide) a, b⟩
  W' := let ⟨W, a, b⟩ := h.W'; ⟨W, K _ _ (by decide) a, b⟩
  R := let ⟨R, a, b⟩ := h.R; ⟨R, K _ _ (by have := h.hr; simp; omega) a, b⟩
  hr := h.hr
  S := let ⟨S, a, b⟩ := h.S; ⟨S, K _ _ (by decide) a, b⟩
  ok := h.ok
  wok := h.wok
theorem St.app (h : St L t r rs ws sv) (T : LH) : St (L ++ T) t r rs ws sv := h.keep (fun n o _ e => at_app e) (let ⟨x, y, z, e⟩ := h.d; ⟨x, y, z, at_app e⟩)
theorem roll_ex (h : St L t r rs ws sv) (n : Int) (h0 : 0 < n := by decide) (h1 : n < 1073741824 := by decide) : ∃ i L1, 0 ≤ i ∧ i < n ∧ F_law_roll [.ref 0, .int n] L = .ok (.int i) L1 ∧ St L1 t r rs ws sv := by
  obtain ⟨x, y, z, e⟩ := h.d
  obtain ⟨i, x', y', z', a, b, c⟩ := roll_p (Z := fun _ _ => True) (d := 0) (p := .ref 0) (k := 0) rfl e h0 h1
  exact ⟨i, _, a, b, c, h.keep (fun n o hn ho => at_ne (fun z => hn (by simp [z])) ho) ⟨x', y', z', at_self (at_lt e)⟩⟩
/-- what a value is now, by the mover -/
theorem now_eq (h : St L t r rs ws sv) (K : Keep [7] L L') {x : Int} (e : nowOf t (rs k) (sv k) = some x) : F_Mover_value_now [.ref 1, .str k] L' = .ok (.int x) L' := by
  obtain ⟨V, vf, v1, v2, v3, v4⟩ := h.V
  obtain ⟨P, pf, p1, p2, p3, p4⟩ := h.P
  have hm := K _ _ (by decide) h.hm
  have hp := K _ _ (by decide) p1
  have hv := K _ _ (by decide) v1
  cases er : rs k with
  | none =>
    rw [er] at e
    have e : sv k = some x := e
    have := p2.at_ k
    rw [p3 k er] at this
    have e2 := v2.at_ k
    rw [v4 k er, e] at e2
    exact now_val hm hp this hv e2
  | some ρ =>
    rw [er] at e
    have e : some (ρ.val t) = some x := e
    cases e
    obtain ⟨q, q1, q2, q3⟩ := p4 k ρ er
    have := p2.at_ k
    rw [q1] at this
    have o := h.ok k ρ er
    exact now_path hm hp this (K _ _ (by simp; omega) q2) ⟨by have := o.l0; omega, o.l1⟩
theorem now_in (o : RowOk t ρ x) : min ρ.f ρ.a ≤ ρ.val t ∧ ρ.val t ≤ max ρ.f ρ.a := by
  unfold Row.val val
  have := o.e
  rw [if_neg (by omega)]
  by_cases e : t ≤ ρ.s
  · rw [if_pos e]; omega
  · rw [if_neg e]
    have b := shn_in (W := ρ.w) (g := t - ρ.s) (l := ρ.l) (by omega) (by omega)
    exact K18i.share_in (shd_pos o.l0) b.1 b.2
end
end Q.K18
end
section
set_option Elab.async false
set_option linter.all false
set_option maxRecDepth 100000
set_option maxHeartbeats 1000000
namespace Q.K18
open PySem L2 Q
def BRA : MS := (mSeq (mDPut (mVar 3) (mVar 9) (mTup (mCons (mCall F_law_roll [] (mCons (mVar 1) (mCons (mC (.int 20)) mNil))) (mCons (mOp gIx (mFl (mCons (mC (.str "even")) (mCons (mC (.str "slow")) (mCons (mC (.str "fast")) (mCons (mC (.str "both")) mNil))))) (mCall F_law_roll [] (mCons (mVar 1) (mCons (mC (.int 4)) mNil)))) mNil))))
  (mDrop (mMeth i_Mover "set_way" F_Mover_set_way [] (mVar 2) (mCons (mVar 9) (mCons (mOp gIx (mOp gDGet (mVar 3) (mVar 9)) (mC (.int 0))) (mCons (mOp gIx (mOp gDGet (mVar 3) (mVar 9)) (mC (.int 1))) mNil))))))
/-- the slots of the law that stand -/
structure G (sl : Sl) (t : Int) (r : Nat) : Prop where
  n : sl.length = 27
  s1 : sl[1]? = some (some (.ref 0))
  s2 : sl[2]? = some (some (.ref 1))
  s3 : sl[3]? = some (some (.ref 5))
  s4 : sl[4]? = some (some (.ref r))
  s5 : sl[5]? = some (some (.ref 7))
  s6 : sl[6]? = some (some (.int t))
theorem G.set {sl : Sl} {t : Int} {r i : Nat} (g : G sl t r) (h : 6 < i) (v : Option LV) : G (sl.set i v) t r :=
  ⟨by rw [List.length_set]; exact g.n, by rw [List.getElem?_set_ne (by omega)]; exact g.s1, by rw [List.getElem?_set_ne (by omega)]; exact g.s2, by rw [List.getElem?_set_ne (by omega)]; exact g.s3, by rw [List.getElem?_set_ne (by omega)]; exact g.s4, by rw [List.getElem?_set_ne (by omega)]; exact g.s5, by rw [List.getElem?_set_ne (by omega)]; exact g.s6⟩
theorem G.r {sl : Sl} {t : Int} {r : Nat} (g : G sl t r) (r' : Nat) : G (sl.set 4 (some (.ref r'))) t r' :=
  ⟨by rw [List.length_set]; exact g.n, by rw [List.getElem?_set_ne (by omega)]; exact g.s1, by rw [List.getElem?_set_ne (by omega)]; exact g.s2, by rw [List.getElem?_set_ne (by omega)]; exact g.s3, List.getElem?_set_self (by rw [g.n]; decide), by rw [List.getElem?_set_ne (by omega)]; exact g.s5, by rw [List.getElem?_set_ne (by omega)]; exact g.s6⟩
theorem G.t {sl : Sl} {t : Int} {r : Nat} (g : G sl t r) (t' : Int) : G (sl.set 6 (some (.int t'))) t' r :=
  ⟨by rw [List.length_set]; exact g.n, by rw [List.getElem?_set_ne (by omega)]; exact g.s1, by rw [List.getElem?_set_ne (by omega)]; exact g.s2, by rw [List.getElem?_set_ne (by omega)]; exact g.s3, by rw [List.getElem?_set_ne (by omega)]; exact g.s4, by rw [List.getElem?_set_ne (by omega)]; exact g.s5, List.getElem?_set_self (by rw [g.n]; decide)⟩
theorem G.self {sl : Sl} {t : Int} {r i : Nat} (g : G sl t r) (h : i < 27) (v : Option LV) : (sl.set i v)[i]? = some v := List.getElem?_set_self (by rw [g.n]; exact h)
section
variable {L L' : LH} {t : Int} {r : Nat} {rs : Str → Option Row} {ws : Str → Option (Int × Str)} {sv : Str → Option Int} {k : Str} {sl : Sl}
theorem way_ix {i : Int} (h0 : 0 ≤ i) (h1 : i < 4) : ∃ w, w ∈ WS4 ∧ ∀ L, gIx (.fl [.str "even", .str "slow", .str "fast", .str "both"]) (.int i) L = .ok (.str w) L := by
  have : i = 0 ∨ i = 1 ∨ i = 2 ∨ i = 3 := by omega
  rcases this with rfl | rfl | rfl | rfl
  · exact ⟨"even", by simp [WS4], fun _ => rfl⟩
  · exact ⟨"slow", by simp [WS4], fun _ => rfl⟩
  · exact ⟨"fast", by simp [WS4], fun _ => rfl⟩
  · exact ⟨"both", by simp [WS4], fun _ => rfl⟩
theorem ix2_0 {a b : LV} {L : LH} : gIx (.tup [a, b]) (.int 0) L = .ok a L := rfl
theorem ix2_1 {a b : LV} {L : LH} : gIx (.tup [a, b]) (.int 1) L = .ok b L := rfl
theorem brA (h : St L t r rs ws sv) (g : G sl t r) (h9 : sl[9]? = some (some (.str k))) (hk : k ∈ abc) : ∃ L' ws', BRA sl L = .next sl L' ∧ St L' t r rs ws' sv := by
  obtain ⟨l, L1, l0, l1, e1, h1⟩ := roll_ex h 20
  obtain ⟨i, L2, i0, i1, e2, h2⟩ := roll_ex h1 4
  obtain ⟨w, hw, ew⟩ := way_ix i0 i1
  obtain ⟨W, w1, w2⟩ := h2.W
  obtain ⟨W', w3, w4⟩ := h2.W'
  have b1 := w2.len
  have b2 := w4.len
  simp only [abc, List.length_cons, List.length_nil] at b1 b2
  obtain ⟨L3, eL3⟩ : ∃ L3, L3 = L2.set 5 (dk (putKL W' (.inr k) (wtup (l, w)))) := ⟨_, rfl⟩
  have k3 : Keep [5] L2 L3 := fun n o hn ho => by rw [eL3]; exact at_ne (fun z => hn (by simp [z])) ho
  have w5 : L3[5]? = some (dk (putKL W' (.inr k) (wtup (l, w)))) := by rw [eL3]; exact at_self (at_lt w3)
  have g1 : gDGet (.ref 5) (.str k) L3 = .ok (wtup (l, w)) L3 := gdget rfl w5 (by rw [look_put, if_pos rfl])
  have sw := set_way_ok (k := k) (k3 _ _ (by decide) h2.hm) (k3 _ _ (by decide) w1) (by omega) l0 hw
  have k4 : Keep [4, 5] L2 (L3.set 4 (dk (putKL W (.inr k) (.tup [.int l, .str w])))) := fun n o hn ho => by
    simp only [List.mem_cons, List.not_mem_nil, or_false, not_or] at hn
    exact at_ne (fun z => hn.1 z.symm) (k3 n o (by simp [hn.2]) ho)
  refine ⟨L3.set 4 (dk (putKL W (.inr k) (.tup [.int l, .str w]))), fun x => if x = k then some (l, w) else ws x, ?_, ?_⟩
  · have ed := dput (L := L2) (k := .inr k) (x := .str k) (v := wtup (l, w)) rfl w3 (by omega)
    unfold BRA
    simp only [callF, mSeq, mIfS, mAsg, mRet, mRetN, mDrop, mOr, mAnd, mNot, mTest, mOp, mUn, mVar, mC, mCons, mNil, mBlt, mTup, mFl, mLst, mIf, mNotV, mAndV, mOrV, toB, mSkip, mBreak, mCont, mRaise, mBM, mFld, mDGet1, mDGet2, mDPut, mDDel, mDIn, mSetFld, mSetIx, mAugFld, mMeth, mCall, mMake, mDNew, mDisp, mPCons, mPNil, kvOf, keyOf, mChain, mPar, mTru, truthL, Res.bind, lift, Fl.andThen, isNon, gN, gT, gCons, gNil, Option.bind_some, gIsN, e_gEqS, e_gEq, e_gI, e_gIc, e_gMul, e_gAdd, e_gCmp, gSub, gAddI, gFdiv, gMod,   List.map_cons, List.map_nil, List.cons_append, List.nil_append, List.append_nil, List.length_cons, List.length_nil, List.replicate, List.set_cons_succ, List.set_cons_zero, List.getElem?_cons_succ, List.getElem?_cons_zero, Nat.reduceSub, Nat.reduceAdd, if_true, if_false, Bool.false_eq_true, Bool.true_eq_false, Bool.not_true, Bool.not_false, reduceCtorEq, Nat.reduceLeDiff, g.s1, e1, e2, ew, g.s3, h9, ed, ← eL3, g.s2, ins_mv (z := "set_way") (k3 _ _ (by decide) h2.hm), g1, ix2_0, ix2_1, sw]
  · have cv : ∀ x, (if x = k then some (wtup (l, w)) else (ws x).map wtup) = (if x = k then some (l, w) else ws x).map wtup := fun x => by split <;> rfl
    exact { d := let ⟨x, y, z, e⟩ := h2.d; ⟨x, y, z, k4 _ _ (by decide) e⟩
            hm := k4 _ _ (by decide) h2.hm
            V := let ⟨V, vf, a, b⟩ := h2.V; ⟨V, vf, k4 _ _ (by decide) a, b⟩
            P := let ⟨P, pf, a, b, c, e⟩ := h2.P; ⟨P, pf, k4 _ _ (by decide) a, b, c, fun k ρ hk => let ⟨q, q1, q2, q3⟩ := e k ρ hk; ⟨q, q1, k4 _ _ (by simp; omega) q2, q3⟩⟩
            W := ⟨_, at_self (at_lt (k3 _ _ (by decide) w1)), (w2.put hk _).congr cv⟩
            W' := ⟨_, at_ne (by decide) w5, (w4.put hk _).congr cv⟩
            R := let ⟨R, a, b⟩ := h2.R; ⟨R, k4 _ _ (by have := h2.hr; simp; omega) a, b⟩
            hr := h2.hr
            S := let ⟨S, a, b⟩ := h2.S; ⟨S, k4 _ _ (by decide) a, b⟩
            ok := h2.ok
            wok := fun x y e => by
              by_cases z : x = k
              · rw [if_pos z] at e; cases e; exact ⟨l0, by show l ≤ 1000; omega, hw⟩
              · rw [if_neg z] at e; exact h2.wok x y e }
end
end Q.K18
end
section
set_option Elab.async false
set_option linter.all false
set_option maxRecDepth 100000
set_option maxHeartbeats 1000000
namespace Q.K18
open PySem L2 Q
def BRC : MS := (mSeq (mAsg (mOp gAdd (mC (.int 1)) (mCall F_law_roll [] (mCons (mVar 1) (mCons (mC (.int 6)) mNil)))) (gN 15))
  (mSeq (mAsg (mOp gAdd (mVar 6) (mVar 15)) (gN 6))
  (mSeq (mAsg (mLc (mIt (mBlt fSortD (mCons (mVar 4) mNil))) (gN 14) (mTest (mOp gGe (mVar 6) (mOp gAdd (mOp gIx (mOp gDGet (mVar 4) (mVar 14)) (mC (.int 2))) (mOp gIx (mOp gDGet (mVar 4) (mVar 14)) (mC (.int 3)))))) (mVar 14) [14]) (gN 16))
  (mSeq (mIfS (mTest (mOp (gEq true) (mMeth i_Mover "tick" F_Mover_tick [] (mVar 2) (mCons (mVar 15) mNil)) (mBlt fTuple (mCons (mVar 16) mNil))))
  (mRet (mC (.bl false)))
  mSkip)
  (mAsg (mBlt fDictP (mCons (mLock (mVar 4) (mLc (mItD (mVar 4)) (gN 14) (mTest (mOp (gIn true) (mVar 14) (mVar 16))) (mTup (mCons (mVar 14) (mCons (mOp gDGet (mVar 4) (mVar 14)) mNil))) [14])) mNil)) (gN 4))))))
theorem any_str : ∀ (ps : List Str) (p : Str), (ps.map LV.str).any (fun y => eqL y (.str p)) = decide (p ∈ ps)
  | [], _ => rfl
  | q :: r, p => by
    rw [List.map_cons, List.any_cons, any_str r]
    by_cases e : q = p
    · subst e; simp [eqL]
    · have : ¬ p = q := fun z => e z.symm
      simp [eqL, e, this]
theorem flat_str : ∀ ps : List Str, (ps.map LV.str).all flatL = true
  | [] => rfl
  | q :: r => by rw [List.map_cons, List.all_cons, flat_str r]; rfl
theorem in_fl {L : LH} {p : Str} {ps : List Str} {neg : Bool} : gIn neg (.str p) (.fl (ps.map .str)) L = .ok (.bl (if neg then !decide (p ∈ ps) else decide (p ∈ ps))) L := by
  unfold gIn
  simp only [tview, lviewR, lview]
  rw [if_pos ⟨rfl, flat_str ps⟩, any_str]
theorem names_nice : ∀ ps : List Str, (∀ x, x ∈ ps → PyData.strOk x = true) → NI (ps.map LV.str)
  | [], _ => NI.nil
  | x :: r, h => by
    obtain ⟨ds, hd⟩ := names_nice r fun y hy => h y (List.mem_cons_of_mem _ hy)
    exact ⟨_, NiceAll.cons ((nice_str (h x List.mem_cons_self)).up (by decide)) hd⟩
theorem abc_ok {k : Str} (h : k ∈ abc) : PyData.strOk k = true := by
  simp only [abc, List.mem_cons, List.not_mem_nil, or_false] at h
  rcases h with rfl | rfl | rfl <;> decide +kernel
section
variable {L L' : LH} {t : Int} {r : Nat} {rs : Str → Option Row} {ws : Str → Option (Int × Str)} {sv : Str → Option Int} {k : Str} {sl : Sl}
theorem tup2 {ρ : Row} : gIx ρ.tup (.int 2) L = .ok (.int ρ.s) L := rfl
theorem tup3 {ρ : Row} : gIx ρ.tup (.int 3) L = .ok (.int ρ.l) L := rfl
theorem tup0 {ρ : Row} : gIx ρ.tup (.int 0) L = .ok (.int ρ.f) L := rfl
theorem tup1 {ρ : Row} : gIx ρ.tup (.int 1) L = .ok (.int ρ.a) L := rfl
def onS (F : Str → Bool) (p : Key × LV) : Bool := match p.1 with
  | .inr k => F k
  | _ => false
def overOf (rs : Str → Option Row) (t : Int) (k : Str) : Bool := match rs k with
  | some ρ => decide (ρ.s + ρ.l ≤ t)
  | none => false
theorem G.wipe14 (g : G sl t r) : G (wipeL sl [14]) t r := g.set (by decide) none
/-- [(one, rows[one]) for one in rows if ..] -/
theorem rows_walk {R : List (Key × LV)} {tt : Sl → M Bool} {F : Str → Bool} {f : Str → Option LV} (hR : L[r]? = some (dk R)) (rR : Rep abc R f) (g : G sl t r) (ht : ∀ k, k ∈ abc → tt ((wipeL sl [14]).set 14 (some (.str k))) (L.set r (lk R)) = .ok (F k) (L.set r (lk R))) :
    mLock (mVar 4) (mLc (mItD (mVar 4)) (gN 14) tt (mTup (mCons (mVar 14) (mCons (mOp gDGet (mVar 4) (mVar 14)) mNil))) [14]) sl L = .ok (.fl ((R.filter (onS F)).map pr)) L := by
  have lR := rR.len
  refine lock_pure (n := r) (W := R) (L' := L) (by simp only [callF, mSeq, mIfS, mAsg, mRet, mRetN, mDrop, mOr, mAnd, mNot, mTest, mOp, mUn, mVar, mC, mCons, mNil, mBlt, mTup, mFl, mLst, mIf, mNotV, mAndV, mOrV, toB, mSkip, mBreak, mCont, mRaise, mBM, mFld, mDGet1, mDGet2, mDPut, mDDel, mDIn, mSetFld, mSetIx, mAugFld, mMeth, mCall, mMake, mDNew, mDisp, mPCons, mPNil, kvOf, keyOf, mChain, mPar, mTru, truthL, Res.bind, lift, Fl.andThen, isNon, gN, gT, gCons, gNil, Option.bind_some, gIsN, e_gEqS, e_gEq, e_gI, e_gIc, e_gMul, e_gAdd, e_gCmp, gSub, gAddI, gFdiv, gMod,   List.map_cons, List.map_nil, List.cons_append, List.nil_append, List.append_nil, List.length_cons, List.length_nil, List.replicate, List.set_cons_succ, List.set_cons_zero, List.getElem?_cons_succ, List.getElem?_cons_zero, Nat.reduceSub, Nat.reduceAdd, if_true, if_false, Bool.false_eq_true, Bool.true_eq_false, Bool.not_true, Bool.not_false, reduceCtorEq, Nat.reduceLeDiff, g.s4]) hR ?_
  have hl : (L.set r (lk R))[r]? = some (lk R) := at_self (at_lt hR)
  have e1 : mItD (mVar 4) sl (L.set r (lk R)) = .ok (itD r) (L.set r (lk R)) := by
    simp only [mItD]
    simp only [callF, mSeq, mIfS, mAsg, mRet, mRetN, mDrop, mOr, mAnd, mNot, mTest, mOp, mUn, mVar, mC, mCons, mNil, mBlt, mTup, mFl, mLst, mIf, mNotV, mAndV, mOrV, toB, mSkip, mBreak, mCont, mRaise, mBM, mFld, mDGet1, mDGet2, mDPut, mDDel, mDIn, mSetFld, mSetIx, mAugFld, mMeth, mCall, mMake, mDNew, mDisp, mPCons, mPNil, kvOf, keyOf, mChain, mPar, mTru, truthL, Res.bind, lift, Fl.andThen, isNon, gN, gT, gCons, gNil, Option.bind_some, gIsN, e_gEqS, e_gEq, e_gI, e_gIc, e_gMul, e_gAdd, e_gCmp, gSub, gAddI, gFdiv, gMod,   List.map_cons, List.map_nil, List.cons_append, List.nil_append, List.append_nil, List.length_cons, List.length_nil, List.replicate, List.set_cons_succ, List.set_cons_zero, List.getElem?_cons_succ, List.getElem?_cons_zero, Nat.reduceSub, Nat.reduceAdd, if_true, if_false, Bool.false_eq_true, Bool.true_eq_false, Bool.not_true, Bool.not_false, reduceCtorEq, Nat.reduceLeDiff, g.s4, hl]
  unfold mLc
  rw [e1]
  simp only [Res.bind]
  rw [lc_pure (xs := R) (fun p => kL p.1) (onS F) pr (fun i => by simp only [itD, hl]) (by simp at lR; omega) fun p hp => ?_]
  obtain ⟨k, hk, e, ef⟩ := rR.of_mem hp
  obtain ⟨pk, pv⟩ := p
  cases e
  have g2 := (g.wipe14).set (i := 14) (by decide) (some (.str k))
  have s14 := (g.wipe14).self (i := 14) (by decide) (some (.str k))
  have hg : gDGet (.ref r) (.str k) (L.set r (lk R)) = .ok pv (L.set r (lk R)) := by
    simp only [gDGet, dgl hl, rR.at_, ef]
  exact ⟨(wipeL sl [14]).set 14 (some (.str k)), rfl, ht k hk, fun _ => by simp only [callF, mSeq, mIfS, mAsg, mRet, mRetN, mDrop, mOr, mAnd, mNot, mTest, mOp, mUn, mVar, mC, mCons, mNil, mBlt, mTup, mFl, mLst, mIf, mNotV, mAndV, mOrV, toB, mSkip, mBreak, mCont, mRaise, mBM, mFld, mDGet1, mDGet2, mDPut, mDDel, mDIn, mSetFld, mSetIx, mAugFld, mMeth, mCall, mMake, mDNew, mDisp, mPCons, mPNil, kvOf, keyOf, mChain, mPar, mTru, truthL, Res.bind, lift, Fl.andThen, isNon, gN, gT, gCons, gNil, Option.bind_some, gIsN, e_gEqS, e_gEq, e_gI, e_gIc, e_gMul, e_gAdd, e_gCmp, gSub, gAddI, gFdiv, gMod,   List.map_cons, List.map_nil, List.cons_append, List.nil_append, List.append_nil, List.length_cons, List.length_nil, List.replicate, List.set_cons_succ, List.set_cons_zero, List.getElem?_cons_succ, List.getElem?_cons_zero, Nat.reduceSub, Nat.reduceAdd, if_true, if_false, Bool.false_eq_true, Bool.true_eq_false, Bool.not_true, Bool.not_false, reduceCtorEq, Nat.reduceLeDiff, s14, g2.s4, hg]; rfl⟩
theorem brC (h : St L t r rs ws sv) (g : G sl t r) : ∃ L' sl' t' r' rs', BRC sl L = .next sl' L' ∧ G sl' t' r' ∧ St L' t' r' rs' ws sv := by
  obtain ⟨i, L1, i0, i1, e1, h1⟩ := roll_ex h 6
  obtain ⟨t', et⟩ : ∃ t', t' = t + (1 + i) := ⟨_, rfl⟩
  obtain ⟨s1, es1⟩ : ∃ s1, s1 = (sl.set 15 (some (.int (1 + i)))).set 6 (some (.int t')) := ⟨_, rfl⟩
  have g1 : G s1 t' r := by rw [es1]; exact (g.set (by decide) _).t t'
  have s15 : s1[15]? = some (some (.int (1 + i))) := by rw [es1, List.getElem?_set_ne (by decide)]; exact g.self (by decide) _
  obtain ⟨R, r1, r2⟩ := h1.R
  obtain ⟨V, vf, v1, v2, v3, v4⟩ := h1.V
  obtain ⟨P, pf, p1, p2, p3, p4⟩ := h1.P
  obtain ⟨en, een⟩ : ∃ en, en = (abc.filter fun k => ((rs k).map Row.tup).isSome).filter (overOf rs t') := ⟨_, rfl⟩
  have srt := sort_rep abc_uo r2 r1
  have a1 : mOp gAdd (mC (.int 1)) (mCall F_law_roll [] (mCons (mVar 1) (mCons (mC (.int 6)) mNil))) sl L = .ok (.int (1 + i)) L1 := by simp only [callF, mSeq, mIfS, mAsg, mRet, mRetN, mDrop, mOr, mAnd, mNot, mTest, mOp, mUn, mVar, mC, mCons, mNil, mBlt, mTup, mFl, mLst, mIf, mNotV, mAndV, mOrV, toB, mSkip, mBreak, mCont, mRaise, mBM, mFld, mDGet1, mDGet2, mDPut, mDDel, mDIn, mSetFld, mSetIx, mAugFld, mMeth, mCall, mMake, mDNew, mDisp, mPCons, mPNil, kvOf, keyOf, mChain, mPar, mTru, truthL, Res.bind, lift, Fl.andThen, isNon, gN, gT, gCons, gNil, Option.bind_some, gIsN, e_gEqS, e_gEq, e_gI, e_gIc, e_gMul, e_gAdd, e_gCmp, gSub, gAddI, gFdiv, gMod,   List.map_cons, List.map_nil, List.cons_append, List.nil_append, List.append_nil, List.length_cons, List.length_nil, List.replicate, List.set_cons_succ, List.set_cons_zero, List.getElem?_cons_succ, List.getElem?_cons_zero, Nat.reduceSub, Nat.reduceAdd, if_true, if_false, Bool.false_eq_true, Bool.true_eq_false, Bool.not_true, Bool.not_false, reduceCtorEq, Nat.reduceLeDiff, g.s1, e1]
  have a2 : mOp gAdd (mVar 6) (mVar 15) (sl.set 15 (some (.int (1 + i)))) L1 = .ok (.int t') L1 := by simp only [callF, mSeq, mIfS, mAsg, mRet, mRetN, mDrop, mOr, mAnd, mNot, mTest, mOp, mUn, mVar, mC, mCons, mNil, mBlt, mTup, mFl, mLst, mIf, mNotV, mAndV, mOrV, toB, mSkip, mBreak, mCont, mRaise, mBM, mFld, mDGet1, mDGet2, mDPut, mDDel, mDIn, mSetFld, mSetIx, mAugFld, mMeth, mCall, mMake, mDNew, mDisp, mPCons, mPNil, kvOf, keyOf, mChain, mPar, mTru, truthL, Res.bind, lift, Fl.andThen, isNon, gN, gT, gCons, gNil, Option.bind_some, gIsN, e_gEqS, e_gEq, e_gI, e_gIc, e_gMul, e_gAdd, e_gCmp, gSub, gAddI, gFdiv, gMod,   List.map_cons, List.map_nil, List.cons_append, List.nil_append, List.append_nil, List.length_cons, List.length_nil, List.replicate, List.set_cons_succ, List.set_cons_zero, List.getElem?_cons_succ, List.getElem?_cons_zero, Nat.reduceSub, Nat.reduceAdd, if_true, if_false, Bool.false_eq_true, Bool.true_eq_false, Bool.not_true, Bool.not_false, reduceCtorEq, Nat.reduceLeDiff, (g.set (i := 15) (by decide) (some (.int (1 + i)))).s6, g.self (i := 15) (by decide) (some (.int (1 + i))), et]
  have a3 : mLc (mIt (mBlt fSortD (mCons (mVar 4) mNil))) (gN 14) (mTest (mOp gGe (mVar 6) (mOp gAdd (mOp gIx (mOp gDGet (mVar 4) (mVar 14)) (mC (.int 2))) (mOp gIx (mOp gDGet (mVar 4) (mVar 14)) (mC (.int 3)))))) (mVar 14) [14] s1 L1 = .ok (.fl (en.map .str)) L1 := by
    have e : mIt (mBlt fSortD (mCons (mVar 4) mNil)) s1 L1 = .ok (itV ((abc.filter fun k => ((rs k).map Row.tup).isSome).map .str)) L1 := by simp only [callF, mSeq, mIfS, mAsg, mRet, mRetN, mDrop, mOr, mAnd, mNot, mTest, mOp, mUn, mVar, mC, mCons, mNil, mBlt, mTup, mFl, mLst, mIf, mNotV, mAndV, mOrV, toB, mSkip, mBreak, mCont, mRaise, mBM, mFld, mDGet1, mDGet2, mDPut, mDDel, mDIn, mSetFld, mSetIx, mAugFld, mMeth, mCall, mMake, mDNew, mDisp, mPCons, mPNil, kvOf, keyOf, mChain, mPar, mTru, truthL, Res.bind, lift, Fl.andThen, isNon, gN, gT, gCons, gNil, Option.bind_some, gIsN, e_gEqS, e_gEq, e_gI, e_gIc, e_gMul, e_gAdd, e_gCmp, gSub, gAddI, gFdiv, gMod,   List.map_cons, List.map_nil, List.cons_append, List.nil_append, List.append_nil, List.length_cons, List.length_nil, List.replicate, List.set_cons_succ, List.set_cons_zero, List.getElem?_cons_succ, List.getElem?_cons_zero, Nat.reduceSub, Nat.reduceAdd, if_true, if_false, Bool.false_eq_true, Bool.true_eq_false, Bool.not_true, Bool.not_false, reduceCtorEq, Nat.reduceLeDiff, mIt, g1.s4, srt, itOf]
    unfold mLc
    rw [e]
    simp only [Res.bind]
    rw [lc_pure (xs := abc.filter fun k => ((rs k).map Row.tup).isSome) LV.str (overOf rs t') LV.str (fun i => by simp [itV]) (by have := abc_f (fun k => ((rs k).map Row.tup).isSome); omega) fun k hk => ?_, een]
    have hk := (List.mem_filter.mp hk).2
    have g2 := (g1.wipe14).set (i := 14) (by decide) (some (.str k))
    have s14 := (g1.wipe14).self (i := 14) (by decide) (some (.str k))
    obtain ⟨ρ, eρ⟩ : ∃ ρ, rs k = some ρ := by
      cases e : rs k with
      | none => rw [e] at hk; cases hk
      | some ρ => exact ⟨ρ, rfl⟩
    have hg : gDGet (.ref r) (.str k) L1 = .ok ρ.tup L1 := gdget rfl r1 (by rw [r2.at_, eρ]; rfl)
    refine ⟨_, rfl, ?_, fun _ => by simp only [callF, mSeq, mIfS, mAsg, mRet, mRetN, mDrop, mOr, mAnd, mNot, mTest, mOp, mUn, mVar, mC, mCons, mNil, mBlt, mTup, mFl, mLst, mIf, mNotV, mAndV, mOrV, toB, mSkip, mBreak, mCont, mRaise, mBM, mFld, mDGet1, mDGet2, mDPut, mDDel, mDIn, mSetFld, mSetIx, mAugFld, mMeth, mCall, mMake, mDNew, mDisp, mPCons, mPNil, kvOf, keyOf, mChain, mPar, mTru, truthL, Res.bind, lift, Fl.andThen, isNon, gN, gT, gCons, gNil, Option.bind_some, gIsN, e_gEqS, e_gEq, e_gI, e_gIc, e_gMul, e_gAdd, e_gCmp, gSub, gAddI, gFdiv, gMod,   List.map_cons, List.map_nil, List.cons_append, List.nil_append, List.append_nil, List.length_cons, List.length_nil, List.replicate, List.set_cons_succ, List.set_cons_zero, List.getElem?_cons_succ, List.getElem?_cons_zero, Nat.reduceSub, Nat.reduceAdd, if_true, if_false, Bool.false_eq_true, Bool.true_eq_false, Bool.not_true, Bool.not_false, reduceCtorEq, Nat.reduceLeDiff, s14]⟩
    unfold overOf
    rw [eρ]
    simp only [callF, mSeq, mIfS, mAsg, mRet, mRetN, mDrop, mOr, mAnd, mNot, mTest, mOp, mUn, mVar, mC, mCons, mNil, mBlt, mTup, mFl, mLst, mIf, mNotV, mAndV, mOrV, toB, mSkip, mBreak, mCont, mRaise, mBM, mFld, mDGet1, mDGet2, mDPut, mDDel, mDIn, mSetFld, mSetIx, mAugFld, mMeth, mCall, mMake, mDNew, mDisp, mPCons, mPNil, kvOf, keyOf, mChain, mPar, mTru, truthL, Res.bind, lift, Fl.andThen, isNon, gN, gT, gCons, gNil, Option.bind_some, gIsN, e_gEqS, e_gEq, e_gI, e_gIc, e_gMul, e_gAdd, e_gCmp, gSub, gAddI, gFdiv, gMod,   List.map_cons, List.map_nil, List.cons_append, List.nil_append, List.append_nil, List.length_cons, List.length_nil, List.replicate, List.set_cons_succ, List.set_cons_zero, List.getElem?_cons_succ, List.getElem?_cons_zero, Nat.reduceSub, Nat.reduceAdd, if_true, if_false, Bool.false_eq_true, Bool.true_eq_false, Bool.not_true, Bool.not_false, reduceCtorEq, Nat.reduceLeDiff, g2.s6, g2.s4, s14, hg, tup2, tup3]
  have hpf : ∀ k, (pf k).isSome = ((rs k).map Row.tup).isSome := fun k => by
    cases e : rs k with
    | none => rw [p3 k e]; rfl
    | some ρ => obtain ⟨q, q1, _⟩ := p4 k ρ e; rw [q1]; rfl
  obtain ⟨L2, V', P', b1, b2, b3, b4, b5, b6, b7⟩ := tick_eq (many := 1 + i) (over := overOf rs t') (g := fun k => match rs k with | some ρ => ρ.a | none => 0) h1.hm v1 v2 p1 p2 (by decide) (by decide) (by decide) fun k hk => by
    rw [hpf] at hk
    cases e : rs k with
    | none => rw [e] at hk; cases hk
    | some ρ =>
      obtain ⟨q, q1, q2, q3⟩ := p4 k ρ e
      refine ⟨q, ρ.f, ρ.s, ρ.l, ρ.w, q1, q2, by omega, by omega, by omega, ?_⟩
      unfold overOf
      rw [e, et]
  rw [← et] at b2
  have een2 : en = abc.filter fun k => (pf k).isSome && overOf rs t' k := by
    rw [een, List.filter_filter]
    exact List.filter_congr fun k _ => by rw [hpf, Bool.and_comm]
  rw [← een2] at b1
  obtain ⟨s2, es2⟩ : ∃ s2, s2 = s1.set 16 (some (.fl (en.map .str))) := ⟨_, rfl⟩
  have g2 : G s2 t' r := by rw [es2]; exact g1.set (by decide) _
  have s15' : s2[15]? = some (some (.int (1 + i))) := by rw [es2, List.getElem?_set_ne (by decide)]; exact s15
  have s16 : s2[16]? = some (some (.fl (en.map .str))) := by rw [es2]; exact g1.self (by decide) _
  have a4 : mTest (mOp (gEq true) (mMeth i_Mover "tick" F_Mover_tick [] (mVar 2) (mCons (mVar 15) mNil)) (mBlt fTuple (mCons (mVar 16) mNil))) s2 L1 = .ok false L2 := by
    have nn : NI (en.map LV.str) := names_nice en fun x hx => abc_ok (by rw [een2] at hx; exact (List.mem_filter.mp hx).1)
    have ft : fTuple [.fl (en.map .str)] L2 = .ok (.tup (en.map .str)) L2 := rfl
    simp only [callF, mSeq, mIfS, mAsg, mRet, mRetN, mDrop, mOr, mAnd, mNot, mTest, mOp, mUn, mVar, mC, mCons, mNil, mBlt, mTup, mFl, mLst, mIf, mNotV, mAndV, mOrV, toB, mSkip, mBreak, mCont, mRaise, mBM, mFld, mDGet1, mDGet2, mDPut, mDDel, mDIn, mSetFld, mSetIx, mAugFld, mMeth, mCall, mMake, mDNew, mDisp, mPCons, mPNil, kvOf, keyOf, mChain, mPar, mTru, truthL, Res.bind, lift, Fl.andThen, isNon, gN, gT, gCons, gNil, Option.bind_some, gIsN, e_gEqS, e_gEq, e_gI, e_gIc, e_gMul, e_gAdd, e_gCmp, gSub, gAddI, gFdiv, gMod,   List.map_cons, List.map_nil, List.cons_append, List.nil_append, List.append_nil, List.length_cons, List.length_nil, List.replicate, List.set_cons_succ, List.set_cons_zero, List.getElem?_cons_succ, List.getElem?_cons_zero, Nat.reduceSub, Nat.reduceAdd, if_true, if_false, Bool.false_eq_true, Bool.true_eq_false, Bool.not_true, Bool.not_false, reduceCtorEq, Nat.reduceLeDiff, g2.s2, s15', ins_mv (z := "tick") h1.hm, b1, s16, ft, nn.same]
  have r3 : L2[r]? = some (dk R) := b7 _ _ (by have := h1.hr; simp; omega) r1
  have a5 := rows_walk (tt := mTest (mOp (gIn true) (mVar 14) (mVar 16))) (F := fun k => !decide (k ∈ en)) r3 r2 g2 fun k hk => by
    have s14 := (g2.wipe14).self (i := 14) (by decide) (some (.str k))
    have s16' : ((wipeL s2 [14]).set 14 (some (.str k)))[16]? = some (some (.fl (en.map .str))) := by
      rw [List.getElem?_set_ne (by decide)]
      show (s2.set 14 none)[16]? = _
      rw [List.getElem?_set_ne (by decide)]
      exact s16
    simp only [callF, mSeq, mIfS, mAsg, mRet, mRetN, mDrop, mOr, mAnd, mNot, mTest, mOp, mUn, mVar, mC, mCons, mNil, mBlt, mTup, mFl, mLst, mIf, mNotV, mAndV, mOrV, toB, mSkip, mBreak, mCont, mRaise, mBM, mFld, mDGet1, mDGet2, mDPut, mDDel, mDIn, mSetFld, mSetIx, mAugFld, mMeth, mCall, mMake, mDNew, mDisp, mPCons, mPNil, kvOf, keyOf, mChain, mPar, mTru, truthL, Res.bind, lift, Fl.andThen, isNon, gN, gT, gCons, gNil, Option.bind_some, gIsN, e_gEqS, e_gEq, e_gI, e_gIc, e_gMul, e_gAdd, e_gCmp, gSub, gAddI, gFdiv, gMod,   List.map_cons, List.map_nil, List.cons_append, List.nil_append, List.append_nil, List.length_cons, List.length_nil, List.replicate, List.set_cons_succ, List.set_cons_zero, List.getElem?_cons_succ, List.getElem?_cons_zero, Nat.reduceSub, Nat.reduceAdd, if_true, if_false, Bool.false_eq_true, Bool.true_eq_false, Bool.not_true, Bool.not_false, reduceCtorEq, Nat.reduceLeDiff, s14, s16', in_fl]
  obtain ⟨R2, eR2⟩ : ∃ R2, R2 = R.filter (onS fun k => !decide (k ∈ en)) := ⟨_, rfl⟩
  rw [← eR2] at a5
  have rR2 := r2.filt (onS fun k => !decide (k ∈ en))
  rw [← eR2] at rR2
  have a6 := dictP_eq (L := L2) rR2.nd
  have len : 8 ≤ L2.length := by
    obtain ⟨S, s, _⟩ := h1.S
    have := at_lt (b7 _ _ (by decide) s)
    omega
  have men : ∀ k, k ∈ en ↔ (((rs k).map Row.tup).isSome && overOf rs t' k) = true := fun k => by
    rw [een2, List.mem_filter, hpf]
    refine ⟨fun z => z.2, fun z => ⟨?_, z⟩⟩
    cases e : rs k with
    | none => rw [e] at z; cases z
    | some ρ =>
      have := r2.at_ k
      rw [e] at this
      have hm : (.inr k : Key) ∈ R.map (·.1) := Classical.byContradiction fun y => by rw [look_none.mpr y] at this; cases this
      obtain ⟨k', h1, e⟩ := r2.ks _ hm
      cases e
      exact h1
  have K : Keep [1, 2, 3] L1 (L2 ++ [dk R2]) := fun n o hn ho => at_app (b7 n o hn ho)
  refine ⟨L2 ++ [dk R2], s2.set 4 (some (.ref L2.length)), t', L2.length, fun k => if ((rs k).map Row.tup).isSome && overOf rs t' k then none else rs k, ?_, g2.r _, ?_⟩
  · unfold BRC
    refine (seq_asg a1 rfl).trans ((seq_asg a2 (by rw [es1]; rfl)).trans ((seq_asg a3 (by rw [es2]; rfl)).trans ((seq_no a4).trans ?_)))
    simp only [callF, mSeq, mIfS, mAsg, mRet, mRetN, mDrop, mOr, mAnd, mNot, mTest, mOp, mUn, mVar, mC, mCons, mNil, mBlt, mTup, mFl, mLst, mIf, mNotV, mAndV, mOrV, toB, mSkip, mBreak, mCont, mRaise, mBM, mFld, mDGet1, mDGet2, mDPut, mDDel, mDIn, mSetFld, mSetIx, mAugFld, mMeth, mCall, mMake, mDNew, mDisp, mPCons, mPNil, kvOf, keyOf, mChain, mPar, mTru, truthL, Res.bind, lift, Fl.andThen, isNon, gN, gT, gCons, gNil, Option.bind_some, gIsN, e_gEqS, e_gEq, e_gI, e_gIc, e_gMul, e_gAdd, e_gCmp, gSub, gAddI, gFdiv, gMod,   List.map_cons, List.map_nil, List.cons_append, List.nil_append, List.append_nil, List.length_cons, List.length_nil, List.replicate, List.set_cons_succ, List.set_cons_zero, List.getElem?_cons_succ, List.getElem?_cons_zero, Nat.reduceSub, Nat.reduceAdd, if_true, if_false, Bool.false_eq_true, Bool.true_eq_false, Bool.not_true, Bool.not_false, reduceCtorEq, Nat.reduceLeDiff, a5, a6]
  · exact { d := let ⟨x, y, z, e⟩ := h1.d; ⟨x, y, z, K _ _ (by decide) e⟩
            hm := at_app b2
            V := ⟨V', _, at_app b3, b4, fun k => by
              simp only [hpf]
              by_cases c : (((rs k).map Row.tup).isSome && overOf rs t' k) = true
              · rw [if_pos c]
                cases e : rs k with
                | none => rw [e] at c; cases c
                | some ρ => rw [(h1.ok k ρ e).x]; rfl
              · rw [if_neg c]; exact v3 k, fun k hk => by
              simp only [hpf]
              by_cases c : (((rs k).map Row.tup).isSome && overOf rs t' k) = true
              · rw [if_pos c]
                cases e : rs k with
                | none => rw [e] at c; cases c
                | some ρ => rw [(h1.ok k ρ e).x]; rfl
              · rw [if_neg c]
                simp only [c] at hk
                exact v4 k hk⟩
            P := ⟨P', _, at_app b5, b6, fun k hk => by
              simp only [hpf]
              by_cases c : (((rs k).map Row.tup).isSome && overOf rs t' k) = true
              · rw [if_pos c]
              · rw [if_neg c]
                simp only [c] at hk
                exact p3 k hk, fun k ρ hk => by
              simp only [hpf]
              by_cases c : (((rs k).map Row.tup).isSome && overOf rs t' k) = true
              · simp only [c] at hk; cases hk
              · simp only [c] at hk
                obtain ⟨q, q1, q2, q3⟩ := p4 k ρ hk
                exact ⟨q, by rw [if_neg c]; exact q1, K _ _ (by simp; omega) q2, q3⟩⟩
            W := let ⟨W, a, b⟩ := h1.W; ⟨W, K _ _ (by decide) a, b⟩
            W' := let ⟨W, a, b⟩ := h1.W'; ⟨W, K _ _ (by decide) a, b⟩
            R := ⟨R2, at_new rfl, rR2.congr fun k => by
              by_cases c : (((rs k).map Row.tup).isSome && overOf rs t' k) = true
              · rw [if_pos c]
                have := (men k).mpr c
                cases e : rs k <;> simp [this, onS]
              · rw [if_neg c]
                have : k ∉ en := fun z => c ((men k).mp z)
                cases e : rs k <;> simp [this, onS]⟩
            hr := .inr len
            S := let ⟨S, a, b⟩ := h1.S; ⟨S, K _ _ (by decide) a, b⟩
            ok := fun k ρ hk => by
              by_cases c : (((rs k).map Row.tup).isSome && overOf rs t' k) = true
              · simp only [c] at hk; cases hk
              · simp only [c] at hk
                have o := h1.ok k ρ hk
                have hn : overOf rs t' k = false := by
                  have hk : rs k = some ρ := hk
                  rw [hk] at c
                  simpa using c
                have hk : rs k = some ρ := hk
                unfold overOf at hn
                rw [hk] at hn
                have := of_decide_eq_false hn
                exact ⟨o.w, o.l0, o.l1, by have := o.s; omega, by omega, o.x⟩
            wok := h1.wok }
end
end Q.K18
end
section
set_option Elab.async false
set_option linter.all false
set_option maxRecDepth 100000
set_option maxHeartbeats 1000000
namespace Q.K18
open PySem L2 Q
def BRD : MS := (mSeq (mIfS (mTest (mOp (gEq true) (mMeth i_Mover "moving" F_Mover_moving [] (mVar 2) mNil) (mBlt fTuple (mCons (mBlt fSortD (mCons (mVar 4) mNil)) mNil))))
  (mRet (mC (.bl false)))
  mSkip)
  (mLockS (mVar 5) (mFor (mItD (mVar 5)) (gN 14)
  (mSeq (mAsg (mIf (mTest (mDIn false (mVar 14) (mVar 4))) (mCall F_law_at [] (mCons (mOp gDGet (mVar 4) (mVar 14)) (mCons (mVar 6) mNil))) (mOp gDGet (mVar 5) (mVar 14))) (gN 17))
  (mIfS (mOr (mTest (mOp (gEq true) (mMeth i_Mover "value_now" F_Mover_value_now [] (mVar 2) (mCons (mVar 14) mNil)) (mVar 17))) (mAnd (mTest (mDIn false (mVar 14) (mVar 4))) (mNot (mTest (mChain gLe gLe (mBlt fMin (mCons (mOp gIx (mOp gDGet (mVar 4) (mVar 14)) (mC (.int 0))) (mCons (mOp gIx (mOp gDGet (mVar 4) (mVar 14)) (mC (.int 1))) mNil))) (mVar 17) (mBlt fMax (mCons (mOp gIx (mOp gDGet (mVar 4) (mVar 14)) (mC (.int 0))) (mCons (mOp gIx (mOp gDGet (mVar 4) (mVar 14)) (mC (.int 1))) mNil))))))))
  (mRet (mC (.bl false)))
  mSkip)))))
def TURN : MS := (mSeq (mAsg (mIf (mTest (mDIn false (mVar 14) (mVar 4))) (mCall F_law_at [] (mCons (mOp gDGet (mVar 4) (mVar 14)) (mCons (mVar 6) mNil))) (mOp gDGet (mVar 5) (mVar 14))) (gN 17))
  (mIfS (mOr (mTest (mOp (gEq true) (mMeth i_Mover "value_now" F_Mover_value_now [] (mVar 2) (mCons (mVar 14) mNil)) (mVar 17))) (mAnd (mTest (mDIn false (mVar 14) (mVar 4))) (mNot (mTest (mChain gLe gLe (mBlt fMin (mCons (mOp gIx (mOp gDGet (mVar 4) (mVar 14)) (mC (.int 0))) (mCons (mOp gIx (mOp gDGet (mVar 4) (mVar 14)) (mC (.int 1))) mNil))) (mVar 17) (mBlt fMax (mCons (mOp gIx (mOp gDGet (mVar 4) (mVar 14)) (mC (.int 0))) (mCons (mOp gIx (mOp gDGet (mVar 4) (mVar 14)) (mC (.int 1))) mNil))))))))
  (mRet (mC (.bl false)))
  mSkip))
section
variable {L L' : LH} {t : Int} {r : Nat} {rs : Str → Option Row} {ws : Str → Option (Int × Str)} {sv : Str → Option Int} {k : Str} {sl : Sl}
theorem turn_ok {R S : List (Key × LV)} {M : LH} (h : St L t r rs ws sv) (hS : L[7]? = some (dk S)) (rS : Rep abc S (fun k => (sv k).map .int)) (hR : L[r]? = some (dk R)) (rR : Rep abc R (fun k => (rs k).map Row.tup)) (T : LH) (eM : M = L.set 7 (lk S) ++ T) (g : G sl t r) {x : Int} (hx : sv k = some x) :
    ∃ T' s2, TURN (sl.set 14 (some (.str k))) M = .next s2 (L.set 7 (lk S) ++ T') ∧ G s2 t r := by
  have K : Keep [7] L M := fun n o hn ho => by rw [eM]; exact at_app (at_ne (fun z => hn (by simp [z])) ho)
  have hS2 : M[7]? = some (lk S) := by rw [eM]; exact at_app (at_self (at_lt hS))
  have hR2 : M[r]? = some (dk R) := K _ _ (by have := h.hr; simp; omega) hR
  obtain ⟨s1, es1⟩ : ∃ s1, s1 = sl.set 14 (some (.str k)) := ⟨_, rfl⟩
  have g1 : G s1 t r := by rw [es1]; exact g.set (by decide) _
  have s14 : s1[14]? = some (some (.str k)) := by rw [es1]; exact g.self (by decide) _
  rw [← es1]
  obtain ⟨y, ey⟩ : ∃ y, nowOf t (rs k) (sv k) = some y := by
    unfold nowOf
    cases rs k with
    | none => exact ⟨x, hx⟩
    | some ρ => exact ⟨_, rfl⟩
  -- due
  obtain ⟨T1, e1⟩ : ∃ T1, mIf (mTest (mDIn false (mVar 14) (mVar 4))) (mCall F_law_at [] (mCons (mOp gDGet (mVar 4) (mVar 14)) (mCons (mVar 6) mNil))) (mOp gDGet (mVar 5) (mVar 14)) s1 M = .ok (.int y) (M ++ T1) := by
    have lr := rR.at_ k
    cases er : rs k with
    | none =>
      rw [er] at ey lr
      have ey : sv k = some y := ey
      have hg : gDGet (.ref 7) (.str k) M = .ok (.int y) M := by
        simp only [gDGet, dgl hS2, rS.at_, ey, Option.map]
      refine ⟨[], ?_⟩
      simp only [callF, mSeq, mIfS, mAsg, mRet, mRetN, mDrop, mOr, mAnd, mNot, mTest, mOp, mUn, mVar, mC, mCons, mNil, mBlt, mTup, mFl, mLst, mIf, mNotV, mAndV, mOrV, toB, mSkip, mBreak, mCont, mRaise, mBM, mFld, mDGet1, mDGet2, mDPut, mDDel, mDIn, mSetFld, mSetIx, mAugFld, mMeth, mCall, mMake, mDNew, mDisp, mPCons, mPNil, kvOf, keyOf, mChain, mPar, mTru, truthL, Res.bind, lift, Fl.andThen, isNon, gN, gT, gCons, gNil, Option.bind_some, gIsN, e_gEqS, e_gEq, e_gI, e_gIc, e_gMul, e_gAdd, e_gCmp, gSub, gAddI, gFdiv, gMod,   List.map_cons, List.map_nil, List.cons_append, List.nil_append, List.append_nil, List.length_cons, List.length_nil, List.replicate, List.set_cons_succ, List.set_cons_zero, List.getElem?_cons_succ, List.getElem?_cons_zero, Nat.reduceSub, Nat.reduceAdd, if_true, if_false, Bool.false_eq_true, Bool.true_eq_false, Bool.not_true, Bool.not_false, reduceCtorEq, Nat.reduceLeDiff, s14, g1.s4, dgk hR2, lr, Option.map, Option.isSome, g1.s5, hg]
    | some ρ =>
      rw [er] at ey lr
      have ey : some (ρ.val t) = some y := ey
      cases ey
      have o := h.ok k ρ er
      have hg : gDGet (.ref r) (.str k) M = .ok ρ.tup M := gdget rfl hR2 lr
      obtain ⟨T1, e⟩ := lat_eq (L := M) (f := ρ.f) (a := ρ.a) (s := ρ.s) (l := ρ.l) (W := ρ.w) (t := t) o.w ⟨by have := o.l0; omega, o.l1⟩
      have e : F_law_at [ρ.tup, .int t] M = .ok (.int (ρ.val t)) (M ++ T1) := e
      refine ⟨T1, ?_⟩
      simp only [callF, mSeq, mIfS, mAsg, mRet, mRetN, mDrop, mOr, mAnd, mNot, mTest, mOp, mUn, mVar, mC, mCons, mNil, mBlt, mTup, mFl, mLst, mIf, mNotV, mAndV, mOrV, toB, mSkip, mBreak, mCont, mRaise, mBM, mFld, mDGet1, mDGet2, mDPut, mDDel, mDIn, mSetFld, mSetIx, mAugFld, mMeth, mCall, mMake, mDNew, mDisp, mPCons, mPNil, kvOf, keyOf, mChain, mPar, mTru, truthL, Res.bind, lift, Fl.andThen, isNon, gN, gT, gCons, gNil, Option.bind_some, gIsN, e_gEqS, e_gEq, e_gI, e_gIc, e_gMul, e_gAdd, e_gCmp, gSub, gAddI, gFdiv, gMod,   List.map_cons, List.map_nil, List.cons_append, List.nil_append, List.append_nil, List.length_cons, List.length_nil, List.replicate, List.set_cons_succ, List.set_cons_zero, List.getElem?_cons_succ, List.getElem?_cons_zero, Nat.reduceSub, Nat.reduceAdd, if_true, if_false, Bool.false_eq_true, Bool.true_eq_false, Bool.not_true, Bool.not_false, reduceCtorEq, Nat.reduceLeDiff, s14, g1.s4, dgk hR2, lr, Option.map, Option.isSome, hg, g1.s6, e]
  obtain ⟨M1, eM1⟩ : ∃ M1, M1 = M ++ T1 := ⟨_, rfl⟩
  have K1 : Keep [7] L M1 := fun n o hn ho => by rw [eM1]; exact at_app (K n o hn ho)
  have hR3 : M1[r]? = some (dk R) := K1 _ _ (by have := h.hr; simp; omega) hR
  rw [← eM1] at e1
  obtain ⟨s2, es2⟩ : ∃ s2, s2 = s1.set 17 (some (.int y)) := ⟨_, rfl⟩
  have g2 : G s2 t r := by rw [es2]; exact g1.set (by decide) _
  have s14' : s2[14]? = some (some (.str k)) := by rw [es2, List.getElem?_set_ne (by decide)]; exact s14
  have s17 : s2[17]? = some (some (.int y)) := by rw [es2]; exact g1.self (by decide) _
  have nw := now_eq h K1 ey
  refine ⟨T ++ T1, s2, ?_, g2⟩
  rw [← List.append_assoc, ← eM, ← eM1]
  unfold TURN
  refine (seq_asg e1 (by rw [es2]; rfl)).trans (if_f ?_)
  have hm := K1 _ _ (by decide) h.hm
  have lr := rR.at_ k
  cases er : rs k with
  | none =>
    rw [er] at lr
    simp only [callF, mSeq, mIfS, mAsg, mRet, mRetN, mDrop, mOr, mAnd, mNot, mTest, mOp, mUn, mVar, mC, mCons, mNil, mBlt, mTup, mFl, mLst, mIf, mNotV, mAndV, mOrV, toB, mSkip, mBreak, mCont, mRaise, mBM, mFld, mDGet1, mDGet2, mDPut, mDDel, mDIn, mSetFld, mSetIx, mAugFld, mMeth, mCall, mMake, mDNew, mDisp, mPCons, mPNil, kvOf, keyOf, mChain, mPar, mTru, truthL, Res.bind, lift, Fl.andThen, isNon, gN, gT, gCons, gNil, Option.bind_some, gIsN, e_gEqS, e_gEq, e_gI, e_gIc, e_gMul, e_gAdd, e_gCmp, gSub, gAddI, gFdiv, gMod,   List.map_cons, List.map_nil, List.cons_append, List.nil_append, List.append_nil, List.length_cons, List.length_nil, List.replicate, List.set_cons_succ, List.set_cons_zero, List.getElem?_cons_succ, List.getElem?_cons_zero, Nat.reduceSub, Nat.reduceAdd, if_true, if_false, Bool.false_eq_true, Bool.true_eq_false, Bool.not_true, Bool.not_false, reduceCtorEq, Nat.reduceLeDiff, g2.s2, ins_mv (z := "value_now") hm, s14', nw, s17, decide_true, g2.s4, dgk hR3, lr, Option.map, Option.isSome]
  | some ρ =>
    rw [er] at ey lr
    have ey : some (ρ.val t) = some y := ey
    cases ey
    have o := h.ok k ρ er
    have hg : gDGet (.ref r) (.str k) M1 = .ok ρ.tup M1 := gdget rfl hR3 lr
    have b := now_in o
    have c1 : decide ((if ρ.a < ρ.f then ρ.a else ρ.f) ≤ ρ.val t) = true := decide_eq_true (by omega)
    have c2 : decide (ρ.val t ≤ (if ρ.a > ρ.f then ρ.a else ρ.f)) = true := decide_eq_true (by omega)
    simp only [callF, mSeq, mIfS, mAsg, mRet, mRetN, mDrop, mOr, mAnd, mNot, mTest, mOp, mUn, mVar, mC, mCons, mNil, mBlt, mTup, mFl, mLst, mIf, mNotV, mAndV, mOrV, toB, mSkip, mBreak, mCont, mRaise, mBM, mFld, mDGet1, mDGet2, mDPut, mDDel, mDIn, mSetFld, mSetIx, mAugFld, mMeth, mCall, mMake, mDNew, mDisp, mPCons, mPNil, kvOf, keyOf, mChain, mPar, mTru, truthL, Res.bind, lift, Fl.andThen, isNon, gN, gT, gCons, gNil, Option.bind_some, gIsN, e_gEqS, e_gEq, e_gI, e_gIc, e_gMul, e_gAdd, e_gCmp, gSub, gAddI, gFdiv, gMod,   List.map_cons, List.map_nil, List.cons_append, List.nil_append, List.append_nil, List.length_cons, List.length_nil, List.replicate, List.set_cons_succ, List.set_cons_zero, List.getElem?_cons_succ, List.getElem?_cons_zero, Nat.reduceSub, Nat.reduceAdd, if_true, if_false, Bool.false_eq_true, Bool.true_eq_false, Bool.not_true, Bool.not_false, reduceCtorEq, Nat.reduceLeDiff, g2.s2, ins_mv (z := "value_now") hm, s14', nw, s17, decide_true, g2.s4, dgk hR3, lr, Option.map, Option.isSome, hg, tup0, tup1, fMin, fMax, c1, c2]
theorem brD (h : St L t r rs ws sv) (g : G sl t r) : ∃ L' sl', BRD sl L = .next sl' L' ∧ G sl' t r ∧ St L' t r rs ws sv := by
  obtain ⟨R, r1, r2⟩ := h.R
  obtain ⟨S, s1, s2⟩ := h.S
  obtain ⟨P, pf, p1, p2, p3, p4⟩ := h.P
  have hpf : ∀ k, (pf k).isSome = ((rs k).map Row.tup).isSome := fun k => by
    cases e : rs k with
    | none => rw [p3 k e]; rfl
    | some ρ => obtain ⟨q, q1, _⟩ := p4 k ρ e; rw [q1]; rfl
  have a1 : mTest (mOp (gEq true) (mMeth i_Mover "moving" F_Mover_moving [] (mVar 2) mNil) (mBlt fTuple (mCons (mBlt fSortD (mCons (mVar 4) mNil)) mNil))) sl L = .ok false L := by
    have mv := moving_eq h.hm p1 p2
    have srt := sort_rep abc_uo r2 r1
    simp only [hpf] at mv
    have nn : NI ((abc.filter fun k => ((rs k).map Row.tup).isSome).map LV.str) := names_nice _ fun x hx => abc_ok (List.mem_filter.mp hx).1
    have ft : fTuple [.fl ((abc.filter fun k => ((rs k).map Row.tup).isSome).map .str)] L = .ok (.tup ((abc.filter fun k => ((rs k).map Row.tup).isSome).map .str)) L := rfl
    simp only [callF, mSeq, mIfS, mAsg, mRet, mRetN, mDrop, mOr, mAnd, mNot, mTest, mOp, mUn, mVar, mC, mCons, mNil, mBlt, mTup, mFl, mLst, mIf, mNotV, mAndV, mOrV, toB, mSkip, mBreak, mCont, mRaise, mBM, mFld, mDGet1, mDGet2, mDPut, mDDel, mDIn, mSetFld, mSetIx, mAugFld, mMeth, mCall, mMake, mDNew, mDisp, mPCons, mPNil, kvOf, keyOf, mChain, mPar, mTru, truthL, Res.bind, lift, Fl.andThen, isNon, gN, gT, gCons, gNil, Option.bind_some, gIsN, e_gEqS, e_gEq, e_gI, e_gIc, e_gMul, e_gAdd, e_gCmp, gSub, gAddI, gFdiv, gMod,   List.map_cons, List.map_nil, List.cons_append, List.nil_append, List.append_nil, List.length_cons, List.length_nil, List.replicate, List.set_cons_succ, List.set_cons_zero, List.getElem?_cons_succ, List.getElem?_cons_zero, Nat.reduceSub, Nat.reduceAdd, if_true, if_false, Bool.false_eq_true, Bool.true_eq_false, Bool.not_true, Bool.not_false, reduceCtorEq, Nat.reduceLeDiff, g.s2, ins_mv (z := "moving") h.hm, mv, g.s4, srt, ft, nn.same]
  have hl : (L.set 7 (lk S))[7]? = some (lk S) := at_self (at_lt s1)
  have lS := s2.len
  obtain ⟨s', L', e, ⟨T', eL'⟩, g'⟩ := for_items (it := itD 7) (g := gN 14) (body := TURN) (xs := S) (fun p => kL p.1) (fun s M => (∃ T, M = L.set 7 (lk S) ++ T) ∧ G s t r) (by simp at lS; omega)
    (fun i s M ⟨⟨T, e⟩, _⟩ => by rw [e]; simp only [itD, at_app (t := T) hl]) (fun p s M hp ⟨⟨T, e⟩, g⟩ => by
      obtain ⟨k, hk, ek, ef⟩ := s2.of_mem hp
      obtain ⟨pk, pv⟩ := p
      cases ek
      obtain ⟨x, hx⟩ : ∃ x, sv k = some x := by
        cases z : sv k with
        | none => rw [z] at ef; cases ef
        | some x => exact ⟨x, rfl⟩
      obtain ⟨T', s2', e1, e2⟩ := turn_ok h s1 s2 r1 r2 T e g hx
      exact ⟨_, s2', _, rfl, e1, ⟨T', rfl⟩, e2⟩) (s := sl) (L := L.set 7 (lk S)) ⟨⟨[], by simp⟩, g⟩
  refine ⟨L ++ T', s', ?_, g', h.app T'⟩
  unfold BRD
  refine (seq_no a1).trans (lockS_new (n := 7) (L' := L) (by simp only [callF, mSeq, mIfS, mAsg, mRet, mRetN, mDrop, mOr, mAnd, mNot, mTest, mOp, mUn, mVar, mC, mCons, mNil, mBlt, mTup, mFl, mLst, mIf, mNotV, mAndV, mOrV, toB, mSkip, mBreak, mCont, mRaise, mBM, mFld, mDGet1, mDGet2, mDPut, mDDel, mDIn, mSetFld, mSetIx, mAugFld, mMeth, mCall, mMake, mDNew, mDisp, mPCons, mPNil, kvOf, keyOf, mChain, mPar, mTru, truthL, Res.bind, lift, Fl.andThen, isNon, gN, gT, gCons, gNil, Option.bind_some, gIsN, e_gEqS, e_gEq, e_gI, e_gIc, e_gMul, e_gAdd, e_gCmp, gSub, gAddI, gFdiv, gMod,   List.map_cons, List.map_nil, List.cons_append, List.nil_append, List.append_nil, List.length_cons, List.length_nil, List.replicate, List.set_cons_succ, List.set_cons_zero, List.getElem?_cons_succ, List.getElem?_cons_zero, Nat.reduceSub, Nat.reduceAdd, if_true, if_false, Bool.false_eq_true, Bool.true_eq_false, Bool.not_true, Bool.not_false, reduceCtorEq, Nat.reduceLeDiff, g.s5]) s1 (for_of (L1 := L.set 7 (lk S)) (it := itD 7) ?_ ?_))
  · simp only [mItD]
    simp only [callF, mSeq, mIfS, mAsg, mRet, mRetN, mDrop, mOr, mAnd, mNot, mTest, mOp, mUn, mVar, mC, mCons, mNil, mBlt, mTup, mFl, mLst, mIf, mNotV, mAndV, mOrV, toB, mSkip, mBreak, mCont, mRaise, mBM, mFld, mDGet1, mDGet2, mDPut, mDDel, mDIn, mSetFld, mSetIx, mAugFld, mMeth, mCall, mMake, mDNew, mDisp, mPCons, mPNil, kvOf, keyOf, mChain, mPar, mTru, truthL, Res.bind, lift, Fl.andThen, isNon, gN, gT, gCons, gNil, Option.bind_some, gIsN, e_gEqS, e_gEq, e_gI, e_gIc, e_gMul, e_gAdd, e_gCmp, gSub, gAddI, gFdiv, gMod,   List.map_cons, List.map_nil, List.cons_append, List.nil_append, List.append_nil, List.length_cons, List.length_nil, List.replicate, List.set_cons_succ, List.set_cons_zero, List.getElem?_cons_succ, List.getElem?_cons_zero, Nat.reduceSub, Nat.reduceAdd, if_true, if_false, Bool.false_eq_true, Bool.true_eq_false, Bool.not_true, Bool.not_false, reduceCtorEq, Nat.reduceLeDiff, g.s5, hl]
  · rw [eL'] at e
    exact e
end
end Q.K18
end
section
set_option Elab.async false
set_option linter.all false
set_option maxRecDepth 100000
set_option maxHeartbeats 1000000
namespace Q.K18
open PySem L2 Q
def VOK (L : LH) (rs : Str → Option Row) (sv : Str → Option Int) : Prop := ∃ V vf, L[2]? = some (dk V) ∧ Rep abc V vf ∧ (∀ k, (vf k).isSome = (sv k).isSome) ∧ ∀ k, rs k = none → vf k = (sv k).map .int
def POK (L : LH) (rs : Str → Option Row) : Prop := ∃ P pf, L[3]? = some (dk P) ∧ Rep abc P pf ∧ (∀ k, rs k = none → pf k = none) ∧ ∀ k ρ, rs k = some ρ → ∃ q, pf k = some (.ref q) ∧ L[q]? = some ρ.pa ∧ 8 ≤ q
def lenOf (ρ : Option Row) (w0 a t : Int) : Int := match ρ with
  | some ρ => if a = ρ.f then min w0 (t - ρ.s) else w0
  | none => w0
def newRow (b a t l : Int) (w : Str) : Option Row := if 0 < l ∧ b ≠ a then some ⟨b, a, t, l, w⟩ else none
section
variable {L L' : LH} {t a b : Int} {r : Nat} {rs : Str → Option Row} {ws : Str → Option (Int × Str)} {sv : Str → Option Int} {k : Str} {sl : Sl}
abbrev up1 {α : Type} (f : Str → α) (k : Str) (v : α) : Str → α := fun x => if x = k then v else f x
theorem go_none (h : St L t r rs ws sv) (hk : k ∈ abc) (e1 : rs k = none) (e2 : sv k = none) : ∃ L', F_Mover_go_to [.ref 1, .str k, .int a] L = .ok .non L' ∧ Keep [2, 3] L L' ∧ VOK L' rs (up1 sv k (some a)) ∧ POK L' rs := by
  obtain ⟨V, vf, v1, v2, v3, v4⟩ := h.V
  obtain ⟨P, pf, p1, p2, p3, p4⟩ := h.P
  have lV := v2.len
  simp only [abc, List.length_cons, List.length_nil] at lV
  have pk := p2.at_ k
  rw [p3 k e1] at pk
  have vk := v2.at_ k
  rw [v4 k e1, e2] at vk
  have go := go_first (a := a) h.hm p1 pk v1 vk (by omega) (by decide) (by decide)
  have K : ∀ n o, n ∉ [2, 3] → L[n]? = some o → (L.set 2 (dk (putKL V (.inr k) (.int a))))[n]? = some o := fun n o hn ho => at_ne (fun z => hn (by simp [← z])) ho
  refine ⟨_, go, K, ⟨_, _, at_self (at_lt v1), v2.put hk _, fun x => ?_, fun x hx => ?_⟩, ⟨P, pf, at_ne (by decide) p1, p2, p3, fun x ρ hx => ?_⟩⟩
  · show (if x = k then some (LV.int a) else vf x).isSome = (if x = k then some a else sv x).isSome
    split
    · rfl
    · exact v3 x
  · show (if x = k then some (LV.int a) else vf x) = Option.map LV.int (if x = k then some a else sv x)
    split
    · rfl
    · exact v4 x hx
  · obtain ⟨q, q1, q2, q3⟩ := p4 x ρ hx
    exact ⟨q, q1, K _ _ (by simp; omega) q2, q3⟩
theorem len_le (h : St L t r rs ws sv) : lenOf (rs k) (wayOf (ws k)).1 a t ≤ (wayOf (ws k)).1 := by
  unfold lenOf
  cases rs k with
  | none => exact Int.le_refl _
  | some ρ =>
    show (if a = ρ.f then min (wayOf (ws k)).1 (t - ρ.s) else (wayOf (ws k)).1) ≤ _
    split <;> omega
theorem way_ok (h : St L t r rs ws sv) : 0 ≤ (wayOf (ws k)).1 ∧ (wayOf (ws k)).1 ≤ 1000 ∧ (wayOf (ws k)).2 ∈ WS4 := by
  cases e : ws k with
  | none => exact ⟨by decide, by decide, by decide +kernel⟩
  | some x => exact h.wok k x e
theorem go_ok (h : St L t r rs ws sv) (hk : k ∈ abc) (e : nowOf t (rs k) (sv k) = some b) : ∃ L', F_Mover_go_to [.ref 1, .str k, .int a] L = .ok .non L' ∧ Keep [2, 3] L L' ∧
    VOK L' (up1 rs k (newRow b a t (lenOf (rs k) (wayOf (ws k)).1 a t) (wayOf (ws k)).2)) (up1 sv k (some a)) ∧ POK L' (up1 rs k (newRow b a t (lenOf (rs k) (wayOf (ws k)).1 a t) (wayOf (ws k)).2)) := by
  obtain ⟨V, vf, v1, v2, v3, v4⟩ := h.V
  obtain ⟨P, pf, p1, p2, p3, p4⟩ := h.P
  obtain ⟨W, w1, w2⟩ := h.W
  have lV := v2.len
  have lP := p2.len
  simp only [abc, List.length_cons, List.length_nil] at lV lP
  have nw := now_eq h (fun n o _ h => h) e
  obtain ⟨g1, g2, g3⟩ := way_ok (k := k) h
  have lle := len_le (k := k) (a := a) h
  obtain ⟨w0, ew0⟩ : ∃ w0, w0 = wayOf (ws k) := ⟨_, rfl⟩
  obtain ⟨len, elen⟩ : ∃ len, len = lenOf (rs k) w0.1 a t := ⟨_, rfl⟩
  have hsv : (sv k).isSome = true := by
    cases er : rs k with
    | none => rw [er] at e; have e : sv k = some b := e; rw [e]; rfl
    | some ρ => rw [(h.ok k ρ er).x]; rfl
  have hin : (lookK P (.inr k)).isSome = true ∨ (lookK V (.inr k)).isSome = true := .inr (by rw [v2.at_, v3]; exact hsv)
  have wk := w2.at_ k
  rw [← ew0] at g1 g2 g3 lle ⊢
  rw [← elen] at lle ⊢
  by_cases hc : b = a ∨ w0.1 = 0
  · -- stay
    have hnr : newRow b a t len w0.2 = none := by
      unfold newRow
      rw [if_neg]
      rintro ⟨z1, z2⟩
      rcases hc with z | z
      · exact z2 z
      · omega
    rw [hnr]
    cases er : rs k with
    | none =>
      have pk := p2.at_ k
      rw [p3 k er] at pk
      have st := stay_no (x := .int a) h.hm p1 pk v1 (by omega) (by decide) (by decide)
      have go := go_stay (o := ws k) h.hm p1 v1 hin nw w1 wk (by rw [← ew0]; exact hc) st
      have K : ∀ n o, n ∉ [2, 3] → L[n]? = some o → (L.set 2 (dk (putKL V (.inr k) (.int a))))[n]? = some o := fun n o hn ho => at_ne (fun z => hn (by simp [← z])) ho
      refine ⟨_, go, K, ⟨_, _, at_self (at_lt v1), v2.put hk _, fun x => ?_, fun x hx => ?_⟩, ⟨P, pf, at_ne (by decide) p1, p2, fun x hx => ?_, fun x ρ hx => ?_⟩⟩
      · show (if x = k then some (LV.int a) else vf x).isSome = (if x = k then some a else sv x).isSome
        split
        · rfl
        · exact v3 x
      · show (if x = k then some (LV.int a) else vf x) = Option.map LV.int (if x = k then some a else sv x)
        by_cases z : x = k
        · rw [if_pos z, if_pos z]; rfl
        · rw [if_neg z, if_neg z]
          have hx : (if x = k then none else rs x) = none := hx
          rw [if_neg z] at hx
          exact v4 x hx
      · have hx : (if x = k then none else rs x) = none := hx
        by_cases z : x = k
        · rw [z]; exact p3 k er
        · rw [if_neg z] at hx; exact p3 x hx
      · have hx : (if x = k then none else rs x) = some ρ := hx
        by_cases z : x = k
        · rw [if_pos z] at hx; cases hx
        · rw [if_neg z] at hx
          obtain ⟨q, q1, q2, q3⟩ := p4 x ρ hx
          exact ⟨q, q1, K _ _ (by simp; omega) q2, q3⟩
    | some ρ =>
      obtain ⟨q, q1, q2, q3⟩ := p4 k ρ er
      have pk := p2.at_ k
      rw [q1] at pk
      have st := stay_drop (y := .int a) h.hm p1 pk v1 (by omega) (by decide) (by decide)
      have go := go_stay (o := ws k) h.hm p1 v1 hin nw w1 wk (by rw [← ew0]; exact hc) st
      have K : ∀ n o, n ∉ [2, 3] → L[n]? = some o → ((L.set 2 (dk (putKL V (.inr k) (.int a)))).set 3 (dk (dropKL P (.inr k))))[n]? = some o := fun n o hn ho => by
        simp only [List.mem_cons, List.not_mem_nil, or_false, not_or] at hn
        exact at_ne (fun z => hn.2 z.symm) (at_ne (fun z => hn.1 z.symm) ho)
      refine ⟨_, go, K, ⟨_, _, at_ne (by decide) (at_self (at_lt v1)), v2.put hk _, fun x => ?_, fun x hx => ?_⟩, ⟨_, _, at_self (by rw [List.length_set]; exact at_lt p1), p2.drop k, fun x hx => ?_, fun x ρ hx => ?_⟩⟩
      · show (if x = k then some (LV.int a) else vf x).isSome = (if x = k then some a else sv x).isSome
        split
        · rfl
        · exact v3 x
      · show (if x = k then some (LV.int a) else vf x) = Option.map LV.int (if x = k then some a else sv x)
        by_cases z : x = k
        · rw [if_pos z, if_pos z]; rfl
        · rw [if_neg z, if_neg z]
          have hx : (if x = k then none else rs x) = none := hx
          rw [if_neg z] at hx
          exact v4 x hx
      · have hx : (if x = k then none else rs x) = none := hx
        show (if x = k then none else pf x) = none
        by_cases z : x = k
        · rw [if_pos z]
        · rw [if_neg z] at hx ⊢; exact p3 x hx
      · have hx : (if x = k then none else rs x) = some ρ := hx
        by_cases z : x = k
        · rw [if_pos z] at hx; cases hx
        · rw [if_neg z] at hx
          obtain ⟨q, q1, q2, q3⟩ := p4 x ρ hx
          exact ⟨q, by show (if x = k then none else pf x) = _; rw [if_neg z]; exact q1, K _ _ (by simp; omega) q2, q3⟩
  · -- a path
    rw [not_or] at hc
    obtain ⟨back, eb, hb⟩ : ∃ back, min back w0.1 = len ∧ F_Mover_longest_back [.ref 1, .str k, .int a, .int w0.1] L = .ok (.int back) L := by
      cases er : rs k with
      | none =>
        have pk := p2.at_ k
        rw [p3 k er] at pk
        refine ⟨w0.1, ?_, back_no h.hm p1 pk⟩
        rw [elen, er]
        show min w0.1 w0.1 = w0.1
        omega
      | some ρ =>
        obtain ⟨q, q1, q2, q3⟩ := p4 k ρ er
        have pk := p2.at_ k
        rw [q1] at pk
        refine ⟨_, ?_, back_eq h.hm p1 pk q2⟩
        rw [elen, er]
        show min (if ρ.f = a then t - ρ.s else w0.1) w0.1 = if a = ρ.f then min w0.1 (t - ρ.s) else w0.1
        by_cases z : ρ.f = a
        · rw [if_pos z, if_pos z.symm]; omega
        · rw [if_neg z, if_neg (fun y => z y.symm)]; omega
    have lpos : 0 < len := by
      rw [elen]
      unfold lenOf
      cases er : rs k with
      | none => show 0 < w0.1; have := hc.2; omega
      | some ρ =>
        show 0 < if a = ρ.f then min w0.1 (t - ρ.s) else w0.1
        have := hc.2
        split
        · rename_i z
          have o := h.ok k ρ er
          have : ¬ t ≤ ρ.s := fun y => by
            rw [er] at e
            have e : some (ρ.val t) = some b := e
            cases e
            refine hc.1 ?_
            unfold Row.val val
            have := o.e
            rw [if_neg (by omega), if_pos y, z]
          omega
        · omega
    have hnr : newRow b a t len w0.2 = some ⟨b, a, t, len, w0.2⟩ := by
      unfold newRow
      rw [if_pos ⟨lpos, hc.1⟩]
    rw [hnr]
    have go := go_path (o := ws k) (back := back) h.hm p1 v1 hin nw w1 wk hc.1 (by rw [← ew0]; exact hc.2) (by rw [← ew0]; exact hb) (by rw [← ew0, eb]; omega) (by rw [← ew0]; exact g3) (by omega)
    rw [← ew0, eb] at go
    have K : ∀ n o, n ∉ [2, 3] → L[n]? = some o → ((L ++ [paO b a t len w0.2]).set 3 (dk (putKL P (.inr k) (.ref L.length))))[n]? = some o := fun n o hn ho => by
      simp only [List.mem_cons, List.not_mem_nil, or_false, not_or] at hn
      exact at_ne (fun z => hn.2 z.symm) (at_app ho)
    have ln : 8 ≤ L.length := by obtain ⟨S, s, _⟩ := h.S; have := at_lt s; omega
    refine ⟨_, go, K, ⟨_, vf, at_ne (by decide) (at_app v1), v2, fun x => ?_, fun x hx => ?_⟩, ⟨_, _, at_self (by rw [List.length_append]; have := at_lt p1; omega), p2.put hk _, fun x hx => ?_, fun x ρ hx => ?_⟩⟩
    · show (vf x).isSome = (if x = k then some a else sv x).isSome
      by_cases z : x = k
      · rw [if_pos z, v3, z, hsv]; rfl
      · rw [if_neg z]; exact v3 x
    · have hx : (if x = k then some _ else rs x) = none := hx
      show vf x = Option.map LV.int (if x = k then some a else sv x)
      by_cases z : x = k
      · rw [if_pos z] at hx; cases hx
      · rw [if_neg z] at hx ⊢; exact v4 x hx
    · have hx : (if x = k then some _ else rs x) = none := hx
      show (if x = k then some _ else pf x) = none
      by_cases z : x = k
      · rw [if_pos z] at hx; cases hx
      · rw [if_neg z] at hx ⊢; exact p3 x hx
    · have hx : (if x = k then some _ else rs x) = some ρ := hx
      by_cases z : x = k
      · rw [if_pos z] at hx
        cases hx
        exact ⟨L.length, by show (if x = k then some _ else pf x) = _; rw [if_pos z], at_ne (by omega) (at_new rfl), ln⟩
      · rw [if_neg z] at hx
        obtain ⟨q, q1, q2, q3⟩ := p4 x ρ hx
        exact ⟨q, by show (if x = k then some _ else pf x) = _; rw [if_neg z]; exact q1, K _ _ (by simp; omega) q2, q3⟩
end
end Q.K18
end
section
set_option Elab.async false
set_option linter.all false
set_option maxRecDepth 100000
set_option maxHeartbeats 1000000
namespace Q.K18
open PySem L2 Q
def BRB : MS := (mSeq (mAsg (mIf (mAnd (mTest (mDIn false (mVar 9) (mVar 4))) (mTest (mOp (gEq false) (mCall F_law_roll [] (mCons (mVar 1) (mCons (mC (.int 2)) mNil))) (mC (.int 0))))) (mOp gIx (mOp gDGet (mVar 4) (mVar 9)) (mC (.int 0))) (mVar 10)) (gN 10))
  (mSeq (mAsg (mDGet2 (mVar 3) (mVar 9) (mTup (mCons (mC (.int 0)) (mCons (mC (.str "even")) mNil)))) (gT 2 (gCons (gN 11) (gCons (gN 12) gNil))))
  (mSeq (mAsg (mIf (mTest (mDIn false (mVar 9) (mVar 4))) (mCall F_law_at [] (mCons (mOp gDGet (mVar 4) (mVar 9)) (mCons (mVar 6) mNil))) (mDGet1 (mVar 5) (mVar 9))) (gN 13))
  (mSeq (mIfS (mAnd (mTest (mDIn false (mVar 9) (mVar 4))) (mTest (mOp (gEq false) (mVar 10) (mOp gIx (mOp gDGet (mVar 4) (mVar 9)) (mC (.int 0))))))
  (mAsg (mBlt fMin (mCons (mVar 11) (mCons (mOp gSub (mVar 6) (mOp gIx (mOp gDGet (mVar 4) (mVar 9)) (mC (.int 2)))) mNil))) (gN 11))
  mSkip)
  (mSeq (mDrop (mMeth i_Mover "go_to" F_Mover_go_to [] (mVar 2) (mCons (mVar 9) (mCons (mVar 10) mNil))))
  (mSeq (mIfS (mTest (mOp (gIsN true) (mVar 13) (mC .non)))
  (mAsg (mBlt fDictP (mCons (mOp gAdd (mLock (mVar 4) (mLc (mItD (mVar 4)) (gN 14) (mTest (mOp (gEq true) (mVar 14) (mVar 9))) (mTup (mCons (mVar 14) (mCons (mOp gDGet (mVar 4) (mVar 14)) mNil))) [14])) (mOp gMul (mFl (mCons (mTup (mCons (mVar 9) (mCons (mTup (mCons (mVar 13) (mCons (mVar 10) (mCons (mVar 6) (mCons (mVar 11) (mCons (mVar 12) mNil)))))) mNil))) mNil)) (mBlt fInt (mCons (mAndV (mOp gGt (mVar 11) (mC (.int 0))) (mOp (gEq true) (mVar 13) (mVar 10))) mNil)))) mNil)) (gN 4))
  mSkip)
  (mDPut (mVar 5) (mVar 9) (mVar 10))))))))
section
variable {L L' : LH} {t a b : Int} {r : Nat} {rs : Str → Option Row} {ws : Str → Option (Int × Str)} {sv : Str → Option Int} {k : Str} {sl : Sl}
theorem in_rows (h : St L t r rs ws sv) (g : G sl t r) (h9 : sl[9]? = some (some (.str k))) : mTest (mDIn false (mVar 9) (mVar 4)) sl L = .ok (rs k).isSome L := by
  obtain ⟨R, r1, r2⟩ := h.R
  have := r2.at_ k
  simp only [callF, mSeq, mIfS, mAsg, mRet, mRetN, mDrop, mOr, mAnd, mNot, mTest, mOp, mUn, mVar, mC, mCons, mNil, mBlt, mTup, mFl, mLst, mIf, mNotV, mAndV, mOrV, toB, mSkip, mBreak, mCont, mRaise, mBM, mFld, mDGet1, mDGet2, mDPut, mDDel, mDIn, mSetFld, mSetIx, mAugFld, mMeth, mCall, mMake, mDNew, mDisp, mPCons, mPNil, kvOf, keyOf, mChain, mPar, mTru, truthL, Res.bind, lift, Fl.andThen, isNon, gN, gT, gCons, gNil, Option.bind_some, gIsN, e_gEqS, e_gEq, e_gI, e_gIc, e_gMul, e_gAdd, e_gCmp, gSub, gAddI, gFdiv, gMod,   List.map_cons, List.map_nil, List.cons_append, List.nil_append, List.append_nil, List.length_cons, List.length_nil, List.replicate, List.set_cons_succ, List.set_cons_zero, List.getElem?_cons_succ, List.getElem?_cons_zero, Nat.reduceSub, Nat.reduceAdd, if_true, if_false, Bool.false_eq_true, Bool.true_eq_false, Bool.not_true, Bool.not_false, reduceCtorEq, Nat.reduceLeDiff, h9, g.s4, dgk r1, this]
  cases rs k <;> rfl
theorem get_row (h : St L t r rs ws sv) {ρ : Row} (e : rs k = some ρ) : gDGet (.ref r) (.str k) L = .ok ρ.tup L := by
  obtain ⟨R, r1, r2⟩ := h.R
  exact gdget rfl r1 (by rw [r2.at_, e]; rfl)
theorem b1_ok (h : St L t r rs ws sv) (g : G sl t r) (h9 : sl[9]? = some (some (.str k))) (h10 : sl[10]? = some (some (.int a))) : ∃ a' L', (mIf (mAnd (mTest (mDIn false (mVar 9) (mVar 4))) (mTest (mOp (gEq false) (mCall F_law_roll [] (mCons (mVar 1) (mCons (mC (.int 2)) mNil))) (mC (.int 0))))) (mOp gIx (mOp gDGet (mVar 4) (mVar 9)) (mC (.int 0))) (mVar 10)) sl L = .ok (.int a') L' ∧ St L' t r rs ws sv := by
  have i := in_rows h g h9
  cases e : rs k with
  | none =>
    rw [e] at i
    refine ⟨a, L, ?_, h⟩
    simp only [mIf, mAnd, i, Res.bind, Option.isSome, Bool.false_eq_true, if_false]
    simp only [callF, mSeq, mIfS, mAsg, mRet, mRetN, mDrop, mOr, mAnd, mNot, mTest, mOp, mUn, mVar, mC, mCons, mNil, mBlt, mTup, mFl, mLst, mIf, mNotV, mAndV, mOrV, toB, mSkip, mBreak, mCont, mRaise, mBM, mFld, mDGet1, mDGet2, mDPut, mDDel, mDIn, mSetFld, mSetIx, mAugFld, mMeth, mCall, mMake, mDNew, mDisp, mPCons, mPNil, kvOf, keyOf, mChain, mPar, mTru, truthL, Res.bind, lift, Fl.andThen, isNon, gN, gT, gCons, gNil, Option.bind_some, gIsN, e_gEqS, e_gEq, e_gI, e_gIc, e_gMul, e_gAdd, e_gCmp, gSub, gAddI, gFdiv, gMod,   List.map_cons, List.map_nil, List.cons_append, List.nil_append, List.append_nil, List.length_cons, List.length_nil, List.replicate, List.set_cons_succ, List.set_cons_zero, List.getElem?_cons_succ, List.getElem?_cons_zero, Nat.reduceSub, Nat.reduceAdd, if_true, if_false, Bool.false_eq_true, Bool.true_eq_false, Bool.not_true, Bool.not_false, reduceCtorEq, Nat.reduceLeDiff, h10]
  | some ρ =>
    rw [e] at i
    obtain ⟨j, L1, _, _, e1, h1⟩ := roll_ex h 2
    have gr := get_row h1 e
    by_cases c : j = 0
    · refine ⟨ρ.f, L1, ?_, h1⟩
      simp only [mIf, mAnd, i, Res.bind, Option.isSome, if_true]
      simp only [callF, mSeq, mIfS, mAsg, mRet, mRetN, mDrop, mOr, mAnd, mNot, mTest, mOp, mUn, mVar, mC, mCons, mNil, mBlt, mTup, mFl, mLst, mIf, mNotV, mAndV, mOrV, toB, mSkip, mBreak, mCont, mRaise, mBM, mFld, mDGet1, mDGet2, mDPut, mDDel, mDIn, mSetFld, mSetIx, mAugFld, mMeth, mCall, mMake, mDNew, mDisp, mPCons, mPNil, kvOf, keyOf, mChain, mPar, mTru, truthL, Res.bind, lift, Fl.andThen, isNon, gN, gT, gCons, gNil, Option.bind_some, gIsN, e_gEqS, e_gEq, e_gI, e_gIc, e_gMul, e_gAdd, e_gCmp, gSub, gAddI, gFdiv, gMod,   List.map_cons, List.map_nil, List.cons_append, List.nil_append, List.append_nil, List.length_cons, List.length_nil, List.replicate, List.set_cons_succ, List.set_cons_zero, List.getElem?_cons_succ, List.getElem?_cons_zero, Nat.reduceSub, Nat.reduceAdd, if_true, if_false, Bool.false_eq_true, Bool.true_eq_false, Bool.not_true, Bool.not_false, reduceCtorEq, Nat.reduceLeDiff, g.s1, e1, c, decide_true, g.s4, h9, gr, tup0]
    · refine ⟨a, L1, ?_, h1⟩
      simp only [mIf, mAnd, i, Res.bind, Option.isSome, if_true]
      simp only [callF, mSeq, mIfS, mAsg, mRet, mRetN, mDrop, mOr, mAnd, mNot, mTest, mOp, mUn, mVar, mC, mCons, mNil, mBlt, mTup, mFl, mLst, mIf, mNotV, mAndV, mOrV, toB, mSkip, mBreak, mCont, mRaise, mBM, mFld, mDGet1, mDGet2, mDPut, mDDel, mDIn, mSetFld, mSetIx, mAugFld, mMeth, mCall, mMake, mDNew, mDisp, mPCons, mPNil, kvOf, keyOf, mChain, mPar, mTru, truthL, Res.bind, lift, Fl.andThen, isNon, gN, gT, gCons, gNil, Option.bind_some, gIsN, e_gEqS, e_gEq, e_gI, e_gIc, e_gMul, e_gAdd, e_gCmp, gSub, gAddI, gFdiv, gMod,   List.map_cons, List.map_nil, List.cons_append, List.nil_append, List.append_nil, List.length_cons, List.length_nil, List.replicate, List.set_cons_succ, List.set_cons_zero, List.getElem?_cons_succ, List.getElem?_cons_zero, Nat.reduceSub, Nat.reduceAdd, if_true, if_false, Bool.false_eq_true, Bool.true_eq_false, Bool.not_true, Bool.not_false, reduceCtorEq, Nat.reduceLeDiff, g.s1, e1, c, decide_false, h10]
theorem b2_ok (h : St L t r rs ws sv) (g : G sl t r) (h9 : sl[9]? = some (some (.str k))) : ∃ y, (mDGet2 (mVar 3) (mVar 9) (mTup (mCons (mC (.int 0)) (mCons (mC (.str "even")) mNil)))) sl L = .ok y L ∧ ∀ sl : Sl, gT 2 (gCons (gN 11) (gCons (gN 12) gNil)) y sl = some ((sl.set 11 (some (.int (wayOf (ws k)).1))).set 12 (some (.str (wayOf (ws k)).2))) := by
  obtain ⟨W, w1, w2⟩ := h.W'
  have := w2.at_ k
  cases e : ws k with
  | none =>
    rw [e] at this
    refine ⟨.tup [.int 0, .str "even"], ?_, fun sl => rfl⟩
    simp only [callF, mSeq, mIfS, mAsg, mRet, mRetN, mDrop, mOr, mAnd, mNot, mTest, mOp, mUn, mVar, mC, mCons, mNil, mBlt, mTup, mFl, mLst, mIf, mNotV, mAndV, mOrV, toB, mSkip, mBreak, mCont, mRaise, mBM, mFld, mDGet1, mDGet2, mDPut, mDDel, mDIn, mSetFld, mSetIx, mAugFld, mMeth, mCall, mMake, mDNew, mDisp, mPCons, mPNil, kvOf, keyOf, mChain, mPar, mTru, truthL, Res.bind, lift, Fl.andThen, isNon, gN, gT, gCons, gNil, Option.bind_some, gIsN, e_gEqS, e_gEq, e_gI, e_gIc, e_gMul, e_gAdd, e_gCmp, gSub, gAddI, gFdiv, gMod,   List.map_cons, List.map_nil, List.cons_append, List.nil_append, List.append_nil, List.length_cons, List.length_nil, List.replicate, List.set_cons_succ, List.set_cons_zero, List.getElem?_cons_succ, List.getElem?_cons_zero, Nat.reduceSub, Nat.reduceAdd, if_true, if_false, Bool.false_eq_true, Bool.true_eq_false, Bool.not_true, Bool.not_false, reduceCtorEq, Nat.reduceLeDiff, g.s3, e_isD w1, h9, dgk w1, this, Option.map, Option.getD]
  | some x =>
    rw [e] at this
    refine ⟨wtup x, ?_, fun sl => rfl⟩
    simp only [callF, mSeq, mIfS, mAsg, mRet, mRetN, mDrop, mOr, mAnd, mNot, mTest, mOp, mUn, mVar, mC, mCons, mNil, mBlt, mTup, mFl, mLst, mIf, mNotV, mAndV, mOrV, toB, mSkip, mBreak, mCont, mRaise, mBM, mFld, mDGet1, mDGet2, mDPut, mDDel, mDIn, mSetFld, mSetIx, mAugFld, mMeth, mCall, mMake, mDNew, mDisp, mPCons, mPNil, kvOf, keyOf, mChain, mPar, mTru, truthL, Res.bind, lift, Fl.andThen, isNon, gN, gT, gCons, gNil, Option.bind_some, gIsN, e_gEqS, e_gEq, e_gI, e_gIc, e_gMul, e_gAdd, e_gCmp, gSub, gAddI, gFdiv, gMod,   List.map_cons, List.map_nil, List.cons_append, List.nil_append, List.append_nil, List.length_cons, List.length_nil, List.replicate, List.set_cons_succ, List.set_cons_zero, List.getElem?_cons_succ, List.getElem?_cons_zero, Nat.reduceSub, Nat.reduceAdd, if_true, if_false, Bool.false_eq_true, Bool.true_eq_false, Bool.not_true, Bool.not_false, reduceCtorEq, Nat.reduceLeDiff, g.s3, e_isD w1, h9, dgk w1, this, Option.map, Option.getD]
def optV : Option Int → LV
  | none => .non
  | some x => .int x
theorem b3_ok (h : St L t r rs ws sv) (g : G sl t r) (h9 : sl[9]? = some (some (.str k))) : ∃ T, (mIf (mTest (mDIn false (mVar 9) (mVar 4))) (mCall F_law_at [] (mCons (mOp gDGet (mVar 4) (mVar 9)) (mCons (mVar 6) mNil))) (mDGet1 (mVar 5) (mVar 9))) sl L = .ok (optV (nowOf t (rs k) (sv k))) (L ++ T) := by
  have i := in_rows h g h9
  cases e : rs k with
  | none =>
    rw [e] at i
    obtain ⟨S, s1, s2⟩ := h.S
    have := s2.at_ k
    refine ⟨[], ?_⟩
    rw [List.append_nil]
    simp only [mIf, i, Res.bind, Option.isSome, Bool.false_eq_true, if_false]
    cases e2 : sv k with
    | none =>
      rw [e2] at this
      simp only [callF, mSeq, mIfS, mAsg, mRet, mRetN, mDrop, mOr, mAnd, mNot, mTest, mOp, mUn, mVar, mC, mCons, mNil, mBlt, mTup, mFl, mLst, mIf, mNotV, mAndV, mOrV, toB, mSkip, mBreak, mCont, mRaise, mBM, mFld, mDGet1, mDGet2, mDPut, mDDel, mDIn, mSetFld, mSetIx, mAugFld, mMeth, mCall, mMake, mDNew, mDisp, mPCons, mPNil, kvOf, keyOf, mChain, mPar, mTru, truthL, Res.bind, lift, Fl.andThen, isNon, gN, gT, gCons, gNil, Option.bind_some, gIsN, e_gEqS, e_gEq, e_gI, e_gIc, e_gMul, e_gAdd, e_gCmp, gSub, gAddI, gFdiv, gMod,   List.map_cons, List.map_nil, List.cons_append, List.nil_append, List.append_nil, List.length_cons, List.length_nil, List.replicate, List.set_cons_succ, List.set_cons_zero, List.getElem?_cons_succ, List.getElem?_cons_zero, Nat.reduceSub, Nat.reduceAdd, if_true, if_false, Bool.false_eq_true, Bool.true_eq_false, Bool.not_true, Bool.not_false, reduceCtorEq, Nat.reduceLeDiff, g.s5, e_isD s1, h9, dgk s1, this, Option.map, Option.getD, nowOf, optV]
    | some x =>
      rw [e2] at this
      simp only [callF, mSeq, mIfS, mAsg, mRet, mRetN, mDrop, mOr, mAnd, mNot, mTest, mOp, mUn, mVar, mC, mCons, mNil, mBlt, mTup, mFl, mLst, mIf, mNotV, mAndV, mOrV, toB, mSkip, mBreak, mCont, mRaise, mBM, mFld, mDGet1, mDGet2, mDPut, mDDel, mDIn, mSetFld, mSetIx, mAugFld, mMeth, mCall, mMake, mDNew, mDisp, mPCons, mPNil, kvOf, keyOf, mChain, mPar, mTru, truthL, Res.bind, lift, Fl.andThen, isNon, gN, gT, gCons, gNil, Option.bind_some, gIsN, e_gEqS, e_gEq, e_gI, e_gIc, e_gMul, e_gAdd, e_gCmp, gSub, gAddI, gFdiv, gMod,   List.map_cons, List.map_nil, List.cons_append, List.nil_append, List.append_nil, List.length_cons, List.length_nil, List.replicate, List.set_cons_succ, List.set_cons_zero, List.getElem?_cons_succ, List.getElem?_cons_zero, Nat.reduceSub, Nat.reduceAdd, if_true, if_false, Bool.false_eq_true, Bool.true_eq_false, Bool.not_true, Bool.not_false, reduceCtorEq, Nat.reduceLeDiff, g.s5, e_isD s1, h9, dgk s1, this, Option.map, Option.getD, nowOf, optV]
  | some ρ =>
    rw [e] at i
    have o := h.ok k ρ e
    obtain ⟨T, e2⟩ := lat_eq (L := L) (f := ρ.f) (a := ρ.a) (s := ρ.s) (l := ρ.l) (W := ρ.w) (t := t) o.w ⟨by have := o.l0; omega, o.l1⟩
    have e2 : F_law_at [ρ.tup, .int t] L = .ok (.int (ρ.val t)) (L ++ T) := e2
    refine ⟨T, ?_⟩
    simp only [mIf, i, Res.bind, Option.isSome, if_true]
    simp only [callF, mSeq, mIfS, mAsg, mRet, mRetN, mDrop, mOr, mAnd, mNot, mTest, mOp, mUn, mVar, mC, mCons, mNil, mBlt, mTup, mFl, mLst, mIf, mNotV, mAndV, mOrV, toB, mSkip, mBreak, mCont, mRaise, mBM, mFld, mDGet1, mDGet2, mDPut, mDDel, mDIn, mSetFld, mSetIx, mAugFld, mMeth, mCall, mMake, mDNew, mDisp, mPCons, mPNil, kvOf, keyOf, mChain, mPar, mTru, truthL, Res.bind, lift, Fl.andThen, isNon, gN, gT, gCons, gNil, Option.bind_some, gIsN, e_gEqS, e_gEq, e_gI, e_gIc, e_gMul, e_gAdd, e_gCmp, gSub, gAddI, gFdiv, gMod,   List.map_cons, List.map_nil, List.cons_append, List.nil_append, List.append_nil, List.length_cons, List.length_nil, List.replicate, List.set_cons_succ, List.set_cons_zero, List.getElem?_cons_succ, List.getElem?_cons_zero, Nat.reduceSub, Nat.reduceAdd, if_true, if_false, Bool.false_eq_true, Bool.true_eq_false, Bool.not_true, Bool.not_false, reduceCtorEq, Nat.reduceLeDiff, g.s4, h9, get_row h e, g.s6, e2, nowOf, optV]
theorem b4_ok (h : St L t r rs ws sv) (g : G sl t r) (h9 : sl[9]? = some (some (.str k))) (h10 : sl[10]? = some (some (.int a))) {w0 : Int} (h11 : sl[11]? = some (some (.int w0))) : ∃ sl', (mIfS (mAnd (mTest (mDIn false (mVar 9) (mVar 4))) (mTest (mOp (gEq false) (mVar 10) (mOp gIx (mOp gDGet (mVar 4) (mVar 9)) (mC (.int 0))))))
  (mAsg (mBlt fMin (mCons (mVar 11) (mCons (mOp gSub (mVar 6) (mOp gIx (mOp gDGet (mVar 4) (mVar 9)) (mC (.int 2)))) mNil))) (gN 11))
  mSkip) sl L = .next sl' L ∧ G sl' t r ∧ sl'[11]? = some (some (.int (lenOf (rs k) w0 a t))) ∧ ∀ i, i ≠ 11 → sl'[i]? = sl[i]? := by
  have i := in_rows h g h9
  cases e : rs k with
  | none =>
    rw [e] at i
    refine ⟨sl, if_f ?_, g, h11, fun _ _ => rfl⟩
    simp only [mAnd, i, Res.bind, Option.isSome, Bool.false_eq_true, if_false]
  | some ρ =>
    rw [e] at i
    have gr := get_row h e
    by_cases c : a = ρ.f
    · refine ⟨sl.set 11 (some (.int (lenOf (some ρ) w0 a t))), (if_t (L1 := L) ?_).trans ?_, g.set (by decide) _, g.self (by decide) _, fun i hi => List.getElem?_set_ne (Ne.symm hi)⟩
      · simp only [mAnd, i, Res.bind, Option.isSome, if_true]
        simp only [callF, mSeq, mIfS, mAsg, mRet, mRetN, mDrop, mOr, mAnd, mNot, mTest, mOp, mUn, mVar, mC, mCons, mNil, mBlt, mTup, mFl, mLst, mIf, mNotV, mAndV, mOrV, toB, mSkip, mBreak, mCont, mRaise, mBM, mFld, mDGet1, mDGet2, mDPut, mDDel, mDIn, mSetFld, mSetIx, mAugFld, mMeth, mCall, mMake, mDNew, mDisp, mPCons, mPNil, kvOf, keyOf, mChain, mPar, mTru, truthL, Res.bind, lift, Fl.andThen, isNon, gN, gT, gCons, gNil, Option.bind_some, gIsN, e_gEqS, e_gEq, e_gI, e_gIc, e_gMul, e_gAdd, e_gCmp, gSub, gAddI, gFdiv, gMod,   List.map_cons, List.map_nil, List.cons_append, List.nil_append, List.append_nil, List.length_cons, List.length_nil, List.replicate, List.set_cons_succ, List.set_cons_zero, List.getElem?_cons_succ, List.getElem?_cons_zero, Nat.reduceSub, Nat.reduceAdd, if_true, if_false, Bool.false_eq_true, Bool.true_eq_false, Bool.not_true, Bool.not_false, reduceCtorEq, Nat.reduceLeDiff, h10, g.s4, h9, gr, tup0, c, decide_true]
      · have : (if t - ρ.s < w0 then t - ρ.s else w0) = lenOf (some ρ) w0 a t := by
          show _ = if a = ρ.f then min w0 (t - ρ.s) else w0
          rw [if_pos c]; omega
        simp only [callF, mSeq, mIfS, mAsg, mRet, mRetN, mDrop, mOr, mAnd, mNot, mTest, mOp, mUn, mVar, mC, mCons, mNil, mBlt, mTup, mFl, mLst, mIf, mNotV, mAndV, mOrV, toB, mSkip, mBreak, mCont, mRaise, mBM, mFld, mDGet1, mDGet2, mDPut, mDDel, mDIn, mSetFld, mSetIx, mAugFld, mMeth, mCall, mMake, mDNew, mDisp, mPCons, mPNil, kvOf, keyOf, mChain, mPar, mTru, truthL, Res.bind, lift, Fl.andThen, isNon, gN, gT, gCons, gNil, Option.bind_some, gIsN, e_gEqS, e_gEq, e_gI, e_gIc, e_gMul, e_gAdd, e_gCmp, gSub, gAddI, gFdiv, gMod,   List.map_cons, List.map_nil, List.cons_append, List.nil_append, List.append_nil, List.length_cons, List.length_nil, List.replicate, List.set_cons_succ, List.set_cons_zero, List.getElem?_cons_succ, List.getElem?_cons_zero, Nat.reduceSub, Nat.reduceAdd, if_true, if_false, Bool.false_eq_true, Bool.true_eq_false, Bool.not_true, Bool.not_false, reduceCtorEq, Nat.reduceLeDiff, h11, g.s6, g.s4, h9, gr, tup2, fMin, this]
    · refine ⟨sl, if_f ?_, g, ?_, fun _ _ => rfl⟩
      · simp only [mAnd, i, Res.bind, Option.isSome, if_true]
        simp only [callF, mSeq, mIfS, mAsg, mRet, mRetN, mDrop, mOr, mAnd, mNot, mTest, mOp, mUn, mVar, mC, mCons, mNil, mBlt, mTup, mFl, mLst, mIf, mNotV, mAndV, mOrV, toB, mSkip, mBreak, mCont, mRaise, mBM, mFld, mDGet1, mDGet2, mDPut, mDDel, mDIn, mSetFld, mSetIx, mAugFld, mMeth, mCall, mMake, mDNew, mDisp, mPCons, mPNil, kvOf, keyOf, mChain, mPar, mTru, truthL, Res.bind, lift, Fl.andThen, isNon, gN, gT, gCons, gNil, Option.bind_some, gIsN, e_gEqS, e_gEq, e_gI, e_gIc, e_gMul, e_gAdd, e_gCmp, gSub, gAddI, gFdiv, gMod,   List.map_cons, List.map_nil, List.cons_append, List.nil_append, List.append_nil, List.length_cons, List.length_nil, List.replicate, List.set_cons_succ, List.set_cons_zero, List.getElem?_cons_succ, List.getElem?_cons_zero, Nat.reduceSub, Nat.reduceAdd, if_true, if_false, Bool.false_eq_true, Bool.true_eq_false, Bool.not_true, Bool.not_false, reduceCtorEq, Nat.reduceLeDiff, h10, g.s4, h9, gr, tup0, c, decide_false]
      · rw [h11]
        show _ = some (some (LV.int (if a = ρ.f then min w0 (t - ρ.s) else w0)))
        rw [if_neg c]
theorem rep0 {x : LV} : gMul (.fl [x]) (.int 0) L = .ok (.fl []) L := rfl
theorem rep1 {x : LV} : gMul (.fl [x]) (.int 1) L = .ok (.fl [x]) L := rfl
theorem b6_ok {R : List (Key × LV)} (r1 : L[r]? = some (dk R)) (r2 : Rep abc R (fun k => (rs k).map Row.tup)) (g : G sl t r) (hk : k ∈ abc) (h9 : sl[9]? = some (some (.str k))) (h10 : sl[10]? = some (some (.int a))) {len : Int} {w : Str} (h11 : sl[11]? = some (some (.int len))) (h12 : sl[12]? = some (some (.str w))) (h13 : sl[13]? = some (some (.int b))) :
    ∃ R', (mIfS (mTest (mOp (gIsN true) (mVar 13) (mC .non)))
  (mAsg (mBlt fDictP (mCons (mOp gAdd (mLock (mVar 4) (mLc (mItD (mVar 4)) (gN 14) (mTest (mOp (gEq true) (mVar 14) (mVar 9))) (mTup (mCons (mVar 14) (mCons (mOp gDGet (mVar 4) (mVar 14)) mNil))) [14])) (mOp gMul (mFl (mCons (mTup (mCons (mVar 9) (mCons (mTup (mCons (mVar 13) (mCons (mVar 10) (mCons (mVar 6) (mCons (mVar 11) (mCons (mVar 12) mNil)))))) mNil))) mNil)) (mBlt fInt (mCons (mAndV (mOp gGt (mVar 11) (mC (.int 0))) (mOp (gEq true) (mVar 13) (mVar 10))) mNil)))) mNil)) (gN 4))
  mSkip) sl L = .next (sl.set 4 (some (.ref L.length))) (L ++ [dk R']) ∧ Rep abc R' (fun x => (up1 rs k (newRow b a t len w) x).map Row.tup) := by
  have wk := rows_walk (tt := mTest (mOp (gEq true) (mVar 14) (mVar 9))) (F := fun x => !decide (x = k)) r1 r2 g fun x hx => by
    have s14 := (g.wipe14).self (i := 14) (by decide) (some (.str x))
    have s9 : ((wipeL sl [14]).set 14 (some (.str x)))[9]? = some (some (.str k)) := by
      rw [List.getElem?_set_ne (by decide)]
      show (sl.set 14 none)[9]? = _
      rw [List.getElem?_set_ne (by decide)]
      exact h9
    simp only [callF, mSeq, mIfS, mAsg, mRet, mRetN, mDrop, mOr, mAnd, mNot, mTest, mOp, mUn, mVar, mC, mCons, mNil, mBlt, mTup, mFl, mLst, mIf, mNotV, mAndV, mOrV, toB, mSkip, mBreak, mCont, mRaise, mBM, mFld, mDGet1, mDGet2, mDPut, mDDel, mDIn, mSetFld, mSetIx, mAugFld, mMeth, mCall, mMake, mDNew, mDisp, mPCons, mPNil, kvOf, keyOf, mChain, mPar, mTru, truthL, Res.bind, lift, Fl.andThen, isNon, gN, gT, gCons, gNil, Option.bind_some, gIsN, e_gEqS, e_gEq, e_gI, e_gIc, e_gMul, e_gAdd, e_gCmp, gSub, gAddI, gFdiv, gMod,   List.map_cons, List.map_nil, List.cons_append, List.nil_append, List.append_nil, List.length_cons, List.length_nil, List.replicate, List.set_cons_succ, List.set_cons_zero, List.getElem?_cons_succ, List.getElem?_cons_zero, Nat.reduceSub, Nat.reduceAdd, if_true, if_false, Bool.false_eq_true, Bool.true_eq_false, Bool.not_true, Bool.not_false, reduceCtorEq, Nat.reduceLeDiff, s14, s9]
  obtain ⟨R1, eR1⟩ : ∃ R1, R1 = R.filter (onS fun x => !decide (x = k)) := ⟨_, rfl⟩
  rw [← eR1] at wk
  have rR1 := r2.filt (onS fun x => !decide (x = k))
  rw [← eR1] at rR1
  have l1 : R1.length ≤ 3 := rR1.len
  have no : ∀ {f : Str → Option LV}, (∀ x, f x = ((rs x).map Row.tup).bind fun v => if (!decide (x = k)) = true then some v else none) → f k = none := fun hf => by
    rw [hf k]; cases rs k <;> simp
  by_cases c : 0 < len ∧ b ≠ a
  · have hn : newRow b a t len w = some ⟨b, a, t, len, w⟩ := by unfold newRow; rw [if_pos c]
    have rf := rR1.app hk (Row.tup ⟨b, a, t, len, w⟩) (no fun _ => rfl)
    have d1 : decide (0 < len) = true := decide_eq_true c.1
    have d2 : decide (b = a) = false := decide_eq_false c.2
    refine ⟨R1 ++ [(.inr k, Row.tup ⟨b, a, t, len, w⟩)], (if_t (L1 := L) (by simp only [callF, mSeq, mIfS, mAsg, mRet, mRetN, mDrop, mOr, mAnd, mNot, mTest, mOp, mUn, mVar, mC, mCons, mNil, mBlt, mTup, mFl, mLst, mIf, mNotV, mAndV, mOrV, toB, mSkip, mBreak, mCont, mRaise, mBM, mFld, mDGet1, mDGet2, mDPut, mDDel, mDIn, mSetFld, mSetIx, mAugFld, mMeth, mCall, mMake, mDNew, mDisp, mPCons, mPNil, kvOf, keyOf, mChain, mPar, mTru, truthL, Res.bind, lift, Fl.andThen, isNon, gN, gT, gCons, gNil, Option.bind_some, gIsN, e_gEqS, e_gEq, e_gI, e_gIc, e_gMul, e_gAdd, e_gCmp, gSub, gAddI, gFdiv, gMod,   List.map_cons, List.map_nil, List.cons_append, List.nil_append, List.append_nil, List.length_cons, List.length_nil, List.replicate, List.set_cons_succ, List.set_cons_zero, List.getElem?_cons_succ, List.getElem?_cons_zero, Nat.reduceSub, Nat.reduceAdd, if_true, if_false, Bool.false_eq_true, Bool.true_eq_false, Bool.not_true, Bool.not_false, reduceCtorEq, Nat.reduceLeDiff, h13])).trans ?_, rf.congr fun x => ?_⟩
    · have ad : gAdd (.fl (R1.map pr)) (.fl [.tup [.str k, .tup [.int b, .int a, .int t, .int len, .str w]]]) L = .ok (.fl ((R1 ++ [((.inr k : Key), Row.tup ⟨b, a, t, len, w⟩)]).map pr)) L := by
        simp only [gAdd, tview, lview, List.length_map]
        rw [if_pos (by simp only [List.length_cons, List.length_nil]; omega), List.map_append]
        rfl
      have dp := dictP_eq (L := L) rf.nd
      simp only [callF, mSeq, mIfS, mAsg, mRet, mRetN, mDrop, mOr, mAnd, mNot, mTest, mOp, mUn, mVar, mC, mCons, mNil, mBlt, mTup, mFl, mLst, mIf, mNotV, mAndV, mOrV, toB, mSkip, mBreak, mCont, mRaise, mBM, mFld, mDGet1, mDGet2, mDPut, mDDel, mDIn, mSetFld, mSetIx, mAugFld, mMeth, mCall, mMake, mDNew, mDisp, mPCons, mPNil, kvOf, keyOf, mChain, mPar, mTru, truthL, Res.bind, lift, Fl.andThen, isNon, gN, gT, gCons, gNil, Option.bind_some, gIsN, e_gEqS, e_gEq, e_gI, e_gIc, e_gMul, e_gAdd, e_gCmp, gSub, gAddI, gFdiv, gMod,   List.map_cons, List.map_nil, List.cons_append, List.nil_append, List.append_nil, List.length_cons, List.length_nil, List.replicate, List.set_cons_succ, List.set_cons_zero, List.getElem?_cons_succ, List.getElem?_cons_zero, Nat.reduceSub, Nat.reduceAdd, if_true, if_false, Bool.false_eq_true, Bool.true_eq_false, Bool.not_true, Bool.not_false, reduceCtorEq, Nat.reduceLeDiff, wk, h9, h13, h10, g.s6, h11, h12, d1, d2, fInt, rep1, ad, dp]
    · show (if x = k then some _ else ((rs x).map Row.tup).bind fun v => if (!decide (x = k)) = true then some v else none) = (if x = k then newRow b a t len w else rs x).map Row.tup
      by_cases z : x = k
      · rw [if_pos z, if_pos z, hn]; rfl
      · rw [if_neg z, if_neg z]; cases rs x <;> simp [z, onS]
  · have hn : newRow b a t len w = none := by unfold newRow; rw [if_neg c]
    refine ⟨R1, (if_t (L1 := L) (by simp only [callF, mSeq, mIfS, mAsg, mRet, mRetN, mDrop, mOr, mAnd, mNot, mTest, mOp, mUn, mVar, mC, mCons, mNil, mBlt, mTup, mFl, mLst, mIf, mNotV, mAndV, mOrV, toB, mSkip, mBreak, mCont, mRaise, mBM, mFld, mDGet1, mDGet2, mDPut, mDDel, mDIn, mSetFld, mSetIx, mAugFld, mMeth, mCall, mMake, mDNew, mDisp, mPCons, mPNil, kvOf, keyOf, mChain, mPar, mTru, truthL, Res.bind, lift, Fl.andThen, isNon, gN, gT, gCons, gNil, Option.bind_some, gIsN, e_gEqS, e_gEq, e_gI, e_gIc, e_gMul, e_gAdd, e_gCmp, gSub, gAddI, gFdiv, gMod,   List.map_cons, List.map_nil, List.cons_append, List.nil_append, List.append_nil, List.length_cons, List.length_nil, List.replicate, List.set_cons_succ, List.set_cons_zero, List.getElem?_cons_succ, List.getElem?_cons_zero, Nat.reduceSub, Nat.reduceAdd, if_true, if_false, Bool.false_eq_true, Bool.true_eq_false, Bool.not_true, Bool.not_false, reduceCtorEq, Nat.reduceLeDiff, h13])).trans ?_, rR1.congr fun x => ?_⟩
    · have ad : gAdd (.fl (R1.map pr)) (.fl []) L = .ok (.fl (R1.map pr)) L := by
        simp only [gAdd, tview, lview, List.length_map]
        rw [if_pos (by simp only [List.length_nil]; omega), List.append_nil]
      have dp := dictP_eq (L := L) rR1.nd
      by_cases c1 : 0 < len
      · have d1 : decide (0 < len) = true := decide_eq_true c1
        have d2 : b = a := Classical.byContradiction fun z => c ⟨c1, z⟩
        simp only [callF, mSeq, mIfS, mAsg, mRet, mRetN, mDrop, mOr, mAnd, mNot, mTest, mOp, mUn, mVar, mC, mCons, mNil, mBlt, mTup, mFl, mLst, mIf, mNotV, mAndV, mOrV, toB, mSkip, mBreak, mCont, mRaise, mBM, mFld, mDGet1, mDGet2, mDPut, mDDel, mDIn, mSetFld, mSetIx, mAugFld, mMeth, mCall, mMake, mDNew, mDisp, mPCons, mPNil, kvOf, keyOf, mChain, mPar, mTru, truthL, Res.bind, lift, Fl.andThen, isNon, gN, gT, gCons, gNil, Option.bind_some, gIsN, e_gEqS, e_gEq, e_gI, e_gIc, e_gMul, e_gAdd, e_gCmp, gSub, gAddI, gFdiv, gMod,   List.map_cons, List.map_nil, List.cons_append, List.nil_append, List.append_nil, List.length_cons, List.length_nil, List.replicate, List.set_cons_succ, List.set_cons_zero, List.getElem?_cons_succ, List.getElem?_cons_zero, Nat.reduceSub, Nat.reduceAdd, if_true, if_false, Bool.false_eq_true, Bool.true_eq_false, Bool.not_true, Bool.not_false, reduceCtorEq, Nat.reduceLeDiff, wk, h9, h13, h10, g.s6, h11, h12, d1, d2, decide_true, fInt, rep0, ad, dp]
      · have d1 : decide (0 < len) = false := decide_eq_false c1
        simp only [callF, mSeq, mIfS, mAsg, mRet, mRetN, mDrop, mOr, mAnd, mNot, mTest, mOp, mUn, mVar, mC, mCons, mNil, mBlt, mTup, mFl, mLst, mIf, mNotV, mAndV, mOrV, toB, mSkip, mBreak, mCont, mRaise, mBM, mFld, mDGet1, mDGet2, mDPut, mDDel, mDIn, mSetFld, mSetIx, mAugFld, mMeth, mCall, mMake, mDNew, mDisp, mPCons, mPNil, kvOf, keyOf, mChain, mPar, mTru, truthL, Res.bind, lift, Fl.andThen, isNon, gN, gT, gCons, gNil, Option.bind_some, gIsN, e_gEqS, e_gEq, e_gI, e_gIc, e_gMul, e_gAdd, e_gCmp, gSub, gAddI, gFdiv, gMod,   List.map_cons, List.map_nil, List.cons_append, List.nil_append, List.append_nil, List.length_cons, List.length_nil, List.replicate, List.set_cons_succ, List.set_cons_zero, List.getElem?_cons_succ, List.getElem?_cons_zero, Nat.reduceSub, Nat.reduceAdd, if_true, if_false, Bool.false_eq_true, Bool.true_eq_false, Bool.not_true, Bool.not_false, reduceCtorEq, Nat.reduceLeDiff, wk, h9, h13, h10, g.s6, h11, h12, d1, fInt, rep0, ad, dp]
    · show (((rs x).map Row.tup).bind fun v => if (!decide (x = k)) = true then some v else none) = (if x = k then newRow b a t len w else rs x).map Row.tup
      by_cases z : x = k
      · rw [if_pos z, hn]; cases rs x <;> simp [z, onS]
      · rw [if_neg z]; cases rs x <;> simp [z, onS]
end
end Q.K18
end
section
set_option Elab.async false
set_option linter.all false
set_option maxRecDepth 100000
set_option maxHeartbeats 1000000
namespace Q.K18
open PySem L2 Q
section
variable {L L' : LH} {t a b : Int} {r : Nat} {rs : Str → Option Row} {ws : Str → Option (Int × Str)} {sv : Str → Option Int} {k : Str} {sl : Sl}
theorem St.fin {L2 L3 L4 : LH} {rs' : Str → Option Row} {r' : Nat} {S R : List (Key × LV)} (h : St L2 t r rs ws sv) (hk : k ∈ abc) (K1 : Keep [2, 3] L2 L3) (V : VOK L3 rs' (up1 sv k (some a))) (P : POK L3 rs') (K2 : Keep [] L3 L4)
    (hR : L4[r']? = some (dk R)) (rR : Rep abc R (fun x => (rs' x).map Row.tup)) (hr : r' = 6 ∨ 8 ≤ r') (hS : L4[7]? = some (dk S)) (rS : Rep abc S (fun k => (sv k).map .int)) (ok : ∀ x ρ, rs' x = some ρ → RowOk t ρ (up1 sv k (some a) x)) :
    St (L4.set 7 (dk (putKL S (.inr k) (.int a)))) t r' rs' ws (up1 sv k (some a)) := by
  have K : Keep [2, 3, 7] L2 (L4.set 7 (dk (putKL S (.inr k) (.int a)))) := fun n o hn ho => by
    simp only [List.mem_cons, List.not_mem_nil, or_false, not_or] at hn
    exact at_ne (fun z => hn.2.2 z.symm) (K2 n o (by simp) (K1 n o (by simp [hn.1, hn.2.1]) ho))
  have K3 : ∀ {n o}, n ≠ 7 → L3[n]? = some o → (L4.set 7 (dk (putKL S (.inr k) (.int a))))[n]? = some o := fun {n o} hn ho => at_ne (fun z => hn z.symm) (K2 n o (by simp) ho)
  exact { d := let ⟨x, y, z, e⟩ := h.d; ⟨x, y, z, K _ _ (by decide) e⟩
          hm := K _ _ (by decide) h.hm
          V := let ⟨V, vf, a, b, c, d⟩ := V; ⟨V, vf, K3 (by decide) a, b, c, d⟩
          P := let ⟨P, pf, a, b, c, e⟩ := P; ⟨P, pf, K3 (by decide) a, b, c, fun k ρ hk => let ⟨q, q1, q2, q3⟩ := e k ρ hk; ⟨q, q1, K3 (by omega) q2, q3⟩⟩
          W := let ⟨W, a, b⟩ := h.W; ⟨W, K _ _ (by decide) a, b⟩
          W' := let ⟨W, a, b⟩ := h.W'; ⟨W, K _ _ (by decide) a, b⟩
          R := ⟨R, at_ne (by omega) hR, rR⟩
          hr := hr
          S := ⟨_, at_self (at_lt hS), (rS.put hk _).congr fun x => by
            show (if x = k then some (LV.int a) else (sv x).map .int) = (if x = k then some a else sv x).map .int
            split <;> rfl⟩
          ok := ok
          wok := h.wok }
theorem brB (h : St L t r rs ws sv) (g : G sl t r) (hk : k ∈ abc) (h9 : sl[9]? = some (some (.str k))) (h10 : sl[10]? = some (some (.int a))) : ∃ L' sl' r' rs' sv', BRB sl L = .next sl' L' ∧ G sl' t r' ∧ St L' t r' rs' ws sv' := by
  obtain ⟨a', L1, e1, h1⟩ := b1_ok h g h9 h10
  obtain ⟨s1, es1⟩ : ∃ s1, s1 = sl.set 10 (some (.int a')) := ⟨_, rfl⟩
  have g1 : G s1 t r := by rw [es1]; exact g.set (by decide) _
  have s1_9 : s1[9]? = some (some (.str k)) := by rw [es1, List.getElem?_set_ne (by decide)]; exact h9
  have s1_10 : s1[10]? = some (some (.int a')) := by rw [es1]; exact g.self (by decide) _
  obtain ⟨y, e2, gt⟩ := b2_ok h1 g1 s1_9
  obtain ⟨s2, es2⟩ : ∃ s2, s2 = (s1.set 11 (some (.int (wayOf (ws k)).1))).set 12 (some (.str (wayOf (ws k)).2)) := ⟨_, rfl⟩
  have g2' : G (s1.set 11 (some (.int (wayOf (ws k)).1))) t r := g1.set (by decide) _
  have g2 : G s2 t r := by rw [es2]; exact g2'.set (by decide) _
  have s2_9 : s2[9]? = some (some (.str k)) := by rw [es2, List.getElem?_set_ne (by decide), List.getElem?_set_ne (by decide)]; exact s1_9
  have s2_10 : s2[10]? = some (some (.int a')) := by rw [es2, List.getElem?_set_ne (by decide), List.getElem?_set_ne (by decide)]; exact s1_10
  have s2_11 : s2[11]? = some (some (.int (wayOf (ws k)).1)) := by rw [es2, List.getElem?_set_ne (by decide)]; exact g1.self (by decide) _
  have s2_12 : s2[12]? = some (some (.str (wayOf (ws k)).2)) := by rw [es2]; exact g2'.self (by decide) _
  obtain ⟨T, e3⟩ := b3_ok h1 g2 s2_9
  have h2 := h1.app T
  obtain ⟨s3, es3⟩ : ∃ s3, s3 = s2.set 13 (some (optV (nowOf t (rs k) (sv k)))) := ⟨_, rfl⟩
  have g3 : G s3 t r := by rw [es3]; exact g2.set (by decide) _
  have s3o : ∀ i, i ≠ 13 → s3[i]? = s2[i]? := fun i hi => by rw [es3, List.getElem?_set_ne (Ne.symm hi)]
  have s3_13 : s3[13]? = some (some (optV (nowOf t (rs k) (sv k)))) := by rw [es3]; exact g2.self (by decide) _
  obtain ⟨s4, e4, g4, s4_11, s4o⟩ := b4_ok h2 g3 (by rw [s3o _ (by decide)]; exact s2_9) (by rw [s3o _ (by decide)]; exact s2_10) (by rw [s3o _ (by decide)]; exact s2_11)
  have s4_9 : s4[9]? = some (some (.str k)) := by rw [s4o _ (by decide), s3o _ (by decide)]; exact s2_9
  have s4_10 : s4[10]? = some (some (.int a')) := by rw [s4o _ (by decide), s3o _ (by decide)]; exact s2_10
  have s4_12 : s4[12]? = some (some (.str (wayOf (ws k)).2)) := by rw [s4o _ (by decide), s3o _ (by decide)]; exact s2_12
  have s4_13 : s4[13]? = some (some (optV (nowOf t (rs k) (sv k)))) := by rw [s4o _ (by decide)]; exact s3_13
  obtain ⟨S, S1, S2⟩ := h2.S
  obtain ⟨R, R1, R2⟩ := h2.R
  have lS := S2.len
  simp only [abc, List.length_cons, List.length_nil] at lS
  have start : ∀ (rest : MS), (mSeq (mAsg _ (gN 10)) (mSeq (mAsg _ (gT 2 (gCons (gN 11) (gCons (gN 12) gNil)))) (mSeq (mAsg _ (gN 13)) (mSeq _ rest)))) sl L = rest s4 (L1 ++ T) := fun rest =>
    (seq_asg e1 (by rw [es1]; rfl)).trans ((seq_asg e2 ((gt s1).trans (by rw [es2]))).trans ((seq_asg e3 (by rw [es3]; rfl)).trans (seq_nx e4)))
  cases en : nowOf t (rs k) (sv k) with
  | none =>
    obtain ⟨er, ev0⟩ : rs k = none ∧ sv k = none := by
      unfold nowOf at en
      cases er : rs k with
      | none => rw [er] at en; exact ⟨rfl, en⟩
      | some ρ => rw [er] at en; cases en
    obtain ⟨L3, f1, f2, f3, f4⟩ := go_none (a := a') h2 hk er ev0
    have S3 : L3[7]? = some (dk S) := f2 _ _ (by decide) S1
    rw [en] at s4_13
    have dp := dput (L := L3) (k := .inr k) (x := .str k) (v := .int a') rfl S3 (by omega)
    refine ⟨L3.set 7 (dk (putKL S (.inr k) (.int a'))), s4, r, rs, up1 sv k (some a'), (start _).trans ?_, g4, h2.fin hk f2 f3 f4 (fun n o _ h => h) (f2 _ _ (by have := h2.hr; simp; omega) R1) R2 h2.hr S3 S2 fun x ρ hx => ?_⟩
    · simp only [callF, mSeq, mIfS, mAsg, mRet, mRetN, mDrop, mOr, mAnd, mNot, mTest, mOp, mUn, mVar, mC, mCons, mNil, mBlt, mTup, mFl, mLst, mIf, mNotV, mAndV, mOrV, toB, mSkip, mBreak, mCont, mRaise, mBM, mFld, mDGet1, mDGet2, mDPut, mDDel, mDIn, mSetFld, mSetIx, mAugFld, mMeth, mCall, mMake, mDNew, mDisp, mPCons, mPNil, kvOf, keyOf, mChain, mPar, mTru, truthL, Res.bind, lift, Fl.andThen, isNon, gN, gT, gCons, gNil, Option.bind_some, gIsN, e_gEqS, e_gEq, e_gI, e_gIc, e_gMul, e_gAdd, e_gCmp, gSub, gAddI, gFdiv, gMod,   List.map_cons, List.map_nil, List.cons_append, List.nil_append, List.append_nil, List.length_cons, List.length_nil, List.replicate, List.set_cons_succ, List.set_cons_zero, List.getElem?_cons_succ, List.getElem?_cons_zero, Nat.reduceSub, Nat.reduceAdd, if_true, if_false, Bool.false_eq_true, Bool.true_eq_false, Bool.not_true, Bool.not_false, reduceCtorEq, Nat.reduceLeDiff, g4.s2, ins_mv (z := "go_to") h2.hm, s4_9, s4_10, f1, s4_13, optV, g4.s5, dp]
    · have z : x ≠ k := fun z => by rw [z, er] at hx; cases hx
      show RowOk t ρ (if x = k then some a' else sv x)
      rw [if_neg z]
      exact h2.ok x ρ hx
  | some b =>
    obtain ⟨L3, f1, f2, f3, f4⟩ := go_ok (a := a') h2 hk en
    have S3 : L3[7]? = some (dk S) := f2 _ _ (by decide) S1
    have R3 : L3[r]? = some (dk R) := f2 _ _ (by have := h2.hr; simp; omega) R1
    rw [en] at s4_13
    obtain ⟨R', b6, b7⟩ := b6_ok R3 R2 g4 hk s4_9 s4_10 s4_11 s4_12 s4_13
    have S4 : (L3 ++ [dk R'])[7]? = some (dk S) := at_app S3
    have dp := dput (L := L3 ++ [dk R']) (k := .inr k) (x := .str k) (v := .int a') rfl S4 (by omega)
    have g5 := g4.r L3.length
    have s5_9 : (s4.set 4 (some (.ref L3.length)))[9]? = some (some (.str k)) := by rw [List.getElem?_set_ne (by decide)]; exact s4_9
    have s5_10 : (s4.set 4 (some (.ref L3.length)))[10]? = some (some (.int a')) := by rw [List.getElem?_set_ne (by decide)]; exact s4_10
    refine ⟨(L3 ++ [dk R']).set 7 (dk (putKL S (.inr k) (.int a'))), s4.set 4 (some (.ref L3.length)), L3.length, _, up1 sv k (some a'), (start _).trans ((seq_nx (L1 := L3) (sl1 := s4) ?_).trans ((seq_nx b6).trans ?_)), g5, h2.fin hk f2 f3 f4 (fun n o _ h => at_app h) (at_new rfl) b7 (.inr (by have := at_lt S3; omega)) S4 S2 fun x ρ hx => ?_⟩
    · simp only [callF, mSeq, mIfS, mAsg, mRet, mRetN, mDrop, mOr, mAnd, mNot, mTest, mOp, mUn, mVar, mC, mCons, mNil, mBlt, mTup, mFl, mLst, mIf, mNotV, mAndV, mOrV, toB, mSkip, mBreak, mCont, mRaise, mBM, mFld, mDGet1, mDGet2, mDPut, mDDel, mDIn, mSetFld, mSetIx, mAugFld, mMeth, mCall, mMake, mDNew, mDisp, mPCons, mPNil, kvOf, keyOf, mChain, mPar, mTru, truthL, Res.bind, lift, Fl.andThen, isNon, gN, gT, gCons, gNil, Option.bind_some, gIsN, e_gEqS, e_gEq, e_gI, e_gIc, e_gMul, e_gAdd, e_gCmp, gSub, gAddI, gFdiv, gMod,   List.map_cons, List.map_nil, List.cons_append, List.nil_append, List.append_nil, List.length_cons, List.length_nil, List.replicate, List.set_cons_succ, List.set_cons_zero, List.getElem?_cons_succ, List.getElem?_cons_zero, Nat.reduceSub, Nat.reduceAdd, if_true, if_false, Bool.false_eq_true, Bool.true_eq_false, Bool.not_true, Bool.not_false, reduceCtorEq, Nat.reduceLeDiff, g4.s2, ins_mv (z := "go_to") h2.hm, s4_9, s4_10, f1]
    · simp only [callF, mSeq, mIfS, mAsg, mRet, mRetN, mDrop, mOr, mAnd, mNot, mTest, mOp, mUn, mVar, mC, mCons, mNil, mBlt, mTup, mFl, mLst, mIf, mNotV, mAndV, mOrV, toB, mSkip, mBreak, mCont, mRaise, mBM, mFld, mDGet1, mDGet2, mDPut, mDDel, mDIn, mSetFld, mSetIx, mAugFld, mMeth, mCall, mMake, mDNew, mDisp, mPCons, mPNil, kvOf, keyOf, mChain, mPar, mTru, truthL, Res.bind, lift, Fl.andThen, isNon, gN, gT, gCons, gNil, Option.bind_some, gIsN, e_gEqS, e_gEq, e_gI, e_gIc, e_gMul, e_gAdd, e_gCmp, gSub, gAddI, gFdiv, gMod,   List.map_cons, List.map_nil, List.cons_append, List.nil_append, List.append_nil, List.length_cons, List.length_nil, List.replicate, List.set_cons_succ, List.set_cons_zero, List.getElem?_cons_succ, List.getElem?_cons_zero, Nat.reduceSub, Nat.reduceAdd, if_true, if_false, Bool.false_eq_true, Bool.true_eq_false, Bool.not_true, Bool.not_false, reduceCtorEq, Nat.reduceLeDiff, g5.s5, s5_9, s5_10, dp]
    · show RowOk t ρ (if x = k then some a' else sv x)
      have hx : (if x = k then newRow b a' t (lenOf (rs k) (wayOf (ws k)).1 a' t) (wayOf (ws k)).2 else rs x) = some ρ := hx
      by_cases z : x = k
      · rw [if_pos z] at hx ⊢
        unfold newRow at hx
        split at hx
        · rename_i c
          cases hx
          have w := way_ok (k := k) h2
          have l := len_le (k := k) (a := a') h2
          exact ⟨w.2.2, c.1, by show lenOf (rs k) (wayOf (ws k)).1 a' t ≤ 1000; omega, Int.le_refl _, by show t < t + lenOf (rs k) (wayOf (ws k)).1 a' t; omega, rfl⟩
        · cases hx
      · rw [if_neg z] at hx ⊢
        exact h2.ok x ρ hx
end
end Q.K18
end
section
set_option Elab.async false
set_option linter.all false
set_option maxRecDepth 100000
set_option maxHeartbeats 1000000
namespace Q.K18
open PySem L2 Q
def STEP : MS := (mSeq (mAsg (mTup (mCons (mCall F_law_roll [] (mCons (mVar 1) (mCons (mC (.int 8)) mNil))) (mCons (mOp gIx (mC (.str "abc")) (mCall F_law_roll [] (mCons (mVar 1) (mCons (mC (.int 3)) mNil)))) (mCons (mOp gSub (mCall F_law_roll [] (mCons (mVar 1) (mCons (mC (.int 200)) mNil))) (mC (.int 100))) mNil)))) (gT 3 (gCons (gN 8) (gCons (gN 9) (gCons (gN 10) gNil)))))
  (mSeq (mIfS (mTest (mOp (gEq false) (mVar 8) (mC (.int 0))))
  (mSeq (mDPut (mVar 3) (mVar 9) (mTup (mCons (mCall F_law_roll [] (mCons (mVar 1) (mCons (mC (.int 20)) mNil))) (mCons (mOp gIx (mFl (mCons (mC (.str "even")) (mCons (mC (.str "slow")) (mCons (mC (.str "fast")) (mCons (mC (.str "both")) mNil))))) (mCall F_law_roll [] (mCons (mVar 1) (mCons (mC (.int 4)) mNil)))) mNil))))
  (mDrop (mMeth i_Mover "set_way" F_Mover_set_way [] (mVar 2) (mCons (mVar 9) (mCons (mOp gIx (mOp gDGet (mVar 3) (mVar 9)) (mC (.int 0))) (mCons (mOp gIx (mOp gDGet (mVar 3) (mVar 9)) (mC (.int 1))) mNil))))))
  (mIfS (mTest (mOp gLt (mVar 8) (mC (.int 4))))
  (mSeq (mAsg (mIf (mAnd (mTest (mDIn false (mVar 9) (mVar 4))) (mTest (mOp (gEq false) (mCall F_law_roll [] (mCons (mVar 1) (mCons (mC (.int 2)) mNil))) (mC (.int 0))))) (mOp gIx (mOp gDGet (mVar 4) (mVar 9)) (mC (.int 0))) (mVar 10)) (gN 10))
  (mSeq (mAsg (mDGet2 (mVar 3) (mVar 9) (mTup (mCons (mC (.int 0)) (mCons (mC (.str "even")) mNil)))) (gT 2 (gCons (gN 11) (gCons (gN 12) gNil))))
  (mSeq (mAsg (mIf (mTest (mDIn false (mVar 9) (mVar 4))) (mCall F_law_at [] (mCons (mOp gDGet (mVar 4) (mVar 9)) (mCons (mVar 6) mNil))) (mDGet1 (mVar 5) (mVar 9))) (gN 13))
  (mSeq (mIfS (mAnd (mTest (mDIn false (mVar 9) (mVar 4))) (mTest (mOp (gEq false) (mVar 10) (mOp gIx (mOp gDGet (mVar 4) (mVar 9)) (mC (.int 0))))))
  (mAsg (mBlt fMin (mCons (mVar 11) (mCons (mOp gSub (mVar 6) (mOp gIx (mOp gDGet (mVar 4) (mVar 9)) (mC (.int 2)))) mNil))) (gN 11))
  mSkip)
  (mSeq (mDrop (mMeth i_Mover "go_to" F_Mover_go_to [] (mVar 2) (mCons (mVar 9) (mCons (mVar 10) mNil))))
  (mSeq (mIfS (mTest (mOp (gIsN true) (mVar 13) (mC .non)))
  (mAsg (mBlt fDictP (mCons (mOp gAdd (mLock (mVar 4) (mLc (mItD (mVar 4)) (gN 14) (mTest (mOp (gEq true) (mVar 14) (mVar 9))) (mTup (mCons (mVar 14) (mCons (mOp gDGet (mVar 4) (mVar 14)) mNil))) [14])) (mOp gMul (mFl (mCons (mTup (mCons (mVar 9) (mCons (mTup (mCons (mVar 13) (mCons (mVar 10) (mCons (mVar 6) (mCons (mVar 11) (mCons (mVar 12) mNil)))))) mNil))) mNil)) (mBlt fInt (mCons (mAndV (mOp gGt (mVar 11) (mC (.int 0))) (mOp (gEq true) (mVar 13) (mVar 10))) mNil)))) mNil)) (gN 4))
  mSkip)
  (mDPut (mVar 5) (mVar 9) (mVar 10))))))))
  (mSeq (mAsg (mOp gAdd (mC (.int 1)) (mCall F_law_roll [] (mCons (mVar 1) (mCons (mC (.int 6)) mNil)))) (gN 15))
  (mSeq (mAsg (mOp gAdd (mVar 6) (mVar 15)) (gN 6))
  (mSeq (mAsg (mLc (mIt (mBlt fSortD (mCons (mVar 4) mNil))) (gN 14) (mTest (mOp gGe (mVar 6) (mOp gAdd (mOp gIx (mOp gDGet (mVar 4) (mVar 14)) (mC (.int 2))) (mOp gIx (mOp gDGet (mVar 4) (mVar 14)) (mC (.int 3)))))) (mVar 14) [14]) (gN 16))
  (mSeq (mIfS (mTest (mOp (gEq true) (mMeth i_Mover "tick" F_Mover_tick [] (mVar 2) (mCons (mVar 15) mNil)) (mBlt fTuple (mCons (mVar 16) mNil))))
  (mRet (mC (.bl false)))
  mSkip)
  (mAsg (mBlt fDictP (mCons (mLock (mVar 4) (mLc (mItD (mVar 4)) (gN 14) (mTest (mOp (gIn true) (mVar 14) (mVar 16))) (mTup (mCons (mVar 14) (mCons (mOp gDGet (mVar 4) (mVar 14)) mNil))) [14])) mNil)) (gN 4))))))))
  (mSeq (mIfS (mTest (mOp (gEq true) (mMeth i_Mover "moving" F_Mover_moving [] (mVar 2) mNil) (mBlt fTuple (mCons (mBlt fSortD (mCons (mVar 4) mNil)) mNil))))
  (mRet (mC (.bl false)))
  mSkip)
  (mLockS (mVar 5) (mFor (mItD (mVar 5)) (gN 14)
  (mSeq (mAsg (mIf (mTest (mDIn false (mVar 14) (mVar 4))) (mCall F_law_at [] (mCons (mOp gDGet (mVar 4) (mVar 14)) (mCons (mVar 6) mNil))) (mOp gDGet (mVar 5) (mVar 14))) (gN 17))
  (mIfS (mOr (mTest (mOp (gEq true) (mMeth i_Mover "value_now" F_Mover_value_now [] (mVar 2) (mCons (mVar 14) mNil)) (mVar 17))) (mAnd (mTest (mDIn false (mVar 14) (mVar 4))) (mNot (mTest (mChain gLe gLe (mBlt fMin (mCons (mOp gIx (mOp gDGet (mVar 4) (mVar 14)) (mC (.int 0))) (mCons (mOp gIx (mOp gDGet (mVar 4) (mVar 14)) (mC (.int 1))) mNil))) (mVar 17) (mBlt fMax (mCons (mOp gIx (mOp gDGet (mVar 4) (mVar 14)) (mC (.int 0))) (mCons (mOp gIx (mOp gDGet (mVar 4) (mVar 14)) (mC (.int 1))) mNil))))))))
  (mRet (mC (.bl false)))
  mSkip)))))))
section
variable {L L' : LH} {t a b : Int} {r : Nat} {rs : Str → Option Row} {ws : Str → Option (Int × Str)} {sv : Str → Option Int} {k : Str} {sl : Sl}
def Std (L : LH) (sl : Sl) : Prop := ∃ t r rs ws sv, G sl t r ∧ St L t r rs ws sv
theorem name_ix {i : Int} (h0 : 0 ≤ i) (h1 : i < 3) : ∃ k, k ∈ abc ∧ ∀ L, gIx (.str "abc") (.int i) L = .ok (.str k) L := by
  have : i = 0 ∨ i = 1 ∨ i = 2 := by omega
  rcases this with rfl | rfl | rfl
  · exact ⟨"a", by simp [abc], fun _ => rfl⟩
  · exact ⟨"b", by simp [abc], fun _ => rfl⟩
  · exact ⟨"c", by simp [abc], fun _ => rfl⟩
theorem step_ok (H : Std L sl) : ∃ L' sl', STEP sl L = .next sl' L' ∧ Std L' sl' := by
  obtain ⟨t, r, rs, ws, sv, g, h⟩ := H
  obtain ⟨i, L1, i0, i1, e1, h1⟩ := roll_ex h 8
  obtain ⟨j, L2, j0, j1, e2, h2⟩ := roll_ex h1 3
  obtain ⟨c, L3, c0, c1, e3, h3⟩ := roll_ex h2 200
  obtain ⟨k, hk, ek⟩ := name_ix j0 j1
  obtain ⟨s1, es1⟩ : ∃ s1, s1 = ((sl.set 8 (some (.int i))).set 9 (some (.str k))).set 10 (some (.int (c - 100))) := ⟨_, rfl⟩
  have ga := g.set (i := 8) (by decide) (some (.int i))
  have gb := ga.set (i := 9) (by decide) (some (.str k))
  have g1 : G s1 t r := by rw [es1]; exact gb.set (by decide) _
  have s8 : s1[8]? = some (some (.int i)) := by rw [es1, List.getElem?_set_ne (by decide), List.getElem?_set_ne (by decide)]; exact g.self (by decide) _
  have s9 : s1[9]? = some (some (.str k)) := by rw [es1, List.getElem?_set_ne (by decide)]; exact ga.self (by decide) _
  have s10 : s1[10]? = some (some (.int (c - 100))) := by rw [es1]; exact gb.self (by decide) _
  have a1 : mAsg (mTup (mCons (mCall F_law_roll [] (mCons (mVar 1) (mCons (mC (.int 8)) mNil))) (mCons (mOp gIx (mC (.str "abc")) (mCall F_law_roll [] (mCons (mVar 1) (mCons (mC (.int 3)) mNil)))) (mCons (mOp gSub (mCall F_law_roll [] (mCons (mVar 1) (mCons (mC (.int 200)) mNil))) (mC (.int 100))) mNil)))) (gT 3 (gCons (gN 8) (gCons (gN 9) (gCons (gN 10) gNil)))) sl L = .next s1 L3 := by
    have l3 : ∀ a b c : LV, [a, b, c].length = 3 := fun _ _ _ => rfl
    simp only [callF, mSeq, mIfS, mAsg, mRet, mRetN, mDrop, mOr, mAnd, mNot, mTest, mOp, mUn, mVar, mC, mCons, mNil, mBlt, mTup, mFl, mLst, mIf, mNotV, mAndV, mOrV, toB, mSkip, mBreak, mCont, mRaise, mBM, mFld, mDGet1, mDGet2, mDPut, mDDel, mDIn, mSetFld, mSetIx, mAugFld, mMeth, mCall, mMake, mDNew, mDisp, mPCons, mPNil, kvOf, keyOf, mChain, mPar, mTru, truthL, Res.bind, lift, Fl.andThen, isNon, gN, gT, gCons, gNil, Option.bind_some, gIsN, e_gEqS, e_gEq, e_gI, e_gIc, e_gMul, e_gAdd, e_gCmp, gSub, gAddI, gFdiv, gMod,   List.map_cons, List.map_nil, List.cons_append, List.nil_append, List.append_nil, List.length_cons, List.length_nil, List.replicate, List.set_cons_succ, List.set_cons_zero, List.getElem?_cons_succ, List.getElem?_cons_zero, Nat.reduceSub, Nat.reduceAdd, if_true, if_false, Bool.false_eq_true, Bool.true_eq_false, Bool.not_true, Bool.not_false, reduceCtorEq, Nat.reduceLeDiff, g.s1, e1, e2, ek, e3, l3, es1]
  have t1 : mTest (mOp (gEq false) (mVar 8) (mC (.int 0))) s1 L3 = .ok (decide (i = 0)) L3 := by simp only [callF, mSeq, mIfS, mAsg, mRet, mRetN, mDrop, mOr, mAnd, mNot, mTest, mOp, mUn, mVar, mC, mCons, mNil, mBlt, mTup, mFl, mLst, mIf, mNotV, mAndV, mOrV, toB, mSkip, mBreak, mCont, mRaise, mBM, mFld, mDGet1, mDGet2, mDPut, mDDel, mDIn, mSetFld, mSetIx, mAugFld, mMeth, mCall, mMake, mDNew, mDisp, mPCons, mPNil, kvOf, keyOf, mChain, mPar, mTru, truthL, Res.bind, lift, Fl.andThen, isNon, gN, gT, gCons, gNil, Option.bind_some, gIsN, e_gEqS, e_gEq, e_gI, e_gIc, e_gMul, e_gAdd, e_gCmp, gSub, gAddI, gFdiv, gMod,   List.map_cons, List.map_nil, List.cons_append, List.nil_append, List.append_nil, List.length_cons, List.length_nil, List.replicate, List.set_cons_succ, List.set_cons_zero, List.getElem?_cons_succ, List.getElem?_cons_zero, Nat.reduceSub, Nat.reduceAdd, if_true, if_false, Bool.false_eq_true, Bool.true_eq_false, Bool.not_true, Bool.not_false, reduceCtorEq, Nat.reduceLeDiff, s8]
  have t2 : mTest (mOp gLt (mVar 8) (mC (.int 4))) s1 L3 = .ok (decide (i < 4)) L3 := by simp only [callF, mSeq, mIfS, mAsg, mRet, mRetN, mDrop, mOr, mAnd, mNot, mTest, mOp, mUn, mVar, mC, mCons, mNil, mBlt, mTup, mFl, mLst, mIf, mNotV, mAndV, mOrV, toB, mSkip, mBreak, mCont, mRaise, mBM, mFld, mDGet1, mDGet2, mDPut, mDDel, mDIn, mSetFld, mSetIx, mAugFld, mMeth, mCall, mMake, mDNew, mDisp, mPCons, mPNil, kvOf, keyOf, mChain, mPar, mTru, truthL, Res.bind, lift, Fl.andThen, isNon, gN, gT, gCons, gNil, Option.bind_some, gIsN, e_gEqS, e_gEq, e_gI, e_gIc, e_gMul, e_gAdd, e_gCmp, gSub, gAddI, gFdiv, gMod,   List.map_cons, List.map_nil, List.cons_append, List.nil_append, List.append_nil, List.length_cons, List.length_nil, List.replicate, List.set_cons_succ, List.set_cons_zero, List.getElem?_cons_succ, List.getElem?_cons_zero, Nat.reduceSub, Nat.reduceAdd, if_true, if_false, Bool.false_eq_true, Bool.true_eq_false, Bool.not_true, Bool.not_false, reduceCtorEq, Nat.reduceLeDiff, s8]
  have fin : ∀ {f : MS}, (∃ L' sl' t' r' rs' ws' sv', f s1 L3 = .next sl' L' ∧ G sl' t' r' ∧ St L' t' r' rs' ws' sv') → ∃ L' sl', mSeq f BRD s1 L3 = .next sl' L' ∧ Std L' sl' := fun {f} ⟨L4, s4, t', r', rs', ws', sv', z1, z2, z3⟩ => by
    obtain ⟨L5, s5, y1, y2, y3⟩ := brD z3 z2
    exact ⟨L5, s5, (seq_nx z1).trans y1, t', r', rs', ws', sv', y2, y3⟩
  have bod : ∃ L' sl' t' r' rs' ws' sv', mIfS (mTest (mOp (gEq false) (mVar 8) (mC (.int 0)))) BRA (mIfS (mTest (mOp gLt (mVar 8) (mC (.int 4)))) BRB BRC) s1 L3 = .next sl' L' ∧ G sl' t' r' ∧ St L' t' r' rs' ws' sv' := by
    by_cases c1 : i = 0
    · rw [decide_eq_true c1] at t1
      obtain ⟨L', ws', x1, x2⟩ := brA h3 g1 s9 hk
      exact ⟨L', s1, t, r, rs, ws', sv, (if_t t1).trans x1, g1, x2⟩
    · rw [decide_eq_false c1] at t1
      by_cases c2 : i < 4
      · rw [decide_eq_true c2] at t2
        obtain ⟨L', sl', r', rs', sv', x1, x2, x3⟩ := brB h3 g1 hk s9 s10
        exact ⟨L', sl', t, r', rs', ws, sv', (if_f t1).trans ((if_t t2).trans x1), x2, x3⟩
      · rw [decide_eq_false c2] at t2
        obtain ⟨L', sl', t', r', rs', x1, x2, x3⟩ := brC h3 g1
        exact ⟨L', sl', t', r', rs', ws, sv, (if_f t1).trans ((if_f t2).trans x1), x2, x3⟩
  obtain ⟨L', sl', x1, x2⟩ := fin bod
  exact ⟨L', sl', (seq_nx a1).trans x1, x2⟩
end
end Q.K18
end
section
set_option Elab.async false
set_option linter.all false
set_option maxRecDepth 100000
set_option maxHeartbeats 1000000
namespace Q.K18
open PySem L2 Q
def MOM : MS := (mIfS (mOr (mTest (mOp (gEq true) (mMeth i_Path "value_at" F_Path_value_at [] (mVar 19) (mCons (mVar 20) mNil)) (mCall F_law_at [] (mCons (mVar 18) (mCons (mVar 20) mNil))))) (mTest (mOp (gEq true) (mMeth i_Path "is_over" F_Path_is_over [] (mVar 19) (mCons (mVar 20) mNil)) (mOp gGe (mVar 20) (mOp gAdd (mOp gIx (mVar 18) (mC (.int 2))) (mOp gIx (mVar 18) (mC (.int 3))))))))
  (mRet (mC (.bl false)))
  mSkip)
def SHARES : MS := (mIfS (mTest (mOp gGt (mOp gIx (mVar 18) (mC (.int 3))) (mC (.int 0))))
  (mSeq (mAsg (mLc (mI range1 (mCons (mOp gAdd (mOp gIx (mVar 18) (mC (.int 3))) (mC (.int 1))) mNil)) (gN 24) mYes (mCall F_share_of [] (mCons (mVar 24) (mCons (mOp gIx (mVar 18) (mC (.int 3))) (mCons (mOp gIx (mVar 18) (mC (.int 4))) mNil)))) [24]) (gN 21))
  (mIfS (mOr (mTest (mOp (gEq true) (mLc (mI range1 (mCons (mOp gIx (mVar 18) (mC (.int 3))) mNil)) (gN 26) (mTest (mOp gGt (mOp gMul (mOp gIx (mOp gIx (mVar 21) (mVar 26)) (mC (.int 0))) (mOp gIx (mOp gIx (mVar 21) (mOp gAdd (mVar 26) (mC (.int 1)))) (mC (.int 1)))) (mOp gMul (mOp gIx (mOp gIx (mVar 21) (mOp gAdd (mVar 26) (mC (.int 1)))) (mC (.int 0))) (mOp gIx (mOp gIx (mVar 21) (mVar 26)) (mC (.int 1)))))) (mVar 26) [26]) (mFl mNil))) (mOr (mTest (mOp (gEq true) (mOp gIx (mOp gIx (mVar 21) (mC (.int 0))) (mC (.int 0))) (mC (.int 0)))) (mTest (mOp (gEq true) (mOp gIx (mOp gIx (mVar 21) (mOp gIx (mVar 18) (mC (.int 3)))) (mC (.int 0))) (mOp gIx (mOp gIx (mVar 21) (mOp gIx (mVar 18) (mC (.int 3)))) (mC (.int 1)))))))
  (mRet (mC (.bl false)))
  mSkip))
  mSkip)
def PATH : MS := (mSeq (mAsg (mTup (mCons (mOp gSub (mCall F_law_roll [] (mCons (mVar 1) (mCons (mC (.int 50)) mNil))) (mC (.int 25))) (mCons (mOp gSub (mCall F_law_roll [] (mCons (mVar 1) (mCons (mC (.int 50)) mNil))) (mC (.int 25))) (mCons (mCall F_law_roll [] (mCons (mVar 1) (mCons (mC (.int 9)) mNil))) (mCons (mCall F_law_roll [] (mCons (mVar 1) (mCons (mC (.int 30)) mNil))) (mCons (mOp gIx (mFl (mCons (mC (.str "even")) (mCons (mC (.str "slow")) (mCons (mC (.str "fast")) (mCons (mC (.str "both")) mNil))))) (mCall F_law_roll [] (mCons (mVar 1) (mCons (mC (.int 4)) mNil)))) mNil)))))) (gN 18))
  (mSeq (mAsg (mMake i_Path F_Path_init [] (mCons (mOp gIx (mVar 18) (mC (.int 0))) (mCons (mOp gIx (mVar 18) (mC (.int 1))) (mCons (mOp gIx (mVar 18) (mC (.int 2))) (mCons (mOp gIx (mVar 18) (mC (.int 3))) (mCons (mOp gIx (mVar 18) (mC (.int 4))) mNil)))))) (gN 19))
  (mSeq (mFor (mI range1 (mCons (mC (.int 45)) mNil)) (gN 20)
  (mIfS (mOr (mTest (mOp (gEq true) (mMeth i_Path "value_at" F_Path_value_at [] (mVar 19) (mCons (mVar 20) mNil)) (mCall F_law_at [] (mCons (mVar 18) (mCons (mVar 20) mNil))))) (mTest (mOp (gEq true) (mMeth i_Path "is_over" F_Path_is_over [] (mVar 19) (mCons (mVar 20) mNil)) (mOp gGe (mVar 20) (mOp gAdd (mOp gIx (mVar 18) (mC (.int 2))) (mOp gIx (mVar 18) (mC (.int 3))))))))
  (mRet (mC (.bl false)))
  mSkip))
  (mIfS (mTest (mOp gGt (mOp gIx (mVar 18) (mC (.int 3))) (mC (.int 0))))
  (mSeq (mAsg (mLc (mI range1 (mCons (mOp gAdd (mOp gIx (mVar 18) (mC (.int 3))) (mC (.int 1))) mNil)) (gN 24) mYes (mCall F_share_of [] (mCons (mVar 24) (mCons (mOp gIx (mVar 18) (mC (.int 3))) (mCons (mOp gIx (mVar 18) (mC (.int 4))) mNil)))) [24]) (gN 21))
  (mIfS (mOr (mTest (mOp (gEq true) (mLc (mI range1 (mCons (mOp gIx (mVar 18) (mC (.int 3))) mNil)) (gN 26) (mTest (mOp gGt (mOp gMul (mOp gIx (mOp gIx (mVar 21) (mVar 26)) (mC (.int 0))) (mOp gIx (mOp gIx (mVar 21) (mOp gAdd (mVar 26) (mC (.int 1)))) (mC (.int 1)))) (mOp gMul (mOp gIx (mOp gIx (mVar 21) (mOp gAdd (mVar 26) (mC (.int 1)))) (mC (.int 0))) (mOp gIx (mOp gIx (mVar 21) (mVar 26)) (mC (.int 1)))))) (mVar 26) [26]) (mFl mNil))) (mOr (mTest (mOp (gEq true) (mOp gIx (mOp gIx (mVar 21) (mC (.int 0))) (mC (.int 0))) (mC (.int 0)))) (mTest (mOp (gEq true) (mOp gIx (mOp gIx (mVar 21) (mOp gIx (mVar 18) (mC (.int 3)))) (mC (.int 0))) (mOp gIx (mOp gIx (mVar 21) (mOp gIx (mVar 18) (mC (.int 3)))) (mC (.int 1)))))))
  (mRet (mC (.bl false)))
  mSkip))
  mSkip))))
section
variable {L L' : LH} {t a b : Int} {sl : Sl} {ρ : Row} {q : Nat}
theorem tup4 : gIx ρ.tup (.int 4) L = .ok (.str ρ.w) L := rfl
theorem atI_nat {α : Type} {xs : List α} {n : Nat} {y : α} {i : Int} (h : xs[n]? = some y) (e : i = n) : atI xs i = some y := by
  subst e
  have hl := (List.getElem?_eq_some_iff.mp h).1
  unfold atI ixN
  rw [if_pos (by omega), if_pos (by omega)]
  simpa using h
theorem ix_fl {xs : List LV} {n : Nat} {y : LV} {i : Int} (h : xs[n]? = some y) (e : i = n) : gIx (.fl xs) (.int i) L = .ok y L := by
  simp only [gIx, tview, lviewR, lview, atI_nat h e]
theorem mom_ok (hq : L[q]? = some ρ.pa) (hw : ρ.w ∈ WS4) (hl : small ρ.l) (h18 : sl[18]? = some (some ρ.tup)) (h19 : sl[19]? = some (some (.ref q))) (h20 : sl[20]? = some (some (.int t))) : ∃ T, MOM sl L = .next sl (L ++ T) := by
  obtain ⟨T, e⟩ := lat_eq (L := L) (f := ρ.f) (a := ρ.a) (s := ρ.s) (l := ρ.l) (W := ρ.w) (t := t) hw hl
  have e : F_law_at [ρ.tup, .int t] L = .ok (.int (ρ.val t)) (L ++ T) := e
  have v := value_eq (t := t) hq hl
  have hq2 := at_app (t := T) hq
  have o := over_eq (t := t) hq2
  refine ⟨T, ?_⟩
  unfold MOM
  refine if_f ?_
  have eb : ∀ x : Bool, gEq true (.bl x) (.bl x) (L ++ T) = .ok (.bl false) (L ++ T) := fun x => by cases x <;> rfl
  simp only [callF, mSeq, mIfS, mAsg, mRet, mRetN, mDrop, mOr, mAnd, mNot, mTest, mOp, mUn, mVar, mC, mCons, mNil, mBlt, mTup, mFl, mLst, mIf, mNotV, mAndV, mOrV, toB, mSkip, mBreak, mCont, mRaise, mBM, mFld, mDGet1, mDGet2, mDPut, mDDel, mDIn, mSetFld, mSetIx, mAugFld, mMeth, mCall, mMake, mDNew, mDisp, mPCons, mPNil, kvOf, keyOf, mChain, mPar, mTru, truthL, Res.bind, lift, Fl.andThen, isNon, gN, gT, gCons, gNil, Option.bind_some, gIsN, e_gEqS, e_gEq, e_gI, e_gIc, e_gMul, e_gAdd, e_gCmp, gSub, gAddI, gFdiv, gMod,   List.map_cons, List.map_nil, List.cons_append, List.nil_append, List.append_nil, List.length_cons, List.length_nil, List.replicate, List.set_cons_succ, List.set_cons_zero, List.getElem?_cons_succ, List.getElem?_cons_zero, Nat.reduceSub, Nat.reduceAdd, if_true, if_false, Bool.false_eq_true, Bool.true_eq_false, Bool.not_true, Bool.not_false, reduceCtorEq, Nat.reduceLeDiff, h19, ins_pa (z := "value_at") hq, h20, v, h18, e, decide_true, ins_pa (z := "is_over") hq2, o, tup2, tup3, eb]
abbrev shV (ρ : Row) (g : Nat) : LV := .tup [.int (shn ρ.w g ρ.l), .int (shd ρ.w ρ.l)]
theorem shn_0 (w : Str) (l : Int) (h : 0 < l) : shn w 0 l = 0 := by
  unfold shn
  split
  · rfl
  · split
    · rfl
    · split
      · rw [Int.sub_zero, Int.sub_self]
      · rw [if_pos (by omega)]; rfl
theorem shn_l (w : Str) (l : Int) (h : 0 < l) : shn w l l = shd w l := by
  unfold shn shd
  split
  · rfl
  · split
    · rfl
    · split
      · rw [Int.sub_self]; omega
      · rw [if_neg (by omega), Int.sub_self]; omega
theorem shares_ok (hw : ρ.w ∈ WS4) (h0 : 0 ≤ ρ.l) (h1 : ρ.l < 30) (hn : sl.length = 27) (h18 : sl[18]? = some (some ρ.tup)) : ∃ sl', SHARES sl L = .next sl' L ∧ sl'.length = 27 := by
  by_cases c : 0 < ρ.l
  · obtain ⟨n, en⟩ : ∃ n : Nat, ρ.l = n := ⟨ρ.l.toNat, by omega⟩
    have t1 : mTest (mOp gGt (mOp gIx (mVar 18) (mC (.int 3))) (mC (.int 0))) sl L = .ok true L := by simp only [callF, mSeq, mIfS, mAsg, mRet, mRetN, mDrop, mOr, mAnd, mNot, mTest, mOp, mUn, mVar, mC, mCons, mNil, mBlt, mTup, mFl, mLst, mIf, mNotV, mAndV, mOrV, toB, mSkip, mBreak, mCont, mRaise, mBM, mFld, mDGet1, mDGet2, mDPut, mDDel, mDIn, mSetFld, mSetIx, mAugFld, mMeth, mCall, mMake, mDNew, mDisp, mPCons, mPNil, kvOf, keyOf, mChain, mPar, mTru, truthL, Res.bind, lift, Fl.andThen, isNon, gN, gT, gCons, gNil, Option.bind_some, gIsN, e_gEqS, e_gEq, e_gI, e_gIc, e_gMul, e_gAdd, e_gCmp, gSub, gAddI, gFdiv, gMod,   List.map_cons, List.map_nil, List.cons_append, List.nil_append, List.append_nil, List.length_cons, List.length_nil, List.replicate, List.set_cons_succ, List.set_cons_zero, List.getElem?_cons_succ, List.getElem?_cons_zero, Nat.reduceSub, Nat.reduceAdd, if_true, if_false, Bool.false_eq_true, Bool.true_eq_false, Bool.not_true, Bool.not_false, reduceCtorEq, Nat.reduceLeDiff, h18, tup3, decide_eq_true c]
    have it1 : mI range1 (mCons (mOp gAdd (mOp gIx (mVar 18) (mC (.int 3))) (mC (.int 1))) mNil) sl L = .ok (itR 0 (n + 1)) L := by
      have : range1 [.int (ρ.l + 1)] L = .ok (itR 0 (n + 1)) L := by rw [range1_ok (by omega) (by omega)]; congr 2; omega
      simp only [callF, mSeq, mIfS, mAsg, mRet, mRetN, mDrop, mOr, mAnd, mNot, mTest, mOp, mUn, mVar, mC, mCons, mNil, mBlt, mTup, mFl, mLst, mIf, mNotV, mAndV, mOrV, toB, mSkip, mBreak, mCont, mRaise, mBM, mFld, mDGet1, mDGet2, mDPut, mDDel, mDIn, mSetFld, mSetIx, mAugFld, mMeth, mCall, mMake, mDNew, mDisp, mPCons, mPNil, kvOf, keyOf, mChain, mPar, mTru, truthL, Res.bind, lift, Fl.andThen, isNon, gN, gT, gCons, gNil, Option.bind_some, gIsN, e_gEqS, e_gEq, e_gI, e_gIc, e_gMul, e_gAdd, e_gCmp, gSub, gAddI, gFdiv, gMod,   List.map_cons, List.map_nil, List.cons_append, List.nil_append, List.append_nil, List.length_cons, List.length_nil, List.replicate, List.set_cons_succ, List.set_cons_zero, List.getElem?_cons_succ, List.getElem?_cons_zero, Nat.reduceSub, Nat.reduceAdd, if_true, if_false, Bool.false_eq_true, Bool.true_eq_false, Bool.not_true, Bool.not_false, reduceCtorEq, Nat.reduceLeDiff, mI, h18, tup3, this]
    obtain ⟨S, eS⟩ : ∃ S, S = (List.range (n + 1)).map (shV ρ) := ⟨_, rfl⟩
    have hS : ∀ i : Nat, i ≤ n → S[i]? = some (shV ρ i) := fun i hi => by rw [eS, List.getElem?_map, List.getElem?_range (by omega)]; rfl
    have a1 : (mLc (mI range1 (mCons (mOp gAdd (mOp gIx (mVar 18) (mC (.int 3))) (mC (.int 1))) mNil)) (gN 24) mYes (mCall F_share_of [] (mCons (mVar 24) (mCons (mOp gIx (mVar 18) (mC (.int 3))) (mCons (mOp gIx (mVar 18) (mC (.int 4))) mNil)))) [24]) sl L = .ok (.fl S) L := by
      unfold mLc
      rw [it1]
      simp only [Res.bind]
      rw [lc_pure (xs := List.range (n + 1)) (fun i => .int i) (fun _ => true) (shV ρ) (fun i => by
        simp only [itR, Int.zero_add]
        by_cases z : i < n + 1
        · rw [if_pos z, List.getElem?_range z]; rfl
        · rw [if_neg z, List.getElem?_eq_none (by simp; omega)]; rfl) (by simp; omega) fun i hi => ?_, List.filter_eq_self.mpr (fun _ _ => rfl), eS]
      have hi := List.mem_range.mp hi
      have s24 : ((wipeL sl [24]).set 24 (some (.int i)))[24]? = some (some (.int i)) := List.getElem?_set_self (by show 24 < (sl.set 24 none).length; rw [List.length_set, hn]; decide)
      have s18 : ((wipeL sl [24]).set 24 (some (.int i)))[18]? = some (some ρ.tup) := by
        rw [List.getElem?_set_ne (by decide)]
        show (sl.set 24 none)[18]? = _
        rw [List.getElem?_set_ne (by decide)]
        exact h18
      have sh := share_eq (L := L) (W := ρ.w) (g := i) (l := ρ.l) (by omega) (by omega) (by omega)
      exact ⟨_, rfl, rfl, fun _ => by simp only [callF, mSeq, mIfS, mAsg, mRet, mRetN, mDrop, mOr, mAnd, mNot, mTest, mOp, mUn, mVar, mC, mCons, mNil, mBlt, mTup, mFl, mLst, mIf, mNotV, mAndV, mOrV, toB, mSkip, mBreak, mCont, mRaise, mBM, mFld, mDGet1, mDGet2, mDPut, mDDel, mDIn, mSetFld, mSetIx, mAugFld, mMeth, mCall, mMake, mDNew, mDisp, mPCons, mPNil, kvOf, keyOf, mChain, mPar, mTru, truthL, Res.bind, lift, Fl.andThen, isNon, gN, gT, gCons, gNil, Option.bind_some, gIsN, e_gEqS, e_gEq, e_gI, e_gIc, e_gMul, e_gAdd, e_gCmp, gSub, gAddI, gFdiv, gMod,   List.map_cons, List.map_nil, List.cons_append, List.nil_append, List.append_nil, List.length_cons, List.length_nil, List.replicate, List.set_cons_succ, List.set_cons_zero, List.getElem?_cons_succ, List.getElem?_cons_zero, Nat.reduceSub, Nat.reduceAdd, if_true, if_false, Bool.false_eq_true, Bool.true_eq_false, Bool.not_true, Bool.not_false, reduceCtorEq, Nat.reduceLeDiff, s24, s18, tup3, tup4, sh]⟩
    obtain ⟨s2, es2⟩ : ∃ s2, s2 = sl.set 21 (some (.fl S)) := ⟨_, rfl⟩
    have n2 : s2.length = 27 := by rw [es2, List.length_set, hn]
    have s18 : s2[18]? = some (some ρ.tup) := by rw [es2, List.getElem?_set_ne (by decide)]; exact h18
    have s21 : s2[21]? = some (some (.fl S)) := by rw [es2]; exact List.getElem?_set_self (by rw [hn]; decide)
    have p0 : ∀ {i : Nat} {L : LH}, gIx (shV ρ i) (.int 0) L = .ok (.int (shn ρ.w i ρ.l)) L := fun {i L} => rfl
    have p1 : ∀ {i : Nat} {L : LH}, gIx (shV ρ i) (.int 1) L = .ok (.int (shd ρ.w ρ.l)) L := fun {i L} => rfl
    have dl := shd_le (W := ρ.w) (l := ρ.l) (by omega) (by omega)
    have dp := shd_pos (W := ρ.w) c
    have cd : ∀ i, cMul i (shd ρ.w ρ.l) = true := fun i => by
      unfold cMul
      have a : decide (-(2 ^ 64) < shd ρ.w ρ.l) = true := decide_eq_true (by omega)
      have b : decide (shd ρ.w ρ.l < 2 ^ 64) = true := decide_eq_true (by omega)
      rw [a, b]; simp
    have it2 : mI range1 (mCons (mOp gIx (mVar 18) (mC (.int 3))) mNil) s2 L = .ok (itR 0 n) L := by
      have : range1 [.int ρ.l] L = .ok (itR 0 n) L := by rw [range1_ok (by omega) (by omega)]; congr 2; omega
      simp only [callF, mSeq, mIfS, mAsg, mRet, mRetN, mDrop, mOr, mAnd, mNot, mTest, mOp, mUn, mVar, mC, mCons, mNil, mBlt, mTup, mFl, mLst, mIf, mNotV, mAndV, mOrV, toB, mSkip, mBreak, mCont, mRaise, mBM, mFld, mDGet1, mDGet2, mDPut, mDDel, mDIn, mSetFld, mSetIx, mAugFld, mMeth, mCall, mMake, mDNew, mDisp, mPCons, mPNil, kvOf, keyOf, mChain, mPar, mTru, truthL, Res.bind, lift, Fl.andThen, isNon, gN, gT, gCons, gNil, Option.bind_some, gIsN, e_gEqS, e_gEq, e_gI, e_gIc, e_gMul, e_gAdd, e_gCmp, gSub, gAddI, gFdiv, gMod,   List.map_cons, List.map_nil, List.cons_append, List.nil_append, List.append_nil, List.length_cons, List.length_nil, List.replicate, List.set_cons_succ, List.set_cons_zero, List.getElem?_cons_succ, List.getElem?_cons_zero, Nat.reduceSub, Nat.reduceAdd, if_true, if_false, Bool.false_eq_true, Bool.true_eq_false, Bool.not_true, Bool.not_false, reduceCtorEq, Nat.reduceLeDiff, mI, s18, tup3, this]
    have a2 : (mLc (mI range1 (mCons (mOp gIx (mVar 18) (mC (.int 3))) mNil)) (gN 26) (mTest (mOp gGt (mOp gMul (mOp gIx (mOp gIx (mVar 21) (mVar 26)) (mC (.int 0))) (mOp gIx (mOp gIx (mVar 21) (mOp gAdd (mVar 26) (mC (.int 1)))) (mC (.int 1)))) (mOp gMul (mOp gIx (mOp gIx (mVar 21) (mOp gAdd (mVar 26) (mC (.int 1)))) (mC (.int 0))) (mOp gIx (mOp gIx (mVar 21) (mVar 26)) (mC (.int 1)))))) (mVar 26) [26]) s2 L = .ok (.fl []) L := by
      unfold mLc
      rw [it2]
      simp only [Res.bind]
      rw [lc_pure (xs := List.range n) (fun i => .int i) (fun _ => false) (fun i => .int i) (fun i => by
        simp only [itR, Int.zero_add]
        by_cases z : i < n
        · rw [if_pos z, List.getElem?_range z]; rfl
        · rw [if_neg z, List.getElem?_eq_none (by simp; omega)]; rfl) (by simp; omega) fun i hi => ?_, List.filter_eq_nil_iff.mpr (fun _ _ => by decide)]
      · rfl
      have hi := List.mem_range.mp hi
      have s26 : ((wipeL s2 [26]).set 26 (some (.int i)))[26]? = some (some (.int i)) := List.getElem?_set_self (by show 26 < (s2.set 26 none).length; rw [List.length_set, n2]; decide)
      have s21' : ((wipeL s2 [26]).set 26 (some (.int i)))[21]? = some (some (.fl S)) := by
        rw [List.getElem?_set_ne (by decide)]
        show (s2.set 26 none)[21]? = _
        rw [List.getElem?_set_ne (by decide)]
        exact s21
      have up := shn_up (W := ρ.w) (g := i) (l := ρ.l) (by omega) (by omega)
      have le : shn ρ.w i ρ.l * shd ρ.w ρ.l ≤ shn ρ.w (i + 1) ρ.l * shd ρ.w ρ.l := Int.mul_le_mul_of_nonneg_right up (by omega)
      have x1 : gIx (.fl S) (.int i) L = .ok (shV ρ i) L := ix_fl (hS i (by omega)) rfl
      have x2 : gIx (.fl S) (.int (i + 1)) L = .ok (shV ρ (i + 1)) L := ix_fl (hS (i + 1) (by omega)) (by omega)
      have ci : ((i + 1 : Nat) : Int) = (i : Int) + 1 := by omega
      have dd : decide (shn ρ.w (i + 1) ρ.l * shd ρ.w ρ.l < shn ρ.w i ρ.l * shd ρ.w ρ.l) = false := decide_eq_false (by omega)
      exact ⟨_, rfl, by simp only [callF, mSeq, mIfS, mAsg, mRet, mRetN, mDrop, mOr, mAnd, mNot, mTest, mOp, mUn, mVar, mC, mCons, mNil, mBlt, mTup, mFl, mLst, mIf, mNotV, mAndV, mOrV, toB, mSkip, mBreak, mCont, mRaise, mBM, mFld, mDGet1, mDGet2, mDPut, mDDel, mDIn, mSetFld, mSetIx, mAugFld, mMeth, mCall, mMake, mDNew, mDisp, mPCons, mPNil, kvOf, keyOf, mChain, mPar, mTru, truthL, Res.bind, lift, Fl.andThen, isNon, gN, gT, gCons, gNil, Option.bind_some, gIsN, e_gEqS, e_gEq, e_gI, e_gIc, e_gMul, e_gAdd, e_gCmp, gSub, gAddI, gFdiv, gMod,   List.map_cons, List.map_nil, List.cons_append, List.nil_append, List.append_nil, List.length_cons, List.length_nil, List.replicate, List.set_cons_succ, List.set_cons_zero, List.getElem?_cons_succ, List.getElem?_cons_zero, Nat.reduceSub, Nat.reduceAdd, if_true, if_false, Bool.false_eq_true, Bool.true_eq_false, Bool.not_true, Bool.not_false, reduceCtorEq, Nat.reduceLeDiff, s21', s26, x1, x2, p0, p1, cd, ci, dd], fun z => by cases z⟩
    have x0 : gIx (.fl S) (.int 0) L = .ok (shV ρ 0) L := ix_fl (hS 0 (by omega)) rfl
    have xl : gIx (.fl S) (.int ρ.l) L = .ok (shV ρ n) L := ix_fl (hS n (by omega)) en
    have e0 : shn ρ.w ((0 : Nat) : Int) ρ.l = 0 := shn_0 _ _ c
    have el : shn ρ.w (n : Int) ρ.l = shd ρ.w ρ.l := by rw [← en]; exact shn_l _ _ c
    refine ⟨s2, (if_t t1).trans ((seq_asg a1 (by rw [es2]; rfl)).trans (if_f ?_)), n2⟩
    have nn : gEq true (.fl []) (.fl []) L = .ok (.bl false) L := NI.nil.sameF
    have b1 := test1 (op2 (g := gEq true) a2 (show mFl mNil s2 L = .ok (.fl []) L from rfl) nn)
    simp only [mOr, b1, Res.bind, Bool.false_eq_true, if_false]
    simp only [callF, mSeq, mIfS, mAsg, mRet, mRetN, mDrop, mOr, mAnd, mNot, mTest, mOp, mUn, mVar, mC, mCons, mNil, mBlt, mTup, mFl, mLst, mIf, mNotV, mAndV, mOrV, toB, mSkip, mBreak, mCont, mRaise, mBM, mFld, mDGet1, mDGet2, mDPut, mDDel, mDIn, mSetFld, mSetIx, mAugFld, mMeth, mCall, mMake, mDNew, mDisp, mPCons, mPNil, kvOf, keyOf, mChain, mPar, mTru, truthL, Res.bind, lift, Fl.andThen, isNon, gN, gT, gCons, gNil, Option.bind_some, gIsN, e_gEqS, e_gEq, e_gI, e_gIc, e_gMul, e_gAdd, e_gCmp, gSub, gAddI, gFdiv, gMod,   List.map_cons, List.map_nil, List.cons_append, List.nil_append, List.append_nil, List.length_cons, List.length_nil, List.replicate, List.set_cons_succ, List.set_cons_zero, List.getElem?_cons_succ, List.getElem?_cons_zero, Nat.reduceSub, Nat.reduceAdd, if_true, if_false, Bool.false_eq_true, Bool.true_eq_false, Bool.not_true, Bool.not_false, reduceCtorEq, Nat.reduceLeDiff, s21, x0, p0, e0, decide_true, s18, tup3, xl, p1, el]
  · have t1 : mTest (mOp gGt (mOp gIx (mVar 18) (mC (.int 3))) (mC (.int 0))) sl L = .ok false L := by simp only [callF, mSeq, mIfS, mAsg, mRet, mRetN, mDrop, mOr, mAnd, mNot, mTest, mOp, mUn, mVar, mC, mCons, mNil, mBlt, mTup, mFl, mLst, mIf, mNotV, mAndV, mOrV, toB, mSkip, mBreak, mCont, mRaise, mBM, mFld, mDGet1, mDGet2, mDPut, mDDel, mDIn, mSetFld, mSetIx, mAugFld, mMeth, mCall, mMake, mDNew, mDisp, mPCons, mPNil, kvOf, keyOf, mChain, mPar, mTru, truthL, Res.bind, lift, Fl.andThen, isNon, gN, gT, gCons, gNil, Option.bind_some, gIsN, e_gEqS, e_gEq, e_gI, e_gIc, e_gMul, e_gAdd, e_gCmp, gSub, gAddI, gFdiv, gMod,   List.map_cons, List.map_nil, List.cons_append, List.nil_append, List.append_nil, List.length_cons, List.length_nil, List.replicate, List.set_cons_succ, List.set_cons_zero, List.getElem?_cons_succ, List.getElem?_cons_zero, Nat.reduceSub, Nat.reduceAdd, if_true, if_false, Bool.false_eq_true, Bool.true_eq_false, Bool.not_true, Bool.not_false, reduceCtorEq, Nat.reduceLeDiff, h18, tup3, decide_eq_false c]
    exact ⟨sl, if_f t1, hn⟩
theorem roll_0 (hd : ∃ x y z, L[0]? = some (dice x y z)) (n : Int) (h0 : 0 < n := by decide) (h1 : n < 1073741824 := by decide) : ∃ i L1, 0 ≤ i ∧ i < n ∧ F_law_roll [.ref 0, .int n] L = .ok (.int i) L1 ∧ ∃ x y z, L1[0]? = some (dice x y z) := by
  obtain ⟨x, y, z, e⟩ := hd
  obtain ⟨i, x', y', z', a, b, c⟩ := roll_p (Z := fun _ _ => True) (d := 0) (p := .ref 0) (k := 0) rfl e h0 h1
  exact ⟨i, _, a, b, c, x', y', z', at_self (at_lt e)⟩
theorem path_ok (hd : ∃ x y z, L[0]? = some (dice x y z)) (hn : sl.length = 27) (h1 : sl[1]? = some (some (.ref 0))) : ∃ L' sl', PATH sl L = .next sl' L' ∧ sl'.length = 27 := by
  obtain ⟨f, L1, f0, f1, e1, d1⟩ := roll_0 hd 50
  obtain ⟨a, L2, a0, a1, e2, d2⟩ := roll_0 d1 50
  obtain ⟨s, L3, s0, s1, e3, d3⟩ := roll_0 d2 9
  obtain ⟨l, L4, l0, l1, e4, d4⟩ := roll_0 d3 30
  obtain ⟨i, L5, i0, i1, e5, d5⟩ := roll_0 d4 4
  obtain ⟨w, hw, ew⟩ := way_ix i0 i1
  obtain ⟨ρ, eρ⟩ : ∃ ρ : Row, ρ = ⟨f - 25, a - 25, s, l, w⟩ := ⟨_, rfl⟩
  have hw : ρ.w ∈ WS4 := by rw [eρ]; exact hw
  have r0 : 0 ≤ ρ.l := by rw [eρ]; exact l0
  have r1 : ρ.l < 30 := by rw [eρ]; exact l1
  have c1 : (mTup (mCons (mOp gSub (mCall F_law_roll [] (mCons (mVar 1) (mCons (mC (.int 50)) mNil))) (mC (.int 25))) (mCons (mOp gSub (mCall F_law_roll [] (mCons (mVar 1) (mCons (mC (.int 50)) mNil))) (mC (.int 25))) (mCons (mCall F_law_roll [] (mCons (mVar 1) (mCons (mC (.int 9)) mNil))) (mCons (mCall F_law_roll [] (mCons (mVar 1) (mCons (mC (.int 30)) mNil))) (mCons (mOp gIx (mFl (mCons (mC (.str "even")) (mCons (mC (.str "slow")) (mCons (mC (.str "fast")) (mCons (mC (.str "both")) mNil))))) (mCall F_law_roll [] (mCons (mVar 1) (mCons (mC (.int 4)) mNil)))) mNil)))))) sl L = .ok ρ.tup L5 := by
    simp only [callF, mSeq, mIfS, mAsg, mRet, mRetN, mDrop, mOr, mAnd, mNot, mTest, mOp, mUn, mVar, mC, mCons, mNil, mBlt, mTup, mFl, mLst, mIf, mNotV, mAndV, mOrV, toB, mSkip, mBreak, mCont, mRaise, mBM, mFld, mDGet1, mDGet2, mDPut, mDDel, mDIn, mSetFld, mSetIx, mAugFld, mMeth, mCall, mMake, mDNew, mDisp, mPCons, mPNil, kvOf, keyOf, mChain, mPar, mTru, truthL, Res.bind, lift, Fl.andThen, isNon, gN, gT, gCons, gNil, Option.bind_some, gIsN, e_gEqS, e_gEq, e_gI, e_gIc, e_gMul, e_gAdd, e_gCmp, gSub, gAddI, gFdiv, gMod,   List.map_cons, List.map_nil, List.cons_append, List.nil_append, List.append_nil, List.length_cons, List.length_nil, List.replicate, List.set_cons_succ, List.set_cons_zero, List.getElem?_cons_succ, List.getElem?_cons_zero, Nat.reduceSub, Nat.reduceAdd, if_true, if_false, Bool.false_eq_true, Bool.true_eq_false, Bool.not_true, Bool.not_false, reduceCtorEq, Nat.reduceLeDiff, h1, e1, e2, e3, e4, e5, ew]
    rw [eρ]; rfl
  obtain ⟨s1, es1⟩ : ∃ s1, s1 = sl.set 18 (some ρ.tup) := ⟨_, rfl⟩
  have n1 : s1.length = 27 := by rw [es1, List.length_set, hn]
  have s1_18 : s1[18]? = some (some ρ.tup) := by rw [es1]; exact List.getElem?_set_self (by rw [hn]; decide)
  have c2 : mMake i_Path F_Path_init [] (mCons (mOp gIx (mVar 18) (mC (.int 0))) (mCons (mOp gIx (mVar 18) (mC (.int 1))) (mCons (mOp gIx (mVar 18) (mC (.int 2))) (mCons (mOp gIx (mVar 18) (mC (.int 3))) (mCons (mOp gIx (mVar 18) (mC (.int 4))) mNil))))) s1 L5 = .ok (.ref L5.length) (L5 ++ [ρ.pa]) :=
    path_make (by simp only [callF, mSeq, mIfS, mAsg, mRet, mRetN, mDrop, mOr, mAnd, mNot, mTest, mOp, mUn, mVar, mC, mCons, mNil, mBlt, mTup, mFl, mLst, mIf, mNotV, mAndV, mOrV, toB, mSkip, mBreak, mCont, mRaise, mBM, mFld, mDGet1, mDGet2, mDPut, mDDel, mDIn, mSetFld, mSetIx, mAugFld, mMeth, mCall, mMake, mDNew, mDisp, mPCons, mPNil, kvOf, keyOf, mChain, mPar, mTru, truthL, Res.bind, lift, Fl.andThen, isNon, gN, gT, gCons, gNil, Option.bind_some, gIsN, e_gEqS, e_gEq, e_gI, e_gIc, e_gMul, e_gAdd, e_gCmp, gSub, gAddI, gFdiv, gMod,   List.map_cons, List.map_nil, List.cons_append, List.nil_append, List.append_nil, List.length_cons, List.length_nil, List.replicate, List.set_cons_succ, List.set_cons_zero, List.getElem?_cons_succ, List.getElem?_cons_zero, Nat.reduceSub, Nat.reduceAdd, if_true, if_false, Bool.false_eq_true, Bool.true_eq_false, Bool.not_true, Bool.not_false, reduceCtorEq, Nat.reduceLeDiff, s1_18, tup0, tup1, tup2, tup3, tup4]) r0 hw
  obtain ⟨s2, es2⟩ : ∃ s2, s2 = s1.set 19 (some (.ref L5.length)) := ⟨_, rfl⟩
  have n2 : s2.length = 27 := by rw [es2, List.length_set, n1]
  have s2_18 : s2[18]? = some (some ρ.tup) := by rw [es2, List.getElem?_set_ne (by decide)]; exact s1_18
  have s2_19 : s2[19]? = some (some (.ref L5.length)) := by rw [es2]; exact List.getElem?_set_self (by rw [n1]; decide)
  obtain ⟨s3, L6, c3, n3, s3_18, s3_19, T, eT⟩ := for_range (g := gN 20) (body := MOM) (n := 45) (fun _ s M => s.length = 27 ∧ s[18]? = some (some ρ.tup) ∧ s[19]? = some (some (.ref L5.length)) ∧ ∃ T, M = (L5 ++ [ρ.pa]) ++ T) (by decide)
    (fun i s M hi ⟨m1, m2, m3, T, m4⟩ => by
      have q1 : M[L5.length]? = some ρ.pa := by rw [m4]; exact at_app (at_new rfl)
      obtain ⟨T', z⟩ := mom_ok (sl := s.set 20 (some (.int i))) (t := i) q1 hw ⟨r0, by omega⟩ (by rw [List.getElem?_set_ne (by decide)]; exact m2) (by rw [List.getElem?_set_ne (by decide)]; exact m3) (List.getElem?_set_self (by rw [m1]; decide))
      exact ⟨_, _, _, rfl, z, by rw [List.length_set]; exact m1, by rw [List.getElem?_set_ne (by decide)]; exact m2, by rw [List.getElem?_set_ne (by decide)]; exact m3, T ++ T', by rw [m4, List.append_assoc]⟩) (s := s2) (L := L5 ++ [ρ.pa]) ⟨n2, s2_18, s2_19, [], by simp⟩
  obtain ⟨s4, c4, n4⟩ := shares_ok (L := L6) hw r0 r1 n3 s3_18
  have it : mI range1 (mCons (mC (.int 45)) mNil) s2 (L5 ++ [ρ.pa]) = .ok (itR 0 45) (L5 ++ [ρ.pa]) := rfl
  exact ⟨L6, s4, (seq_asg c1 (by rw [es1]; rfl)).trans ((seq_asg c2 (by rw [es2]; rfl)).trans ((seq_nx (for_of it c3)).trans c4)), n4⟩
end
end Q.K18
end
section
set_option Elab.async false
set_option linter.all false
set_option maxRecDepth 100000
set_option maxHeartbeats 1000000
namespace Q.K18
open PySem L2 Q
def INIT : MS := (mAsg (mTup (mCons (mMake i_Mover F_Mover_init [] mNil) (mCons (mDNew (.dK [])) (mCons (mDNew (.dK [])) (mCons (mDNew (.dK [])) (mCons (mC (.int 0)) mNil)))))) (gT 5 (gCons (gN 2) (gCons (gN 3) (gCons (gN 4) (gCons (gN 5) (gCons (gN 6) gNil)))))))
def ROUND : MS := (mSeq (mAsg (mTup (mCons (mMake i_Mover F_Mover_init [] mNil) (mCons (mDNew (.dK [])) (mCons (mDNew (.dK [])) (mCons (mDNew (.dK [])) (mCons (mC (.int 0)) mNil)))))) (gT 5 (gCons (gN 2) (gCons (gN 3) (gCons (gN 4) (gCons (gN 5) (gCons (gN 6) gNil)))))))
  (mSeq (mFor (mI range1 (mCons (mCall F_law_roll [] (mCons (mVar 1) (mCons (mC (.int 51)) mNil))) mNil)) (gN 7)
  (mSeq (mAsg (mTup (mCons (mCall F_law_roll [] (mCons (mVar 1) (mCons (mC (.int 8)) mNil))) (mCons (mOp gIx (mC (.str "abc")) (mCall F_law_roll [] (mCons (mVar 1) (mCons (mC (.int 3)) mNil)))) (mCons (mOp gSub (mCall F_law_roll [] (mCons (mVar 1) (mCons (mC (.int 200)) mNil))) (mC (.int 100))) mNil)))) (gT 3 (gCons (gN 8) (gCons (gN 9) (gCons (gN 10) gNil)))))
  (mSeq (mIfS (mTest (mOp (gEq false) (mVar 8) (mC (.int 0))))
  (mSeq (mDPut (mVar 3) (mVar 9) (mTup (mCons (mCall F_law_roll [] (mCons (mVar 1) (mCons (mC (.int 20)) mNil))) (mCons (mOp gIx (mFl (mCons (mC (.str "even")) (mCons (mC (.str "slow")) (mCons (mC (.str "fast")) (mCons (mC (.str "both")) mNil))))) (mCall F_law_roll [] (mCons (mVar 1) (mCons (mC (.int 4)) mNil)))) mNil))))
  (mDrop (mMeth i_Mover "set_way" F_Mover_set_way [] (mVar 2) (mCons (mVar 9) (mCons (mOp gIx (mOp gDGet (mVar 3) (mVar 9)) (mC (.int 0))) (mCons (mOp gIx (mOp gDGet (mVar 3) (mVar 9)) (mC (.int 1))) mNil))))))
  (mIfS (mTest (mOp gLt (mVar 8) (mC (.int 4))))
  (mSeq (mAsg (mIf (mAnd (mTest (mDIn false (mVar 9) (mVar 4))) (mTest (mOp (gEq false) (mCall F_law_roll [] (mCons (mVar 1) (mCons (mC (.int 2)) mNil))) (mC (.int 0))))) (mOp gIx (mOp gDGet (mVar 4) (mVar 9)) (mC (.int 0))) (mVar 10)) (gN 10))
  (mSeq (mAsg (mDGet2 (mVar 3) (mVar 9) (mTup (mCons (mC (.int 0)) (mCons (mC (.str "even")) mNil)))) (gT 2 (gCons (gN 11) (gCons (gN 12) gNil))))
  (mSeq (mAsg (mIf (mTest (mDIn false (mVar 9) (mVar 4))) (mCall F_law_at [] (mCons (mOp gDGet (mVar 4) (mVar 9)) (mCons (mVar 6) mNil))) (mDGet1 (mVar 5) (mVar 9))) (gN 13))
  (mSeq (mIfS (mAnd (mTest (mDIn false (mVar 9) (mVar 4))) (mTest (mOp (gEq false) (mVar 10) (mOp gIx (mOp gDGet (mVar 4) (mVar 9)) (mC (.int 0))))))
  (mAsg (mBlt fMin (mCons (mVar 11) (mCons (mOp gSub (mVar 6) (mOp gIx (mOp gDGet (mVar 4) (mVar 9)) (mC (.int 2)))) mNil))) (gN 11))
  mSkip)
  (mSeq (mDrop (mMeth i_Mover "go_to" F_Mover_go_to [] (mVar 2) (mCons (mVar 9) (mCons (mVar 10) mNil))))
  (mSeq (mIfS (mTest (mOp (gIsN true) (mVar 13) (mC .non)))
  (mAsg (mBlt fDictP (mCons (mOp gAdd (mLock (mVar 4) (mLc (mItD (mVar 4)) (gN 14) (mTest (mOp (gEq true) (mVar 14) (mVar 9))) (mTup (mCons (mVar 14) (mCons (mOp gDGet (mVar 4) (mVar 14)) mNil))) [14])) (mOp gMul (mFl (mCons (mTup (mCons (mVar 9) (mCons (mTup (mCons (mVar 13) (mCons (mVar 10) (mCons (mVar 6) (mCons (mVar 11) (mCons (mVar 12) mNil)))))) mNil))) mNil)) (mBlt fInt (mCons (mAndV (mOp gGt (mVar 11) (mC (.int 0))) (mOp (gEq true) (mVar 13) (mVar 10))) mNil)))) mNil)) (gN 4))
  mSkip)
  (mDPut (mVar 5) (mVar 9) (mVar 10))))))))
  (mSeq (mAsg (mOp gAdd (mC (.int 1)) (mCall F_law_roll [] (mCons (mVar 1) (mCons (mC (.int 6)) mNil)))) (gN 15))
  (mSeq (mAsg (mOp gAdd (mVar 6) (mVar 15)) (gN 6))
  (mSeq (mAsg (mLc (mIt (mBlt fSortD (mCons (mVar 4) mNil))) (gN 14) (mTest (mOp gGe (mVar 6) (mOp gAdd (mOp gIx (mOp gDGet (mVar 4) (mVar 14)) (mC (.int 2))) (mOp gIx (mOp gDGet (mVar 4) (mVar 14)) (mC (.int 3)))))) (mVar 14) [14]) (gN 16))
  (mSeq (mIfS (mTest (mOp (gEq true) (mMeth i_Mover "tick" F_Mover_tick [] (mVar 2) (mCons (mVar 15) mNil)) (mBlt fTuple (mCons (mVar 16) mNil))))
  (mRet (mC (.bl false)))
  mSkip)
  (mAsg (mBlt fDictP (mCons (mLock (mVar 4) (mLc (mItD (mVar 4)) (gN 14) (mTest (mOp (gIn true) (mVar 14) (mVar 16))) (mTup (mCons (mVar 14) (mCons (mOp gDGet (mVar 4) (mVar 14)) mNil))) [14])) mNil)) (gN 4))))))))
  (mSeq (mIfS (mTest (mOp (gEq true) (mMeth i_Mover "moving" F_Mover_moving [] (mVar 2) mNil) (mBlt fTuple (mCons (mBlt fSortD (mCons (mVar 4) mNil)) mNil))))
  (mRet (mC (.bl false)))
  mSkip)
  (mLockS (mVar 5) (mFor (mItD (mVar 5)) (gN 14)
  (mSeq (mAsg (mIf (mTest (mDIn false (mVar 14) (mVar 4))) (mCall F_law_at [] (mCons (mOp gDGet (mVar 4) (mVar 14)) (mCons (mVar 6) mNil))) (mOp gDGet (mVar 5) (mVar 14))) (gN 17))
  (mIfS (mOr (mTest (mOp (gEq true) (mMeth i_Mover "value_now" F_Mover_value_now [] (mVar 2) (mCons (mVar 14) mNil)) (mVar 17))) (mAnd (mTest (mDIn false (mVar 14) (mVar 4))) (mNot (mTest (mChain gLe gLe (mBlt fMin (mCons (mOp gIx (mOp gDGet (mVar 4) (mVar 14)) (mC (.int 0))) (mCons (mOp gIx (mOp gDGet (mVar 4) (mVar 14)) (mC (.int 1))) mNil))) (mVar 17) (mBlt fMax (mCons (mOp gIx (mOp gDGet (mVar 4) (mVar 14)) (mC (.int 0))) (mCons (mOp gIx (mOp gDGet (mVar 4) (mVar 14)) (mC (.int 1))) mNil))))))))
  (mRet (mC (.bl false)))
  mSkip))))))))
  (mSeq (mAsg (mTup (mCons (mOp gSub (mCall F_law_roll [] (mCons (mVar 1) (mCons (mC (.int 50)) mNil))) (mC (.int 25))) (mCons (mOp gSub (mCall F_law_roll [] (mCons (mVar 1) (mCons (mC (.int 50)) mNil))) (mC (.int 25))) (mCons (mCall F_law_roll [] (mCons (mVar 1) (mCons (mC (.int 9)) mNil))) (mCons (mCall F_law_roll [] (mCons (mVar 1) (mCons (mC (.int 30)) mNil))) (mCons (mOp gIx (mFl (mCons (mC (.str "even")) (mCons (mC (.str "slow")) (mCons (mC (.str "fast")) (mCons (mC (.str "both")) mNil))))) (mCall F_law_roll [] (mCons (mVar 1) (mCons (mC (.int 4)) mNil)))) mNil)))))) (gN 18))
  (mSeq (mAsg (mMake i_Path F_Path_init [] (mCons (mOp gIx (mVar 18) (mC (.int 0))) (mCons (mOp gIx (mVar 18) (mC (.int 1))) (mCons (mOp gIx (mVar 18) (mC (.int 2))) (mCons (mOp gIx (mVar 18) (mC (.int 3))) (mCons (mOp gIx (mVar 18) (mC (.int 4))) mNil)))))) (gN 19))
  (mSeq (mFor (mI range1 (mCons (mC (.int 45)) mNil)) (gN 20)
  (mIfS (mOr (mTest (mOp (gEq true) (mMeth i_Path "value_at" F_Path_value_at [] (mVar 19) (mCons (mVar 20) mNil)) (mCall F_law_at [] (mCons (mVar 18) (mCons (mVar 20) mNil))))) (mTest (mOp (gEq true) (mMeth i_Path "is_over" F_Path_is_over [] (mVar 19) (mCons (mVar 20) mNil)) (mOp gGe (mVar 20) (mOp gAdd (mOp gIx (mVar 18) (mC (.int 2))) (mOp gIx (mVar 18) (mC (.int 3))))))))
  (mRet (mC (.bl false)))
  mSkip))
  (mIfS (mTest (mOp gGt (mOp gIx (mVar 18) (mC (.int 3))) (mC (.int 0))))
  (mSeq (mAsg (mLc (mI range1 (mCons (mOp gAdd (mOp gIx (mVar 18) (mC (.int 3))) (mC (.int 1))) mNil)) (gN 24) mYes (mCall F_share_of [] (mCons (mVar 24) (mCons (mOp gIx (mVar 18) (mC (.int 3))) (mCons (mOp gIx (mVar 18) (mC (.int 4))) mNil)))) [24]) (gN 21))
  (mIfS (mOr (mTest (mOp (gEq true) (mLc (mI range1 (mCons (mOp gIx (mVar 18) (mC (.int 3))) mNil)) (gN 26) (mTest (mOp gGt (mOp gMul (mOp gIx (mOp gIx (mVar 21) (mVar 26)) (mC (.int 0))) (mOp gIx (mOp gIx (mVar 21) (mOp gAdd (mVar 26) (mC (.int 1)))) (mC (.int 1)))) (mOp gMul (mOp gIx (mOp gIx (mVar 21) (mOp gAdd (mVar 26) (mC (.int 1)))) (mC (.int 0))) (mOp gIx (mOp gIx (mVar 21) (mVar 26)) (mC (.int 1)))))) (mVar 26) [26]) (mFl mNil))) (mOr (mTest (mOp (gEq true) (mOp gIx (mOp gIx (mVar 21) (mC (.int 0))) (mC (.int 0))) (mC (.int 0)))) (mTest (mOp (gEq true) (mOp gIx (mOp gIx (mVar 21) (mOp gIx (mVar 18) (mC (.int 3)))) (mC (.int 0))) (mOp gIx (mOp gIx (mVar 21) (mOp gIx (mVar 18) (mC (.int 3)))) (mC (.int 1)))))))
  (mRet (mC (.bl false)))
  mSkip))
  mSkip))))))
def TAIL : MS := (mSeq (mAsg (mMake i_Mover F_Mover_init [] mNil) (gN 23))
  (mSeq (mAsg (mFl (mCons (mC (.lam 0)) (mCons (mC (.lam 1)) (mCons (mC (.lam 2)) (mCons (mC (.lam 3)) mNil))))) (gN 22))
  (mRet (mAndV (mOp (gEq false) (mLc (mIt (mVar 22)) (gN 25) (mTest (mOp (gEq true) (mToldK cg_law_told R_law_told 4 kb_law [25] (mVar 25)) (mC (.str "SizeError")))) (mC (.int 1)) [25]) (mFl mNil)) (mAndV (mOp (gEqD false) (mFld i_Mover "ways" (mVar 23)) (mDNew (.dK []))) (mOp (gEq false) (mMeth i_Mover "tick" F_Mover_tick [.int 1] (mVar 23) mNil) (mTup mNil)))))))
theorem init_st {x y z : Int} {sl : Sl} (hn : sl.length = 27) (h1 : sl[1]? = some (some (.ref 0))) : ∃ sl', INIT sl [dice x y z] = .next sl' [dice x y z, mvO 2 3 4 0, dk [], dk [], dk [], dk [], dk [], dk []] ∧ G sl' 0 6 := by
  refine ⟨((((sl.set 2 (some (.ref 1))).set 3 (some (.ref 5))).set 4 (some (.ref 6))).set 5 (some (.ref 7))).set 6 (some (.int 0)), rfl, ⟨by simp [hn], ?_, ?_, ?_, ?_, ?_, ?_⟩⟩
  · rw [List.getElem?_set_ne (by decide), List.getElem?_set_ne (by decide), List.getElem?_set_ne (by decide), List.getElem?_set_ne (by decide), List.getElem?_set_ne (by decide)]; exact h1
  · rw [List.getElem?_set_ne (by decide), List.getElem?_set_ne (by decide), List.getElem?_set_ne (by decide), List.getElem?_set_ne (by decide)]; exact List.getElem?_set_self (by omega)
  · rw [List.getElem?_set_ne (by decide), List.getElem?_set_ne (by decide), List.getElem?_set_ne (by decide)]; exact List.getElem?_set_self (by simp [hn])
  · rw [List.getElem?_set_ne (by decide), List.getElem?_set_ne (by decide)]; exact List.getElem?_set_self (by simp [hn])
  · rw [List.getElem?_set_ne (by decide)]; exact List.getElem?_set_self (by simp [hn])
  · exact List.getElem?_set_self (by simp [hn])
theorem first {x y z : Int} : St [dice x y z, mvO 2 3 4 0, dk [], dk [], dk [], dk [], dk [], dk []] 0 6 (fun _ => none) (fun _ => none) (fun _ => none) where
  d := ⟨x, y, z, rfl⟩
  hm := rfl
  V := ⟨[], _, rfl, Rep.nil, fun _ => rfl, fun _ _ => rfl⟩
  P := ⟨[], _, rfl, Rep.nil, fun _ _ => rfl, fun k ρ h => by cases h⟩
  W := ⟨[], rfl, Rep.nil⟩
  W' := ⟨[], rfl, Rep.nil⟩
  R := ⟨[], rfl, Rep.nil⟩
  hr := .inl rfl
  S := ⟨[], rfl, Rep.nil⟩
  ok := fun k ρ h => by cases h
  wok := fun k x h => by cases h
theorem round_ok {x y z : Int} {sl : Sl} (hn : sl.length = 27) (h1 : sl[1]? = some (some (.ref 0))) : ∃ L' sl', ROUND sl [dice x y z] = .next sl' L' ∧ sl'.length = 27 := by
  obtain ⟨s1, e1, g1⟩ := init_st (x := x) (y := y) (z := z) hn h1
  obtain ⟨n, L1, n0, n1, e2, h2⟩ := roll_ex (first (x := x) (y := y) (z := z)) 51
  obtain ⟨s3, L3, e3, e4⟩ := for_range (g := gN 7) (body := STEP) (n := n.toNat) (fun _ s M => Std M s) (by omega) (fun i s M hi H => by
    obtain ⟨t, r, rs, ws, sv, g, h⟩ := H
    obtain ⟨L', sl', a, b⟩ := step_ok (sl := s.set 7 (some (.int i))) ⟨t, r, rs, ws, sv, g.set (by decide) _, h⟩
    exact ⟨_, _, _, rfl, a, b⟩) (s := s1) (L := L1) ⟨_, _, _, _, _, g1, h2⟩
  obtain ⟨t, r, rs, ws, sv, g, h⟩ := e4
  obtain ⟨L4, s4, e5, n4⟩ := path_ok h.d g.n g.s1
  have it : mI range1 (mCons (mCall F_law_roll [] (mCons (mVar 1) (mCons (mC (.int 51)) mNil))) mNil) s1 [dice x y z, mvO 2 3 4 0, dk [], dk [], dk [], dk [], dk [], dk []] = .ok (itR 0 n.toNat) L1 := by
    have := range1_ok (L := L1) n0 (by omega)
    simp only [callF, mSeq, mIfS, mAsg, mRet, mRetN, mDrop, mOr, mAnd, mNot, mTest, mOp, mUn, mVar, mC, mCons, mNil, mBlt, mTup, mFl, mLst, mIf, mNotV, mAndV, mOrV, toB, mSkip, mBreak, mCont, mRaise, mBM, mFld, mDGet1, mDGet2, mDPut, mDDel, mDIn, mSetFld, mSetIx, mAugFld, mMeth, mCall, mMake, mDNew, mDisp, mPCons, mPNil, kvOf, keyOf, mChain, mPar, mTru, truthL, Res.bind, lift, Fl.andThen, isNon, gN, gT, gCons, gNil, Option.bind_some, gIsN, e_gEqS, e_gEq, e_gI, e_gIc, e_gMul, e_gAdd, e_gCmp, gSub, gAddI, gFdiv, gMod,   List.map_cons, List.map_nil, List.cons_append, List.nil_append, List.append_nil, List.length_cons, List.length_nil, List.replicate, List.set_cons_succ, List.set_cons_zero, List.getElem?_cons_succ, List.getElem?_cons_zero, Nat.reduceSub, Nat.reduceAdd, if_true, if_false, Bool.false_eq_true, Bool.true_eq_false, Bool.not_true, Bool.not_false, reduceCtorEq, Nat.reduceLeDiff, mI, g1.s1, e2, this]
  exact ⟨L4, s4, (seq_nx e1).trans ((seq_nx (for_of it e3)).trans e5), n4⟩
section
variable {L : LH} {sl : Sl} {n : Nat}
theorem bad_ok (h : L[n]? = some (mvO (n + 1) (n + 2) (n + 3) 0)) (h2 : L[n + 2]? = some (dk [])) (h1 : L[n + 1]? = some (dk [])) (s23 : sl[23]? = some (some (.ref n))) (j : Nat) (hj : j < 4) : ∃ T, kb_law j sl L = .exc 0 (L ++ T) := by
  have : j = 0 ∨ j = 1 ∨ j = 2 ∨ j = 3 := by omega
  rcases this with rfl | rfl | rfl | rfl
  · refine ⟨[], ?_⟩
    rw [List.append_nil]
    show (mMeth i_Mover "set_way" F_Mover_set_way [] (mVar 23) (mCons (mC (.str "a")) (mCons (mUn gNeg (mC (.int 1))) (mCons (mC (.str "even")) mNil)))) sl L = _
    have : F_Mover_set_way [.ref n, .str "a", .int (-1), .str "even"] L = .exc 0 L := by
      unfold F_Mover_set_way B_Mover_set_way
      simp only [callF, mSeq, mIfS, mAsg, mRet, mRetN, mDrop, mOr, mAnd, mNot, mTest, mOp, mUn, mVar, mC, mCons, mNil, mBlt, mTup, mFl, mLst, mIf, mNotV, mAndV, mOrV, toB, mSkip, mBreak, mCont, mRaise, mBM, mFld, mDGet1, mDGet2, mDPut, mDDel, mDIn, mSetFld, mSetIx, mAugFld, mMeth, mCall, mMake, mDNew, mDisp, mPCons, mPNil, kvOf, keyOf, mChain, mPar, mTru, truthL, Res.bind, lift, Fl.andThen, isNon, gN, gT, gCons, gNil, Option.bind_some, gIsN, e_gEqS, e_gEq, e_gI, e_gIc, e_gMul, e_gAdd, e_gCmp, gSub, gAddI, gFdiv, gMod,   List.map_cons, List.map_nil, List.cons_append, List.nil_append, List.append_nil, List.length_cons, List.length_nil, List.replicate, List.set_cons_succ, List.set_cons_zero, List.getElem?_cons_succ, List.getElem?_cons_zero, Nat.reduceSub, Nat.reduceAdd, if_true, if_false, Bool.false_eq_true, Bool.true_eq_false, Bool.not_true, Bool.not_false, reduceCtorEq, Nat.reduceLeDiff, need_neg (L := L) (W := "even") (l := -1) (by decide)]
    simp only [callF, mSeq, mIfS, mAsg, mRet, mRetN, mDrop, mOr, mAnd, mNot, mTest, mOp, mUn, mVar, mC, mCons, mNil, mBlt, mTup, mFl, mLst, mIf, mNotV, mAndV, mOrV, toB, mSkip, mBreak, mCont, mRaise, mBM, mFld, mDGet1, mDGet2, mDPut, mDDel, mDIn, mSetFld, mSetIx, mAugFld, mMeth, mCall, mMake, mDNew, mDisp, mPCons, mPNil, kvOf, keyOf, mChain, mPar, mTru, truthL, Res.bind, lift, Fl.andThen, isNon, gN, gT, gCons, gNil, Option.bind_some, gIsN, e_gEqS, e_gEq, e_gI, e_gIc, e_gMul, e_gAdd, e_gCmp, gSub, gAddI, gFdiv, gMod,   List.map_cons, List.map_nil, List.cons_append, List.nil_append, List.append_nil, List.length_cons, List.length_nil, List.replicate, List.set_cons_succ, List.set_cons_zero, List.getElem?_cons_succ, List.getElem?_cons_zero, Nat.reduceSub, Nat.reduceAdd, if_true, if_false, Bool.false_eq_true, Bool.true_eq_false, Bool.not_true, Bool.not_false, reduceCtorEq, Nat.reduceLeDiff, s23, ins_mv (z := "set_way") h, gNeg, this]
  · refine ⟨[], ?_⟩
    rw [List.append_nil]
    show (mMeth i_Mover "set_way" F_Mover_set_way [] (mVar 23) (mCons (mC (.str "a")) (mCons (mC (.int 5)) (mCons (mC (.str "odd")) mNil)))) sl L = _
    have : F_Mover_set_way [.ref n, .str "a", .int 5, .str "odd"] L = .exc 0 L := by
      unfold F_Mover_set_way B_Mover_set_way
      simp only [callF, mSeq, mIfS, mAsg, mRet, mRetN, mDrop, mOr, mAnd, mNot, mTest, mOp, mUn, mVar, mC, mCons, mNil, mBlt, mTup, mFl, mLst, mIf, mNotV, mAndV, mOrV, toB, mSkip, mBreak, mCont, mRaise, mBM, mFld, mDGet1, mDGet2, mDPut, mDDel, mDIn, mSetFld, mSetIx, mAugFld, mMeth, mCall, mMake, mDNew, mDisp, mPCons, mPNil, kvOf, keyOf, mChain, mPar, mTru, truthL, Res.bind, lift, Fl.andThen, isNon, gN, gT, gCons, gNil, Option.bind_some, gIsN, e_gEqS, e_gEq, e_gI, e_gIc, e_gMul, e_gAdd, e_gCmp, gSub, gAddI, gFdiv, gMod,   List.map_cons, List.map_nil, List.cons_append, List.nil_append, List.append_nil, List.length_cons, List.length_nil, List.replicate, List.set_cons_succ, List.set_cons_zero, List.getElem?_cons_succ, List.getElem?_cons_zero, Nat.reduceSub, Nat.reduceAdd, if_true, if_false, Bool.false_eq_true, Bool.true_eq_false, Bool.not_true, Bool.not_false, reduceCtorEq, Nat.reduceLeDiff, need_odd (L := L) (l := 5) (by decide)]
    simp only [callF, mSeq, mIfS, mAsg, mRet, mRetN, mDrop, mOr, mAnd, mNot, mTest, mOp, mUn, mVar, mC, mCons, mNil, mBlt, mTup, mFl, mLst, mIf, mNotV, mAndV, mOrV, toB, mSkip, mBreak, mCont, mRaise, mBM, mFld, mDGet1, mDGet2, mDPut, mDDel, mDIn, mSetFld, mSetIx, mAugFld, mMeth, mCall, mMake, mDNew, mDisp, mPCons, mPNil, kvOf, keyOf, mChain, mPar, mTru, truthL, Res.bind, lift, Fl.andThen, isNon, gN, gT, gCons, gNil, Option.bind_some, gIsN, e_gEqS, e_gEq, e_gI, e_gIc, e_gMul, e_gAdd, e_gCmp, gSub, gAddI, gFdiv, gMod,   List.map_cons, List.map_nil, List.cons_append, List.nil_append, List.append_nil, List.length_cons, List.length_nil, List.replicate, List.set_cons_succ, List.set_cons_zero, List.getElem?_cons_succ, List.getElem?_cons_zero, Nat.reduceSub, Nat.reduceAdd, if_true, if_false, Bool.false_eq_true, Bool.true_eq_false, Bool.not_true, Bool.not_false, reduceCtorEq, Nat.reduceLeDiff, s23, ins_mv (z := "set_way") h, this]
  · refine ⟨[], ?_⟩
    rw [List.append_nil]
    show (mMeth i_Mover "value_now" F_Mover_value_now [] (mVar 23) (mCons (mC (.str "a")) mNil)) sl L = _
    simp only [callF, mSeq, mIfS, mAsg, mRet, mRetN, mDrop, mOr, mAnd, mNot, mTest, mOp, mUn, mVar, mC, mCons, mNil, mBlt, mTup, mFl, mLst, mIf, mNotV, mAndV, mOrV, toB, mSkip, mBreak, mCont, mRaise, mBM, mFld, mDGet1, mDGet2, mDPut, mDDel, mDIn, mSetFld, mSetIx, mAugFld, mMeth, mCall, mMake, mDNew, mDisp, mPCons, mPNil, kvOf, keyOf, mChain, mPar, mTru, truthL, Res.bind, lift, Fl.andThen, isNon, gN, gT, gCons, gNil, Option.bind_some, gIsN, e_gEqS, e_gEq, e_gI, e_gIc, e_gMul, e_gAdd, e_gCmp, gSub, gAddI, gFdiv, gMod,   List.map_cons, List.map_nil, List.cons_append, List.nil_append, List.append_nil, List.length_cons, List.length_nil, List.replicate, List.set_cons_succ, List.set_cons_zero, List.getElem?_cons_succ, List.getElem?_cons_zero, Nat.reduceSub, Nat.reduceAdd, if_true, if_false, Bool.false_eq_true, Bool.true_eq_false, Bool.not_true, Bool.not_false, reduceCtorEq, Nat.reduceLeDiff, s23, ins_mv (z := "value_now") h, now_no (k := "a") h h2 rfl h1 rfl]
  · refine ⟨[.ins i_Path []], ?_⟩
    show (mMake i_Path F_Path_init [] (mCons (mC (.int 0)) (mCons (mC (.int 1)) (mCons (mC (.int 0)) (mCons (mUn gNeg (mC (.int 1))) (mCons (mC (.str "even")) mNil)))))) sl L = _
    have : F_Path_init [.ref L.length, .int 0, .int 1, .int 0, .int (-1), .str "even"] (L ++ [.ins i_Path []]) = .exc 0 (L ++ [.ins i_Path []]) := by
      unfold F_Path_init B_Path_init
      simp only [callF, mSeq, mIfS, mAsg, mRet, mRetN, mDrop, mOr, mAnd, mNot, mTest, mOp, mUn, mVar, mC, mCons, mNil, mBlt, mTup, mFl, mLst, mIf, mNotV, mAndV, mOrV, toB, mSkip, mBreak, mCont, mRaise, mBM, mFld, mDGet1, mDGet2, mDPut, mDDel, mDIn, mSetFld, mSetIx, mAugFld, mMeth, mCall, mMake, mDNew, mDisp, mPCons, mPNil, kvOf, keyOf, mChain, mPar, mTru, truthL, Res.bind, lift, Fl.andThen, isNon, gN, gT, gCons, gNil, Option.bind_some, gIsN, e_gEqS, e_gEq, e_gI, e_gIc, e_gMul, e_gAdd, e_gCmp, gSub, gAddI, gFdiv, gMod,   List.map_cons, List.map_nil, List.cons_append, List.nil_append, List.append_nil, List.length_cons, List.length_nil, List.replicate, List.set_cons_succ, List.set_cons_zero, List.getElem?_cons_succ, List.getElem?_cons_zero, Nat.reduceSub, Nat.reduceAdd, if_true, if_false, Bool.false_eq_true, Bool.true_eq_false, Bool.not_true, Bool.not_false, reduceCtorEq, Nat.reduceLeDiff, need_neg (L := L ++ [.ins i_Path []]) (W := "even") (l := -1) (by decide)]
    simp only [callF, mSeq, mIfS, mAsg, mRet, mRetN, mDrop, mOr, mAnd, mNot, mTest, mOp, mUn, mVar, mC, mCons, mNil, mBlt, mTup, mFl, mLst, mIf, mNotV, mAndV, mOrV, toB, mSkip, mBreak, mCont, mRaise, mBM, mFld, mDGet1, mDGet2, mDPut, mDDel, mDIn, mSetFld, mSetIx, mAugFld, mMeth, mCall, mMake, mDNew, mDisp, mPCons, mPNil, kvOf, keyOf, mChain, mPar, mTru, truthL, Res.bind, lift, Fl.andThen, isNon, gN, gT, gCons, gNil, Option.bind_some, gIsN, e_gEqS, e_gEq, e_gI, e_gIc, e_gMul, e_gAdd, e_gCmp, gSub, gAddI, gFdiv, gMod,   List.map_cons, List.map_nil, List.cons_append, List.nil_append, List.append_nil, List.length_cons, List.length_nil, List.replicate, List.set_cons_succ, List.set_cons_zero, List.getElem?_cons_succ, List.getElem?_cons_zero, Nat.reduceSub, Nat.reduceAdd, if_true, if_false, Bool.false_eq_true, Bool.true_eq_false, Bool.not_true, Bool.not_false, reduceCtorEq, Nat.reduceLeDiff, gNeg, this]
theorem tail_ok (hn : sl.length = 27) : ∃ L', TAIL sl L = .ret (.bl true) L' := by
  obtain ⟨n, en⟩ : ∃ n, n = L.length := ⟨_, rfl⟩
  obtain ⟨T1, e1⟩ : ∃ T1, T1 = L ++ [mvO (n + 1) (n + 2) (n + 3) 0, dk [], dk [], dk []] := ⟨_, rfl⟩
  have a1 : mMake i_Mover F_Mover_init [] mNil sl L = .ok (.ref n) T1 := by rw [mover_make, e1, en]
  have b0 : T1[n]? = some (mvO (n + 1) (n + 2) (n + 3) 0) := by rw [e1, en]; exact at_at
  have b1 : T1[n + 1]? = some (dk []) := by rw [e1, en, at_off]; rfl
  have b2 : T1[n + 2]? = some (dk []) := by rw [e1, en, at_off]; rfl
  have b3 : T1[n + 3]? = some (dk []) := by rw [e1, en, at_off]; rfl
  obtain ⟨s2, es2⟩ : ∃ s2, s2 = (sl.set 23 (some (.ref n))).set 22 (some (.fl ((List.range 4).map LV.lam))) := ⟨_, rfl⟩
  have n2 : s2.length = 27 := by rw [es2]; simp [hn]
  have s23 : s2[23]? = some (some (.ref n)) := by rw [es2, List.getElem?_set_ne (by decide)]; exact List.getElem?_set_self (by omega)
  have s22 : s2[22]? = some (some (.fl ((List.range 4).map LV.lam))) := by rw [es2]; exact List.getElem?_set_self (by simp [hn])
  have a2 : mFl (mCons (mC (.lam 0)) (mCons (mC (.lam 1)) (mCons (mC (.lam 2)) (mCons (mC (.lam 3)) mNil)))) (sl.set 23 (some (.ref n))) T1 = .ok (.fl ((List.range 4).map LV.lam)) T1 := rfl
  have it : mIt (mVar 22) s2 T1 = .ok (itV ((List.range 4).map LV.lam)) T1 := by simp only [callF, mSeq, mIfS, mAsg, mRet, mRetN, mDrop, mOr, mAnd, mNot, mTest, mOp, mUn, mVar, mC, mCons, mNil, mBlt, mTup, mFl, mLst, mIf, mNotV, mAndV, mOrV, toB, mSkip, mBreak, mCont, mRaise, mBM, mFld, mDGet1, mDGet2, mDPut, mDDel, mDIn, mSetFld, mSetIx, mAugFld, mMeth, mCall, mMake, mDNew, mDisp, mPCons, mPNil, kvOf, keyOf, mChain, mPar, mTru, truthL, Res.bind, lift, Fl.andThen, isNon, gN, gT, gCons, gNil, Option.bind_some, gIsN, e_gEqS, e_gEq, e_gI, e_gIc, e_gMul, e_gAdd, e_gCmp, gSub, gAddI, gFdiv, gMod,   List.map_cons, List.map_nil, List.cons_append, List.nil_append, List.append_nil, List.length_cons, List.length_nil, List.replicate, List.set_cons_succ, List.set_cons_zero, List.getElem?_cons_succ, List.getElem?_cons_zero, Nat.reduceSub, Nat.reduceAdd, if_true, if_false, Bool.false_eq_true, Bool.true_eq_false, Bool.not_true, Bool.not_false, reduceCtorEq, Nat.reduceLeDiff, mIt, s22, itOf]
  obtain ⟨T2, a3, T, eT⟩ := lc_inv (it := itV ((List.range 4).map LV.lam)) (g := gN 25) (tt := mTest (mOp (gEq true) (mToldK cg_law_told R_law_told 4 kb_law [25] (mVar 25)) (mC (.str "SizeError")))) (fe := mC (.int 1)) (s0 := wipeL s2 [25]) (xs := List.range 4) LV.lam (fun _ => false) (fun _ => .int 1) (fun M => ∃ T, M = T1 ++ T)
    (fun i M _ => by simp [itV]) (by simp) (fun j M hj ⟨T, eM⟩ => by
      have hj := List.mem_range.mp hj
      have up : ∀ {k : Nat} {o : LO}, T1[k]? = some o → M[k]? = some o := fun h => by rw [eM]; exact at_app h
      have w23 : (wipeL ((wipeL s2 [25]).set 25 (some (.lam j))) [25])[23]? = some (some (.ref n)) := by
        show (((s2.set 25 none).set 25 (some (.lam j))).set 25 none)[23]? = _
        rw [List.getElem?_set_ne (by decide), List.getElem?_set_ne (by decide), List.getElem?_set_ne (by decide)]
        exact s23
      have w25 : ((wipeL s2 [25]).set 25 (some (.lam j)))[25]? = some (some (.lam j)) := List.getElem?_set_self (by show 25 < (s2.set 25 none).length; rw [List.length_set, n2]; decide)
      obtain ⟨T', b⟩ := bad_ok (up b0) (up b2) (up b1) w23 j hj
      refine ⟨(wipeL s2 [25]).set 25 (some (.lam j)), M ++ T', rfl, ?_, ⟨T ++ T', by rw [eM, List.append_assoc]⟩, fun z => by cases z⟩
      have tk : mToldK cg_law_told R_law_told 4 kb_law [25] (mVar 25) ((wipeL s2 [25]).set 25 (some (.lam j))) M = .ok (.str "SizeError") (M ++ T') := by
        unfold mToldK
        simp only [mVar, w25, Res.bind]
        rw [if_pos hj]
        unfold mTold
        rw [b]
        rfl
      exact test1 (op2 tk (show mC (.str "SizeError") _ (M ++ T') = .ok (.str "SizeError") (M ++ T') from rfl) (by rw [e_gEqS]; rfl))) (L := T1) ⟨[], by simp⟩
  have a4 : mLc (mIt (mVar 22)) (gN 25) (mTest (mOp (gEq true) (mToldK cg_law_told R_law_told 4 kb_law [25] (mVar 25)) (mC (.str "SizeError")))) (mC (.int 1)) [25] s2 T1 = .ok (.fl []) T2 := by
    unfold mLc
    rw [it]
    simp only [Res.bind]
    rw [a3, List.filter_eq_nil_iff.mpr (fun _ _ => by decide)]
    rfl
  have up : ∀ {k : Nat} {o : LO}, T1[k]? = some o → T2[k]? = some o := fun h => by rw [eT]; exact at_app h
  have z1 : mOp (gEq false) (mLc (mIt (mVar 22)) (gN 25) (mTest (mOp (gEq true) (mToldK cg_law_told R_law_told 4 kb_law [25] (mVar 25)) (mC (.str "SizeError")))) (mC (.int 1)) [25]) (mFl mNil) s2 T1 = .ok (.bl true) T2 := op2 a4 (show mFl mNil s2 T2 = .ok (.fl []) T2 from rfl) rfl
  have z2 : mOp (gEqD false) (mFld i_Mover "ways" (mVar 23)) (mDNew (.dK [])) s2 T2 = .ok (.bl true) (T2 ++ [dk []]) := by
    have q1 : (T2 ++ [dk []])[n + 3]? = some (dk []) := at_app (up b3)
    have q2 : gEqD false (.ref (n + 3)) (.ref T2.length) (T2 ++ [dk []]) = .ok (.bl true) (T2 ++ [dk []]) := by
      simp only [gEqD, q1, at_at]
      rfl
    simp only [callF, mSeq, mIfS, mAsg, mRet, mRetN, mDrop, mOr, mAnd, mNot, mTest, mOp, mUn, mVar, mC, mCons, mNil, mBlt, mTup, mFl, mLst, mIf, mNotV, mAndV, mOrV, toB, mSkip, mBreak, mCont, mRaise, mBM, mFld, mDGet1, mDGet2, mDPut, mDDel, mDIn, mSetFld, mSetIx, mAugFld, mMeth, mCall, mMake, mDNew, mDisp, mPCons, mPNil, kvOf, keyOf, mChain, mPar, mTru, truthL, Res.bind, lift, Fl.andThen, isNon, gN, gT, gCons, gNil, Option.bind_some, gIsN, e_gEqS, e_gEq, e_gI, e_gIc, e_gMul, e_gAdd, e_gCmp, gSub, gAddI, gFdiv, gMod,   List.map_cons, List.map_nil, List.cons_append, List.nil_append, List.append_nil, List.length_cons, List.length_nil, List.replicate, List.set_cons_succ, List.set_cons_zero, List.getElem?_cons_succ, List.getElem?_cons_zero, Nat.reduceSub, Nat.reduceAdd, if_true, if_false, Bool.false_eq_true, Bool.true_eq_false, Bool.not_true, Bool.not_false, reduceCtorEq, Nat.reduceLeDiff, s23, f_ways (up b0), q2]
  have q := at_app (t := [dk []]) (up b0)
  have qv := at_app (t := [dk []]) (up b1)
  have qp := at_app (t := [dk []]) (up b2)
  obtain ⟨L', V', P', t1, t2⟩ := tick_eq (many := 1) (over := fun _ => true) (g := fun _ => 0) q qv Rep.nil qp Rep.nil (by omega) (by omega) (by omega) (fun k hk => by cases hk)
  have t1 : F_Mover_tick [.ref n, .int 1] (T2 ++ [dk []]) = .ok (.tup []) L' := t1
  have z3 : mOp (gEq false) (mMeth i_Mover "tick" F_Mover_tick [.int 1] (mVar 23) mNil) (mTup mNil) s2 (T2 ++ [dk []]) = .ok (.bl true) L' := by
    have : gEq false (.tup []) (.tup []) L' = .ok (.bl true) L' := rfl
    simp only [callF, mSeq, mIfS, mAsg, mRet, mRetN, mDrop, mOr, mAnd, mNot, mTest, mOp, mUn, mVar, mC, mCons, mNil, mBlt, mTup, mFl, mLst, mIf, mNotV, mAndV, mOrV, toB, mSkip, mBreak, mCont, mRaise, mBM, mFld, mDGet1, mDGet2, mDPut, mDDel, mDIn, mSetFld, mSetIx, mAugFld, mMeth, mCall, mMake, mDNew, mDisp, mPCons, mPNil, kvOf, keyOf, mChain, mPar, mTru, truthL, Res.bind, lift, Fl.andThen, isNon, gN, gT, gCons, gNil, Option.bind_some, gIsN, e_gEqS, e_gEq, e_gI, e_gIc, e_gMul, e_gAdd, e_gCmp, gSub, gAddI, gFdiv, gMod,   List.map_cons, List.map_nil, List.cons_append, List.nil_append, List.append_nil, List.length_cons, List.length_nil, List.replicate, List.set_cons_succ, List.set_cons_zero, List.getElem?_cons_succ, List.getElem?_cons_zero, Nat.reduceSub, Nat.reduceAdd, if_true, if_false, Bool.false_eq_true, Bool.true_eq_false, Bool.not_true, Bool.not_false, reduceCtorEq, Nat.reduceLeDiff, s23, ins_mv (z := "tick") q, t1, this]
  exact ⟨L', (seq_asg a1 rfl).trans ((seq_asg a2 (by rw [es2]; rfl)).trans (ret_ok ((andV_t z1).trans ((andV_t z2).trans z3))))⟩
theorem pure_ok (ns : List Int) : ∃ L, F_law [.sl (ns.map LV.int)] [] = .ok (.bl true) L := by
  obtain ⟨x, y, z, e⟩ := rounds_c ns []
  have e : F_law_rounds [.sl (ns.map .int), .int 1] [] = .ok (.fl [.ref 0]) [dice x y z] := e
  obtain ⟨s0, es0⟩ : ∃ s0 : Sl, s0 = some (.sl (ns.map LV.int)) :: List.replicate 26 none := ⟨_, rfl⟩
  obtain ⟨L2, s1, e1, h1⟩ := round_ok (x := x) (y := y) (z := z) (sl := s0.set 1 (some (.ref 0))) (by rw [es0]; rfl) (by rw [es0]; rfl)
  have it : mIt (mCall F_law_rounds [] (mCons (mVar 0) (mCons (mC (.int 1)) mNil))) s0 [] = .ok (itV [.ref 0]) [dice x y z] := by
    have v0 : s0[0]? = some (some (.sl (ns.map LV.int))) := by rw [es0]; rfl
    simp only [callF, mSeq, mIfS, mAsg, mRet, mRetN, mDrop, mOr, mAnd, mNot, mTest, mOp, mUn, mVar, mC, mCons, mNil, mBlt, mTup, mFl, mLst, mIf, mNotV, mAndV, mOrV, toB, mSkip, mBreak, mCont, mRaise, mBM, mFld, mDGet1, mDGet2, mDPut, mDDel, mDIn, mSetFld, mSetIx, mAugFld, mMeth, mCall, mMake, mDNew, mDisp, mPCons, mPNil, kvOf, keyOf, mChain, mPar, mTru, truthL, Res.bind, lift, Fl.andThen, isNon, gN, gT, gCons, gNil, Option.bind_some, gIsN, e_gEqS, e_gEq, e_gI, e_gIc, e_gMul, e_gAdd, e_gCmp, gSub, gAddI, gFdiv, gMod,   List.map_cons, List.map_nil, List.cons_append, List.nil_append, List.append_nil, List.length_cons, List.length_nil, List.replicate, List.set_cons_succ, List.set_cons_zero, List.getElem?_cons_succ, List.getElem?_cons_zero, Nat.reduceSub, Nat.reduceAdd, if_true, if_false, Bool.false_eq_true, Bool.true_eq_false, Bool.not_true, Bool.not_false, reduceCtorEq, Nat.reduceLeDiff, mIt, v0, e, itOf]
  have fo : mFor (mIt (mCall F_law_rounds [] (mCons (mVar 0) (mCons (mC (.int 1)) mNil)))) (gN 1) ROUND s0 [] = .next s1 L2 := by
    unfold mFor
    rw [it]
    simp only [lift]
    obtain ⟨k, ek⟩ : ∃ k, FUEL = k + 2 := ⟨999998, rfl⟩
    rw [ek]
    unfold forGo
    simp only [show itV [LV.ref 0] 0 [LO.lst [.int x, .int y, .int z]] = some (some (.ref 0)) from rfl, gN, e1]
    unfold forGo
    rfl
  obtain ⟨L3, e3⟩ := tail_ok (L := L2) h1
  have : B_law s0 [] = .ret (.bl true) L3 := (seq_nx fo).trans e3
  rw [es0] at this
  exact ⟨L3, call_ret this⟩
end
end Q.K18
end
section
set_option Elab.async false
set_option linter.all false
set_option maxRecDepth 100000
set_option maxHeartbeats 0
/-! ### the head -/
namespace Q.K18
open PySem PySem.Spec L2 Q
def fa0 : List He.Fa := [.free "abs", .free "int", .free "len", .free "min", .free "max", .free "sorted", .free "tuple", .free "list", .free "dict", .free "str", .free "range", .free "zip", .free "enumerate", .free "sum", .free "any", .free "all", .free "isinstance", .free "reversed", .free "bool", .glo "need_way"]
def fa1 : List He.Fa := [.glo "share_of", .meth "Path" "is_over", .meth "Path" "value_at", .meth "Mover" "set_way", .meth "Mover" "value_now", .meth "Mover" "stay", .meth "Mover" "longest_back", .meth "Mover" "go_to", .meth "Mover" "tick", .meth "Mover" "moving", .glo "_law_dice", .glo "_law_roll", .glo "_law_rounds", .glo "_law_at", .glo "law", .glo "_law_told", .glo "SizeError", .exc "SizeError", .glo "Path", .cls "Path"]
def fa2 : List He.Fa := [.mkr "Path", .noat "Path" "first", .noat "Path" "last", .noat "Path" "start", .noat "Path" "length", .noat "Path" "way", .glo "Mover", .cls "Mover", .mkr "Mover", .noat "Mover" "values_now", .noat "Mover" "paths", .noat "Mover" "ways", .noat "Mover" "time", .exm "SizeError" "SizeError" true, .glo "WAYS", .glo "AT_ONCE"]
def fa : List He.Fa := fa0 ++ fa1 ++ fa2
def d_need_way : He.DefD := ⟨("need_way", none), "need_way", "need_way", defArgs s_need_way, defBody s_need_way, defScope s_need_way, [], []⟩
def d_share_of : He.DefD := ⟨("share_of", none), "share_of", "share_of", defArgs s_share_of, defBody s_share_of, defScope s_share_of, [], []⟩
def d_Path_init : He.DefD := ⟨("Path", some "__init__"), "__init__", "Path.__init__", defArgs s_Path_init, defBody s_Path_init, defScope s_Path_init, [], []⟩
def d_Path_is_over : He.DefD := ⟨("Path", some "is_over"), "is_over", "Path.is_over", defArgs s_Path_is_over, defBody s_Path_is_over, defScope s_Path_is_over, [], []⟩
def d_Path_value_at : He.DefD := ⟨("Path", some "value_at"), "value_at", "Path.value_at", defArgs s_Path_value_at, defBody s_Path_value_at, defScope s_Path_value_at, [], []⟩
def d_Mover_init : He.DefD := ⟨("Mover", some "__init__"), "__init__", "Mover.__init__", defArgs s_Mover_init, defBody s_Mover_init, defScope s_Mover_init, [], []⟩
def d_Mover_set_way : He.DefD := ⟨("Mover", some "set_way"), "set_way", "Mover.set_way", defArgs s_Mover_set_way, defBody s_Mover_set_way, defScope s_Mover_set_way, [], []⟩
def d_Mover_value_now : He.DefD := ⟨("Mover", some "value_now"), "value_now", "Mover.value_now", defArgs s_Mover_value_now, defBody s_Mover_value_now, defScope s_Mover_value_now, [], []⟩
def d_Mover_stay : He.DefD := ⟨("Mover", some "stay"), "stay", "Mover.stay", defArgs s_Mover_stay, defBody s_Mover_stay, defScope s_Mover_stay, [], []⟩
def d_Mover_longest_back : He.DefD := ⟨("Mover", some "longest_back"), "longest_back", "Mover.longest_back", defArgs s_Mover_longest_back, defBody s_Mover_longest_back, defScope s_Mover_longest_back, [], []⟩
def d_Mover_go_to : He.DefD := ⟨("Mover", some "go_to"), "go_to", "Mover.go_to", defArgs s_Mover_go_to, defBody s_Mover_go_to, defScope s_Mover_go_to, [], []⟩
def d_Mover_tick : He.DefD := ⟨("Mover", some "tick"), "tick", "Mover.tick", defArgs s_Mover_tick, defBody s_Mover_tick, defScope s_Mover_tick, [.int 1], []⟩
def d_Mover_moving : He.DefD := ⟨("Mover", some "moving"), "moving", "Mover.moving", defArgs s_Mover_moving, defBody s_Mover_moving, defScope s_Mover_moving, [], []⟩
def d_law_dice : He.DefD := ⟨("_law_dice", none), "_law_dice", "_law_dice", defArgs s_law_dice, defBody s_law_dice, defScope s_law_dice, [], []⟩
def d_law_roll : He.DefD := ⟨("_law_roll", none), "_law_roll", "_law_roll", defArgs s_law_roll, defBody s_law_roll, defScope s_law_roll, [], []⟩
def d_law_rounds : He.DefD := ⟨("_law_rounds", none), "_law_rounds", "_law_rounds", defArgs s_law_rounds, defBody s_law_rounds, defScope s_law_rounds, [], []⟩
def d_law_at : He.DefD := ⟨("_law_at", none), "_law_at", "_law_at", defArgs s_law_at, defBody s_law_at, defScope s_law_at, [], []⟩
def d_law : He.DefD := ⟨("law", none), "law", "law", defArgs s_law, defBody s_law, defScope s_law, [], []⟩
def d_law_told : He.DefD := ⟨("_law_told", none), "_law_told", "_law_told", defArgs s_law_told, defBody s_law_told, defScope s_law_told, [], []⟩
def fn : List He.DefD := [d_need_way, d_share_of, d_Path_init, d_Path_is_over, d_Path_value_at, d_Mover_init, d_Mover_set_way, d_Mover_value_now, d_Mover_stay, d_Mover_longest_back, d_Mover_go_to, d_Mover_tick, d_Mover_moving, d_law_dice, d_law_roll, d_law_rounds, d_law_at, d_law, d_law_told]
def tf : List He.Defn := [("law", none)]
def ex (K : PySem.W.Frag) : Bool := (He.tupB K "WAYS" [.str "even", .str "slow", .str "fast", .str "both"]) && (He.tupB K "AT_ONCE" [.int 0, .str "even"]) && true
abbrev R : PySem.W.OpenRow := PySem.W.OpenLaw.row PySem.Challenge.rw_pagestack_k18_values_that_go_in_time
abbrev hk : PySem.W.Hook := He.hookX 6 fa fn [] tf ex
def ob (s : PySem.W.SharedT) : He.AlX := He.obsX 6 fa fn [] tf ex (HandSHeadRun.getT s)
theorem ob_eq (s : PySem.W.SharedT) : ob s = hk.obs s.abs := He.obsX_eq (HandSHeadRun.getT_eq s)
theorem run (w : World) : HandSHeadRun.RunEq R (PySem.W.view R.prog [16]) hk ob 4000 ["PageError", "SizeError", "WAYS", "AT_ONCE", "need_way", "share_of", "Path", "Mover", "_law_dice", "_law_roll", "_law_rounds", "_law_told", "_law_at"] w := by
  intro os
  kernel_rfl
def kt (K : PySem.W.Frag) : Kt := ⟨K, fun n => if n = 0 then He.ga K "SizeError" else if n = 1 then He.ga K "Path" else if n = 2 then He.ga K "Mover" else 0, [], [((He.cT K ("law", none)).2, (PyProof.Rows.envOfC "law" (defScope s_law) 0 0 .none).qual ++ ("<lambda>" : Str))], fun _ _ _ => .lst [], ""⟩
theorem law_at {l : PySem.W.OpenLaw} {w : World} {K : PySem.W.Frag} {mg : Str → Option Value} {f : Addr} {h : Heap} (X : K.In h) (G : h.Ns mainGlobals mg) (hfa : mg ("law" : Str) = some (.ref f)) (c : He.SaysX fa fn [] tf ex w h K)
    (hpure : ∀ ns : List Int, ns.length ≤ 63 → ∃ L, F_law [.sl (ns.map LV.int)] [] = .ok (.bl true) L) : LamX.LawAtS l w K (L2.CX l.prog w) 7 63 "script" mg f h := by
  have D := c.t.d
  obtain ⟨fd_need_way, D_need_way⟩ := D.def_ 0 (d := d_need_way) rfl
  obtain ⟨fd_share_of, D_share_of⟩ := D.def_ 1 (d := d_share_of) rfl
  obtain ⟨fd_Path_init, D_Path_init⟩ := D.def_ 2 (d := d_Path_init) rfl
  obtain ⟨fd_Path_is_over, D_Path_is_over⟩ := D.def_ 3 (d := d_Path_is_over) rfl
  obtain ⟨fd_Path_value_at, D_Path_value_at⟩ := D.def_ 4 (d := d_Path_value_at) rfl
  obtain ⟨fd_Mover_init, D_Mover_init⟩ := D.def_ 5 (d := d_Mover_init) rfl
  obtain ⟨fd_Mover_set_way, D_Mover_set_way⟩ := D.def_ 6 (d := d_Mover_set_way) rfl
  obtain ⟨fd_Mover_value_now, D_Mover_value_now⟩ := D.def_ 7 (d := d_Mover_value_now) rfl
  obtain ⟨fd_Mover_stay, D_Mover_stay⟩ := D.def_ 8 (d := d_Mover_stay) rfl
  obtain ⟨fd_Mover_longest_back, D_Mover_longest_back⟩ := D.def_ 9 (d := d_Mover_longest_back) rfl
  obtain ⟨fd_Mover_go_to, D_Mover_go_to⟩ := D.def_ 10 (d := d_Mover_go_to) rfl
  obtain ⟨fd_Mover_tick, D_Mover_tick⟩ := D.def_ 11 (d := d_Mover_tick) rfl
  obtain ⟨fd_Mover_moving, D_Mover_moving⟩ := D.def_ 12 (d := d_Mover_moving) rfl
  obtain ⟨fd_law_dice, D_law_dice⟩ := D.def_ 13 (d := d_law_dice) rfl
  obtain ⟨fd_law_roll, D_law_roll⟩ := D.def_ 14 (d := d_law_roll) rfl
  obtain ⟨fd_law_rounds, D_law_rounds⟩ := D.def_ 15 (d := d_law_rounds) rfl
  obtain ⟨fd_law_at, D_law_at⟩ := D.def_ 16 (d := d_law_at) rfl
  obtain ⟨fd_law, D_law⟩ := D.def_ 17 (d := d_law) rfl
  obtain ⟨fd_law_told, D_law_told⟩ := D.def_ 18 (d := d_law_told) rfl
  have e := hfa.symm.trans (He.glo_ok X G (D.fact 34 (f := .glo "law") rfl))
  cases e
  have hex := c.more
  simp only [ex, Bool.and_eq_true, decide_eq_true_eq] at hex
  obtain ⟨⟨hx0, hx1⟩, _⟩ := hex
  have b_need_way : Binds K fd_need_way ["length", "way"] [] := FunD.bindsN D_need_way fun _ _ _ _ _ _ us hl => match us, hl with | [_, _], _ => rfl
  have b_share_of : Binds K fd_share_of ["gone", "length", "way"] [] := FunD.bindsN D_share_of fun _ _ _ _ _ _ us hl => match us, hl with | [_, _, _], _ => rfl
  have b_Path_init : Binds K fd_Path_init ["self", "first", "last", "start", "length", "way"] [] := FunD.bindsN D_Path_init fun _ _ _ _ _ _ us hl => match us, hl with | [_, _, _, _, _, _], _ => rfl
  have b_Path_is_over : Binds K fd_Path_is_over ["self", "time"] [] := FunD.bindsN D_Path_is_over fun _ _ _ _ _ _ us hl => match us, hl with | [_, _], _ => rfl
  have b_Path_value_at : Binds K fd_Path_value_at ["self", "time"] [] := FunD.bindsN D_Path_value_at fun _ _ _ _ _ _ us hl => match us, hl with | [_, _], _ => rfl
  have b_Mover_init : Binds K fd_Mover_init ["self"] [] := FunD.bindsN D_Mover_init fun _ _ _ _ _ _ us hl => match us, hl with | [_], _ => rfl
  have b_Mover_set_way : Binds K fd_Mover_set_way ["self", "name", "length", "way"] [] := FunD.bindsN D_Mover_set_way fun _ _ _ _ _ _ us hl => match us, hl with | [_, _, _, _], _ => rfl
  have b_Mover_value_now : Binds K fd_Mover_value_now ["self", "name"] [] := FunD.bindsN D_Mover_value_now fun _ _ _ _ _ _ us hl => match us, hl with | [_, _], _ => rfl
  have b_Mover_stay : Binds K fd_Mover_stay ["self", "name", "value"] [] := FunD.bindsN D_Mover_stay fun _ _ _ _ _ _ us hl => match us, hl with | [_, _, _], _ => rfl
  have b_Mover_longest_back : Binds K fd_Mover_longest_back ["self", "name", "last", "length"] [] := FunD.bindsN D_Mover_longest_back fun _ _ _ _ _ _ us hl => match us, hl with | [_, _, _, _], _ => rfl
  have b_Mover_go_to : Binds K fd_Mover_go_to ["self", "name", "last"] [] := FunD.bindsN D_Mover_go_to fun _ _ _ _ _ _ us hl => match us, hl with | [_, _, _], _ => rfl
  have b_Mover_tick : Binds K fd_Mover_tick ["self", "many"] [] := bindsW D_Mover_tick (by simp [d_Mover_tick, He.DefD.dvs]) fun _ _ _ _ _ _ _ us its hl hi => match us, hl, its, hi with | [_, _], _, [_], _ => ⟨_, rfl, rfl⟩
  have bd_Mover_tick : ∃ ds, Vals [.int 1] ds ∧ Binds K fd_Mover_tick ["self", "many"] ds := FunD.binds1 D_Mover_tick 1 0 (by simp [d_Mover_tick, He.DefD.dvs]) (by rfl) fun _ _ _ _ _ _ _ us its hl hi => match us, hl, its, hi with | [_], _, [_], _ => ⟨_, rfl, rfl⟩
  have b_Mover_moving : Binds K fd_Mover_moving ["self"] [] := FunD.bindsN D_Mover_moving fun _ _ _ _ _ _ us hl => match us, hl with | [_], _ => rfl
  have b_law_dice : Binds K fd_law_dice ["cell"] [] := FunD.bindsN D_law_dice fun _ _ _ _ _ _ us hl => match us, hl with | [_], _ => rfl
  have b_law_roll : Binds K fd_law_roll ["dice", "many"] [] := FunD.bindsN D_law_roll fun _ _ _ _ _ _ us hl => match us, hl with | [_, _], _ => rfl
  have b_law_rounds : Binds K fd_law_rounds ["script", "most"] [] := FunD.bindsN D_law_rounds fun _ _ _ _ _ _ us hl => match us, hl with | [_, _], _ => rfl
  have b_law_at : Binds K fd_law_at ["row", "time"] [] := FunD.bindsN D_law_at fun _ _ _ _ _ _ us hl => match us, hl with | [_, _], _ => rfl
  have b_law : Binds K fd_law ["script"] [] := FunD.bindsN D_law fun _ _ _ _ _ _ us hl => match us, hl with | [_], _ => rfl
  have b_law_told : Binds K fd_law_told ["what"] [] := FunD.bindsN D_law_told fun _ _ _ _ _ _ us hl => match us, hl with | [_], _ => rfl
  obtain ⟨x1_SizeError, x2_SizeError, x3_SizeError, x4_SizeError⟩ := He.exc_ok (D.fact 37 (f := .exc "SizeError") rfl)
  let a : Ad := { need_way := He.fAd K ("need_way", none), fd_need_way := fd_need_way, share_of := He.fAd K ("share_of", none), fd_share_of := fd_share_of, Path_init := He.fAd K ("Path", some "__init__"), fd_Path_init := fd_Path_init, Path_is_over := He.fAd K ("Path", some "is_over"), fd_Path_is_over := fd_Path_is_over, Path_value_at := He.fAd K ("Path", some "value_at"), fd_Path_value_at := fd_Path_value_at, Mover_init := He.fAd K ("Mover", some "__init__"), fd_Mover_init := fd_Mover_init, Mover_set_way := He.fAd K ("Mover", some "set_way"), fd_Mover_set_way := fd_Mover_set_way, Mover_value_now := He.fAd K ("Mover", some "value_now"), fd_Mover_value_now := fd_Mover_value_now, Mover_stay := He.fAd K ("Mover", some "stay"), fd_Mover_stay := fd_Mover_stay, Mover_longest_back := He.fAd K ("Mover", some "longest_back"), fd_Mover_longest_back := fd_Mover_longest_back, Mover_go_to := He.fAd K ("Mover", some "go_to"), fd_Mover_go_to := fd_Mover_go_to, Mover_tick := He.fAd K ("Mover", some "tick"), fd_Mover_tick := fd_Mover_tick, Mover_moving := He.fAd K ("Mover", some "moving"), fd_Mover_moving := fd_Mover_moving, law_dice := He.fAd K ("_law_dice", none), fd_law_dice := fd_law_dice, law_roll := He.fAd K ("_law_roll", none), fd_law_roll := fd_law_roll, law_rounds := He.fAd K ("_law_rounds", none), fd_law_rounds := fd_law_rounds, law_at := He.fAd K ("_law_at", none), fd_law_at := fd_law_at, law := He.fAd K ("law", none), fd_law := fd_law, code_law := (He.cT K ("law", none)).1, tab_law := (He.cT K ("law", none)).2, o_WAYS := He.ga K "WAYS", o_AT_ONCE := He.ga K "AT_ONCE", law_told := He.fAd K ("_law_told", none), fd_law_told := fd_law_told }
  have bA := FunD.bindsA (ps := ["script"]) D_law fun _ _ _ _ _ _ us hl => match us, hl with | [_], _ => rfl
  refine ⟨fd_law, tf.map (He.cT K), spA (kt K) 1 F_law, fun p hp => ?_, fun p hp => ?_, fun p hp => ?_, fun s u => bA s [u] rfl, fun H z ns hl _ hT hS => ?_, fun base KB GB TB => ?_⟩
  · obtain ⟨q, hq, rfl⟩ := List.mem_map.mp hp
    exact c.empty q hq
  · obtain ⟨q, hq, rfl⟩ := List.mem_map.mp hp
    exact c.out q hq
  · obtain ⟨q, hq, rfl⟩ := List.mem_map.mp hp
    exact PySem.W.codeHd_of_K X (c.hd q hq)
  · have hT : ∀ q, q ∈ tf → H (He.cT K q).2 = some (.tbl #[]) := fun q hq => hT _ (List.mem_map.mpr ⟨q, hq, rfl⟩)
    refine fun lo lq => law_starts (K := (kt K).kept lo lq) (fun P hP => ?_) (fun p hp => ?_) hS (hpure ns hl)
    · exact absurd hP (by simp [Kt.kept, kt])
    · rw [List.mem_singleton.mp hp]
      exact ⟨hT _ (by simp [tf]), fun hP => absurd hP (by simp [Kt.kept, kt])⟩
  · have TB : ∀ q, q ∈ tf → LamX.TabB base mg (He.cT K q).1 (He.cT K q).2 := fun q hq => TB _ (List.mem_map.mpr ⟨q, hq, rfl⟩)
    exact ok_law (a := a) (K := kt K) {
      bi := ⟨He.free_ok X G (D.fact 0 (f := .free "abs") rfl), He.free_ok X G (D.fact 1 (f := .free "int") rfl), He.free_ok X G (D.fact 2 (f := .free "len") rfl), He.free_ok X G (D.fact 3 (f := .free "min") rfl), He.free_ok X G (D.fact 4 (f := .free "max") rfl), He.free_ok X G (D.fact 5 (f := .free "sorted") rfl), He.free_ok X G (D.fact 6 (f := .free "tuple") rfl), He.free_ok X G (D.fact 7 (f := .free "list") rfl), He.free_ok X G (D.fact 8 (f := .free "dict") rfl), He.free_ok X G (D.fact 9 (f := .free "str") rfl), He.free_ok X G (D.fact 10 (f := .free "range") rfl), He.free_ok X G (D.fact 11 (f := .free "zip") rfl), He.free_ok X G (D.fact 12 (f := .free "enumerate") rfl), He.free_ok X G (D.fact 13 (f := .free "sum") rfl), He.free_ok X G (D.fact 14 (f := .free "any") rfl), He.free_ok X G (D.fact 15 (f := .free "all") rfl), He.free_ok X G (D.fact 16 (f := .free "isinstance") rfl), He.free_ok X G (D.fact 17 (f := .free "reversed") rfl), He.free_ok X G (D.fact 18 (f := .free "bool") rfl)⟩,
      f_need_way := He5.fun_of D_need_way,
      g_need_way := He.glo_ok X G (D.fact 19 (f := .glo "need_way") rfl),
      k_need_way := D_need_way.kp,
      b_need_way := b_need_way,
      f_share_of := He5.fun_of D_share_of,
      g_share_of := He.glo_ok X G (D.fact 20 (f := .glo "share_of") rfl),
      k_share_of := D_share_of.kp,
      b_share_of := b_share_of,
      f_Path_init := He5.fun_of D_Path_init,
      M_Path := He.mkr_ok (D.fact 40 (f := .mkr "Path") rfl),
      bi_Path := b_Path_init,
      f_Path_is_over := He5.fun_of D_Path_is_over,
      m_Path_is_over := He.meth_ok (D.fact 21 (f := .meth "Path" "is_over") rfl),
      b_Path_is_over := b_Path_is_over,
      f_Path_value_at := He5.fun_of D_Path_value_at,
      m_Path_value_at := He.meth_ok (D.fact 22 (f := .meth "Path" "value_at") rfl),
      b_Path_value_at := b_Path_value_at,
      f_Mover_init := He5.fun_of D_Mover_init,
      M_Mover := He.mkr_ok (D.fact 48 (f := .mkr "Mover") rfl),
      bi_Mover := b_Mover_init,
      f_Mover_set_way := He5.fun_of D_Mover_set_way,
      m_Mover_set_way := He.meth_ok (D.fact 23 (f := .meth "Mover" "set_way") rfl),
      b_Mover_set_way := b_Mover_set_way,
      f_Mover_value_now := He5.fun_of D_Mover_value_now,
      m_Mover_value_now := He.meth_ok (D.fact 24 (f := .meth "Mover" "value_now") rfl),
      b_Mover_value_now := b_Mover_value_now,
      f_Mover_stay := He5.fun_of D_Mover_stay,
      m_Mover_stay := He.meth_ok (D.fact 25 (f := .meth "Mover" "stay") rfl),
      b_Mover_stay := b_Mover_stay,
      f_Mover_longest_back := He5.fun_of D_Mover_longest_back,
      m_Mover_longest_back := He.meth_ok (D.fact 26 (f := .meth "Mover" "longest_back") rfl),
      b_Mover_longest_back := b_Mover_longest_back,
      f_Mover_go_to := He5.fun_of D_Mover_go_to,
      m_Mover_go_to := He.meth_ok (D.fact 27 (f := .meth "Mover" "go_to") rfl),
      b_Mover_go_to := b_Mover_go_to,
      f_Mover_tick := funV_of D_Mover_tick,
      bd_Mover_tick := bd_Mover_tick,
      m_Mover_tick := He.meth_ok (D.fact 28 (f := .meth "Mover" "tick") rfl),
      b_Mover_tick := b_Mover_tick,
      f_Mover_moving := He5.fun_of D_Mover_moving,
      m_Mover_moving := He.meth_ok (D.fact 29 (f := .meth "Mover" "moving") rfl),
      b_Mover_moving := b_Mover_moving,
      f_law_dice := He5.fun_of D_law_dice,
      g_law_dice := He.glo_ok X G (D.fact 30 (f := .glo "_law_dice") rfl),
      k_law_dice := D_law_dice.kp,
      b_law_dice := b_law_dice,
      f_law_roll := He5.fun_of D_law_roll,
      g_law_roll := He.glo_ok X G (D.fact 31 (f := .glo "_law_roll") rfl),
      k_law_roll := D_law_roll.kp,
      b_law_roll := b_law_roll,
      f_law_rounds := He5.fun_of D_law_rounds,
      g_law_rounds := He.glo_ok X G (D.fact 32 (f := .glo "_law_rounds") rfl),
      k_law_rounds := D_law_rounds.kp,
      b_law_rounds := b_law_rounds,
      f_law_at := He5.fun_of D_law_at,
      g_law_at := He.glo_ok X G (D.fact 33 (f := .glo "_law_at") rfl),
      k_law_at := D_law_at.kp,
      b_law_at := b_law_at,
      f_law := funC_of (K := K) (st := s_law) (p := ("law", none)) D_law,
      t_law := List.mem_cons_self,
      u_law := fun p hp _ => by rw [List.mem_singleton.mp hp],
      TL_law := TB _ (by simp [tf]),
      g_law := He.glo_ok X G (D.fact 34 (f := .glo "law") rfl),
      k_law := D_law.kp,
      b_law := b_law,
      g_SizeError := He.glo_ok X G (D.fact 36 (f := .glo "SizeError") rfl),
      x_SizeError := x1_SizeError,
      kc_SizeError := x2_SizeError,
      rb_SizeError := x3_SizeError,
      rt_SizeError := x4_SizeError,
      g_Path := He.glo_ok X G (D.fact 38 (f := .glo "Path") rfl),
      c_Path := He.cls_ok (D.fact 39 (f := .cls "Path") rfl),
      n_Path_first := He.noat_ok (D.fact 41 (f := .noat "Path" "first") rfl),
      n_Path_last := He.noat_ok (D.fact 42 (f := .noat "Path" "last") rfl),
      n_Path_start := He.noat_ok (D.fact 43 (f := .noat "Path" "start") rfl),
      n_Path_length := He.noat_ok (D.fact 44 (f := .noat "Path" "length") rfl),
      n_Path_way := He.noat_ok (D.fact 45 (f := .noat "Path" "way") rfl),
      g_Mover := He.glo_ok X G (D.fact 46 (f := .glo "Mover") rfl),
      c_Mover := He.cls_ok (D.fact 47 (f := .cls "Mover") rfl),
      n_Mover_values_now := He.noat_ok (D.fact 49 (f := .noat "Mover" "values_now") rfl),
      n_Mover_paths := He.noat_ok (D.fact 50 (f := .noat "Mover" "paths") rfl),
      n_Mover_ways := He.noat_ok (D.fact 51 (f := .noat "Mover" "ways") rfl),
      n_Mover_time := He.noat_ok (D.fact 52 (f := .noat "Mover" "time") rfl),
      v_WAYS := He.glo_ok X G (D.fact 54 (f := .glo "WAYS") rfl),
      s_WAYS := stT_of (K := kt K) hx0,
      v_AT_ONCE := He.glo_ok X G (D.fact 55 (f := .glo "AT_ONCE") rfl),
      s_AT_ONCE := stT_of (K := kt K) hx1,
      f_law_told := He5.fun_of D_law_told,
      g_law_told := He.glo_ok X G (D.fact 35 (f := .glo "_law_told") rfl),
      b_law_told := b_law_told,
      e_law_told := fun c hc => (by simp only [cg_law_told, Bool.or_eq_true, beq_iff_eq] at hc; subst hc; exact He.exm_ok (D.fact 53 (f := .exm "SizeError" "SizeError" true) rfl)) }
open PySem.W PySem.Calls PyProof.Rows in
theorem holds_of (hpure : ∀ ns : List Int, ns.length ≤ 63 → ∃ L, F_law [.sl (ns.map LV.int)] [] = .ok (.bl true) L) : PySem.Challenge.rw_pagestack_k18_values_that_go_in_time.Holds := by
  w_on; o_law
  refine HandSHeadRun.head_any (r := PySem.W.OpenLaw.row PySem.Challenge.rw_pagestack_k18_values_that_go_in_time) (q := PySem.W.view (PySem.W.OpenLaw.row PySem.Challenge.rw_pagestack_k18_values_that_go_in_time).prog [16]) (H := hk) (ob := ob) (M := 4000) (loose := ["PageError", "SizeError", "WAYS", "AT_ONCE", "need_way", "share_of", "Path", "Mover", "_law_dice", "_law_roll", "_law_rounds", "_law_told", "_law_at"]) (d := HandSHeadRun.topDef (PySem.W.OpenLaw.row PySem.Challenge.rw_pagestack_k18_values_that_go_in_time).prog 16) (kwd := []) ob_eq
    (by kernel_rfl) (fun s => by kernel_rfl) run (by kernel_rfl) (by kernel_rfl) (by kernel_rfl) (by rfl) (by first | assumption | decide +kernel) (by decide +kernel) ⟨rfl, rfl, rfl, rfl, rfl, by decide +kernel⟩ ?hw ?hc
  case hw => w_witness2
  case hc =>
    refine LamX.walk_ofTsE (l := PySem.Challenge.rw_pagestack_k18_values_that_go_in_time) (n := 63) (k := 7) (x := "script") (CX := fun w => L2.CX (PySem.Challenge.rw_pagestack_k18_values_that_go_in_time).prog w) rfl (by decide) (by kernel_rfl) ⟨rfl, by decide, by decide⟩ ?F (fun w H s e s' z => noStop_none z)
    intro w mg fa h Y G hmg0
    obtain ⟨K, KX, c⟩ := Y
    have hmg : mg ("law" : PySem.Str) = some (.ref fa) := by
      have e : (HandSHeadRun.topDef (PySem.W.OpenLaw.row PySem.Challenge.rw_pagestack_k18_values_that_go_in_time).prog 16).name = ("law" : PySem.Str) := by kernel_rfl
      rw [← e]
      exact hmg0
    exact ⟨K, KX, law_at KX G hmg c hpure⟩
end Q.K18
end
open PySem PySem.W PyProof.Rows
set_option Elab.async false
set_option maxRecDepth 100000 in
set_option maxHeartbeats 8000000 in
theorem PySem.Challenge.cw_pagestack_k18_values_that_go_in_time_holds : PySem.Challenge.rw_pagestack_k18_values_that_go_in_time.Holds := by
  exact Q.K18.holds_of (fun ns _ => Q.K18.pure_ok ns)
