import PyProof.Rows.All
import Wide.All
import OpenK.AllK
import Wide.FinOn
import HandS.ForMost
import HandS.More
import HandS.Exc
import HandS.ExcOwn
import HandS.TryOnly
import HandS.WordsExc
import HandS.Flow
import PyProof.Draws
import PyProof.EnumMake
import HandS.Iter
import HandS.AnyAll
import HandS.Lambda
import HandS.TupAny
import HandS.GenList
import PyProof.GenCompD
import PyProof.TupleOfGen
import HandS.Conv
import HandS.HeadHook4
import HandS.HeadWalk
import HandS.HeadNt
import HandS.NestedK
import HandS.Head2
import PySem.Challenge.RW_pagestack_k07_cells_that_are_painted
import KE.DataEq
section
set_option Elab.async false
set_option linter.all false
set_option maxRecDepth 100000
set_option maxHeartbeats 4000000
/-! rules by what the abstract heap holds, one name a built-in; small facts of heaps -/
namespace Vc
open PySem PySem.Spec PyProof.Rows L2
/-! ### heaps -/
theorem same_new {H : Hp} {p : Addr} {o : HO} (hp : H p = none) : Same H (upd H p o) := fun b u hb => by rw [upd_ne (ne_of_none hb hp)]; exact hb
theorem upd_free {H : Hp} {a b : Addr} {o : HO} (h : upd H a o b = none) : b ≠ a ∧ H b = none := by
  by_cases e : b = a
  · subst e; rw [upd_same] at h; cases h
  · exact ⟨e, by rw [upd_ne e] at h; exact h⟩
theorem new_ne {H : Hp} {a b : Addr} {o : HO} (h : H a = some o) (h' : H b = none) : b ≠ a := (ne_of_none h h').symm
theorem len_le {α : Type} {xs : List α} (h : Nat.ble xs.length 1000 = true) : xs.length ≤ sizeLine := Nat.le_trans (Nat.le_of_ble_eq_true h) (by decide)
/-! ### ways -/
theorem itB {c : Prop} [Decidable c] {A B : Prop} (h1 : c → A) (h2 : ¬ c → B) : if decide c = true then A else B := by
  by_cases h : c
  · rw [if_pos (by simpa using h)]; exact h1 h
  · rw [if_neg (by simpa using h)]; exact h2 h
theorem itNB {c : Prop} [Decidable c] {A B : Prop} (h1 : ¬ c → A) (h2 : c → B) : if (!decide c) = true then A else B := by
  by_cases h : c
  · rw [if_neg (by simpa using h)]; exact h2 h
  · rw [if_pos (by simpa using h)]; exact h1 h
theorem itBi {i j : Int} {A B : Prop} (h1 : i = j → A) (h2 : ¬ i = j → B) : if decide (V.int i = V.int j) = true then A else B :=
  itB (fun h => h1 (by cases h; rfl)) (fun h => h2 fun e => h (by rw [e]))
theorem itNBi {i j : Int} {A B : Prop} (h1 : ¬ i = j → A) (h2 : i = j → B) : if (!decide (V.int i = V.int j)) = true then A else B :=
  itNB (fun h => h1 fun e => h (by rw [e])) (fun h => h2 (by cases h; rfl))
theorem itBs {i j : Str} {A B : Prop} (h1 : i = j → A) (h2 : ¬ i = j → B) : if decide (V.str i = V.str j) = true then A else B :=
  itB (fun h => h1 (by cases h; rfl)) (fun h => h2 fun e => h (by rw [e]))
theorem itNBs {i j : Str} {A B : Prop} (h1 : ¬ i = j → A) (h2 : i = j → B) : if (!decide (V.str i = V.str j)) = true then A else B :=
  itNB (fun h => h1 fun e => h (by rw [e])) (fun h => h2 (by cases h; rfl))
theorem itb {c : Bool} {A B : Prop} (h1 : c = true → A) (h2 : c = false → B) : if c = true then A else B := by
  cases c
  · exact iteF (h2 rfl)
  · exact iteT (h1 rfl)
theorem int_eq {i j : Int} (h : V.int i = V.int j) : i = j := by cases h; rfl
theorem str_eq {i j : Str} (h : V.str i = V.str j) : i = j := by cases h; rfl
section
variable {X : Cx} {a b e : Expr} {es : List Expr} {pos p : Pos} {ta tb : TE} {t : TA}
/-! ### a choice of rules -/
theorem pe_either {t u : TE} (h1 : PE X e t) (h2 : PE X e u) : PE X e (fun σ H Q => t σ H Q ∨ u σ H Q) :=
  ⟨fun pins s σ H Q I h => h.elim (fun h => h1.run pins s σ H Q I h) (fun h => h2.run pins s σ H Q I h)⟩
theorem op_either {f : Value → Value → Sem Value} {r r' : R2} (h1 : OpR X f r) (h2 : OpR X f r') : OpR X f (fun x y H Q => r x y H Q ∨ r' x y H Q) := by
  intro pins s σ H x y v u Q I rx ry h
  rcases h with h | h
  · exact h1 pins s σ H x y v u Q I rx ry h
  · exact h2 pins s σ H x y v u Q I rx ry h
/-! ### items of what is held -/
theorem ix_l : IxR X (fun x y H Q => ∃ i, y = .int i ∧ ∃ p xs v, x = .ref p ∧ H p = some (.lst xs) ∧ atI xs i = some v ∧ Q v H) := by
  intro value slice pins s σ H x y v u Q I rx ry h hs
  obtain ⟨i, rfl, p, xs, v', rfl, hp, hv, q⟩ := h
  exact ix_list value slice pins s σ H _ _ v u Q I rx ry ⟨p, xs, i, v', rfl, rfl, SqL.of hp, hv, q⟩ hs
theorem ix_t : IxR X (fun x y H Q => ∃ i, y = .int i ∧ ∃ p xs v, x = .ref p ∧ H p = some (.tup xs) ∧ atI xs i = some v ∧ Q v H) := by
  intro value slice pins s σ H x y v u Q I rx ry h hs
  obtain ⟨i, rfl, p, xs, v', rfl, hp, hv, q⟩ := h
  exact ix_tup value slice pins s σ H _ _ v u Q I rx ry ⟨p, xs, i, v', rfl, rfl, SqT.of hp, hv, q⟩ hs
theorem ix_s : IxR X (fun x y H Q => ∃ i, y = .int i ∧ ∃ z c, x = .str z ∧ z.length ≤ sizeLine ∧ atI z.cps.toList i = some c ∧ Q (.str ⟨#[c]⟩) H) := by
  intro value slice pins s σ H x y v u Q I rx ry h hs
  obtain ⟨i, rfl, z, c, rfl, hz, hc, q⟩ := h
  exact ix_str value slice pins s σ H _ _ v u Q I rx ry ⟨z, i, c, rfl, rfl, hz, hc, q⟩ hs
end

/-! ### rules that tell the written part by a name of its own (within a comprehension) -/
section
variable {X : Cx} {K : PySem.W.Frag} {tg l e o value : Expr} {f : Str} {pos : Pos} {ta tl to : TE} {t : TA}
theorem pi_listK (hK : X.K = K) (hl : PE X l tl) : PI X tg l (iList K tl) := by subst hK; exact pi_list hl
theorem pi_tupK (hK : X.K = K) (hl : PE X l tl) : PI X tg l (iTup K tl) := by subst hK; exact pi_tup hl
theorem pe_fldK (hK : X.K = K) (he : PE X e ta) (hb : attributeBase e f X.env (eval e X.env) = eval e X.env) : PE X (.Attribute e f pos) (tFld K ta f) := by subst hK; exact pe_fld he hb
theorem sl_listK (hK : X.K = K) : SlR X (rSlL K) := by subst hK; exact sl_list
theorem sl_tupK (hK : X.K = K) : SlR X (rSlT K) := by subst hK; exact sl_tup
theorem call_tupleK (hK : X.K = K) : CallR X (.type "tuple") (fun xs H Q => ∃ p ys, xs = [.ref p] ∧ ((SqL K H p ys ∧ ∀ l, H l = none → Q (.ref l) (upd H l (.tup ys))) ∨ (SqT K H p ys ∧ Q (.ref p) H))) := by subst hK; exact call_tuple_of
theorem call_listK (hK : X.K = K) : CallR X (.type "list") (fun xs H Q => ∃ p ys, xs = [.ref p] ∧ (SqL K H p ys ∨ SqT K H p ys) ∧ ∀ l, H l = none → Q (.ref l) (upd H l (.lst ys))) := by subst hK; exact call_list_of
theorem call_lenK (hK : X.K = K) : CallR X (.builtin "len") (fun xs H Q => ∃ p ys, xs = [.ref p] ∧ (SqL K H p ys ∨ SqT K H p ys) ∧ Q (.int ys.length) H) := by subst hK; exact call_len_seq
theorem op_eqK (hK : X.K = K) (hu : X.A.units + 64 < cLine) : OpR X (compareOp .Eq) (rEqD K) := by subst hK; exact op_eqD hu
theorem op_neK (hK : X.K = K) (hu : X.A.units + 64 < cLine) : OpR X (compareOp .NotEq) (rNeD K) := by subst hK; exact op_neD hu
theorem op_inK (hK : X.K = K) : OpR X (compareOp .In) (rIn K false) := by subst hK; exact op_in_seq
theorem op_notInK (hK : X.K = K) : OpR X (compareOp .NotIn) (rIn K true) := by subst hK; exact op_notIn_seq
theorem pe_joinK {e : Expr} {te : TE} {apos : Pos} (hK : X.K = K) (ho : PE X o to) (he : PE X e te) (hs : starEach [e] X.env = [(false, eval e X.env)] := by rfl) (hbase : attributeBase o "join" X.env (eval o X.env) = eval o X.env := by rfl) (hline : (apos.endLine == pos.line) = true := by rfl) :
    PE X (.Call (.Attribute o "join" apos) [e] [] pos) (tM1 (fun x xs H Q => ∃ a p, ∃ ys : List Str, x = .str a ∧ xs = [.ref p] ∧ (SqL K H p (ys.map V.str) ∨ SqT K H p (ys.map V.str)) ∧
      (ys.map (·.length)).sum + ys.length * a.length ≤ 16777216 ∧ Q (.str (Txt.join a ys)) H) to te) := by subst hK; exact pe_join ho he hs hbase hline
end
/-! ### names of built-ins -/
/-- no name of the module hides a built-in that the text calls -/
structure BIs (mg : Str → Option Value) : Prop where
  abs : mg "abs" = none
  int : mg "int" = none
  len : mg "len" = none
  min : mg "min" = none
  max : mg "max" = none
  sorted : mg "sorted" = none
  tuple : mg "tuple" = none
  list : mg "list" = none
  dict : mg "dict" = none
  str : mg "str" = none
  range : mg "range" = none
  zip : mg "zip" = none
  enumerate : mg "enumerate" = none
  sum : mg "sum" = none
  any : mg "any" = none
  all : mg "all" = none
  isinstance : mg "isinstance" = none
  reversed : mg "reversed" = none
  bool : mg "bool" = none
theorem b_abs : bootBuiltins "abs" = some (.builtin "abs") := by decide +kernel
theorem b_int : bootBuiltins "int" = some (.type "int") := by decide +kernel
theorem b_len : bootBuiltins "len" = some (.builtin "len") := by decide +kernel
theorem b_min : bootBuiltins "min" = some (.builtin "min") := by decide +kernel
theorem b_max : bootBuiltins "max" = some (.builtin "max") := by decide +kernel
theorem b_sorted : bootBuiltins "sorted" = some (.builtin "sorted") := by decide +kernel
theorem b_tuple : bootBuiltins "tuple" = some (.type "tuple") := by decide +kernel
theorem b_list : bootBuiltins "list" = some (.type "list") := by decide +kernel
theorem b_dict : bootBuiltins "dict" = some (.type "dict") := by decide +kernel
theorem b_str : bootBuiltins "str" = some (.type "str") := by decide +kernel
theorem b_range : bootBuiltins "range" = some (.type "range") := by decide +kernel
theorem b_zip : bootBuiltins "zip" = some (.type "zip") := by decide +kernel
theorem b_enumerate : bootBuiltins "enumerate" = some (.type "enumerate") := by decide +kernel
end Vc
end
section
set_option Elab.async false
set_option linter.all false
set_option maxRecDepth 100000
set_option maxHeartbeats 4000000
namespace My
open PySem L2
/-! ### the reader of terms -/
local macro_rules | `(tactic| tm_at "ne") => `(tactic| first | assumption | (apply Ne.symm; assumption) | exact Vc.new_ne (by assumption) (by assumption) | exact ne_of_none (by assumption) (by assumption))
local macro_rules | `(tactic| tm_at "hp") => `(tactic| first | assumption | exact upd_same | (rw [upd_ne (by tm_at "ne")]; tm_at "hp"))
local macro_rules | `(tactic| tm_at "sd") => `(tactic| first | assumption | rfl | decide | exact ⟨by assumption, by assumption⟩ | exact Or.inl ⟨by omega, by omega⟩ | exact ⟨by decide, by decide, by decide⟩ | exact Or.inr ⟨by decide, by decide⟩ | exact Or.inl ⟨by decide, by decide⟩ | exact ⟨by decide, by decide⟩ | omega)
local macro_rules | `(tactic| tm_at "rN") => `(tactic| (intro pN hN; repeat (with_reducible (have hq := Vc.upd_free hN); obtain ⟨_, hN⟩ := hq)))
local macro_rules | `(tactic| tm_at "r1") => `(tactic| first
  | tm_at "rX"
  | refine ⟨_, _, rfl, rfl, ?_⟩
  | refine ⟨_, _, _, rfl, (by tm_at "hp"), (by tm_at "lk"), ?_⟩
  | refine ⟨_, _, rfl, ?_⟩
  | refine And.intro (rfl : ([] : List V) = []) ?_
  | refine ⟨_, _, rfl, SqT.of (by tm_at "hp"), (by rfl), ?_⟩
  | refine ⟨_, rfl, _, _, _, rfl, (by tm_at "hp"), (by rfl), ?_⟩
  | refine ⟨_, _, _, _, rfl, rfl, (by tm_at "hp"), (by rfl), ?_⟩
  | refine ⟨_, rfl, ?_⟩
  | refine ⟨_, _, _, _, _, rfl, (by tm_at "hp"), (by assumption), (by assumption), (by tm_at "lk"), ?_⟩
  | refine And.intro (rfl : scal _ _ = true) ?_
  | refine And.intro (Vc.len_le (by rfl)) ?_
  | refine And.intro (by tm_at "sd") ?_
  | refine Or.inl ⟨_, rfl, ?_⟩
  | refine Or.inr ⟨_, rfl, ?_⟩
  | refine Vc.itBi (fun _ => ?_) (fun _ => ?_) | refine Vc.itNBi (fun _ => ?_) (fun _ => ?_) | refine Vc.itBs (fun _ => ?_) (fun _ => ?_) | refine Vc.itNBs (fun _ => ?_) (fun _ => ?_)
  | refine Vc.itB (fun _ => ?_) (fun _ => ?_)
  | refine Vc.itNB (fun _ => ?_) (fun _ => ?_)
  | refine iteT ?_ | refine iteF ?_
  | tm_at "rN")
local macro_rules | `(tactic| tm_at "lk") => `(tactic| first | rfl | decide)
/-! ### data held by the abstract heap -/
section
variable {K : PySem.W.Frag} {H H' : Hp}
theorem Same.sqT {a : Addr} {xs : List V} (e : Same H H') (h : SqT K H a xs) : SqT K H' a xs := by
  rcases h with (h | ⟨o, h⟩) | h
  · exact .inl (.inl (e _ _ h))
  · exact .inl (.inr ⟨o, e _ _ h⟩)
  · exact .inr h
mutual
theorem dp_same (e : Same H H') : ∀ {v : V} {d : PyData}, Dp K H v d → Dp K H' v d
  | _, _, .non => .non
  | _, _, .bl b => .bl b
  | _, _, .int i => .int i
  | _, _, .str x => .str x
  | _, _, .lst h r => .lst (e.seq h) (dpAll_same e r)
  | _, _, .tup h r => .tup (Same.sqT e h) (dpAll_same e r)
theorem dpAll_same (e : Same H H') : ∀ {vs : List V} {ds : List PyData}, DpAll K H vs ds → DpAll K H' vs ds
  | _, _, .nil => .nil
  | _, _, .cons h r => .cons (dp_same e h) (dpAll_same e r)
end
theorem dp_list {v : V} {ds : List PyData} (h : Dp K H v (.list ds)) : ∃ a xs, v = .ref a ∧ SqL K H a xs ∧ DpAll K H xs ds := by
  cases h with
  | lst h r => exact ⟨_, _, rfl, h, r⟩
theorem dp_tup {v : V} {ds : List PyData} (h : Dp K H v (.tuple ds)) : ∃ a xs, v = .ref a ∧ SqT K H a xs ∧ DpAll K H xs ds := by
  cases h with
  | tup h r => exact ⟨_, _, rfl, h, r⟩
theorem dp_str {v : V} {x : Str} (h : Dp K H v (.str x)) : v = .str x := by cases h; rfl
theorem dp_int {v : V} {i : Int} (h : Dp K H v (.int i)) : v = .int i := by cases h; rfl
theorem dp_non {v : V} (h : Dp K H v .none) : v = .non := by cases h; rfl
theorem dpAll_len : ∀ {vs : List V} {ds : List PyData}, DpAll K H vs ds → vs.length = ds.length
  | _, _, .nil => rfl
  | _, _, .cons _ r => by rw [List.length_cons, List.length_cons, dpAll_len r]
theorem dpAll_get : ∀ {vs : List V} {ds : List PyData} {i : Nat} {v : V}, DpAll K H vs ds → vs[i]? = some v → ∃ d, ds[i]? = some d ∧ Dp K H v d
  | _, _, _, _, .nil, e => by simp at e
  | _, _, 0, _, .cons h _, e => by simp at e; subst e; exact ⟨_, rfl, h⟩
  | _, _, i + 1, _, .cons _ r, e => by
    obtain ⟨d, h1, h2⟩ := dpAll_get (i := i) r (by simpa using e)
    exact ⟨d, by simpa using h1, h2⟩
theorem dpAll_snoc : ∀ {vs : List V} {ds : List PyData} {v : V} {d : PyData}, DpAll K H vs ds → Dp K H v d → DpAll K H (vs ++ [v]) (ds ++ [d])
  | _, _, _, _, .nil, h => .cons h .nil
  | _, _, _, _, .cons a r, h => .cons a (dpAll_snoc r h)
theorem dpAll_cons {vs : List V} {d : PyData} {ds : List PyData} (h : DpAll K H vs (d :: ds)) : ∃ v r, vs = v :: r ∧ Dp K H v d ∧ DpAll K H r ds := by
  cases h with
  | cons a b => exact ⟨_, _, rfl, a, b⟩
theorem dpAll_nil {vs : List V} (h : DpAll K H vs []) : vs = [] := by cases h; rfl
end
/-- the data of turns of a comprehension -/
def upto (n : Nat) (d : Nat → PyData) : List PyData := (List.range n).map d
theorem upto_succ (n : Nat) (d : Nat → PyData) : upto (n + 1) d = upto n d ++ [d n] := by
  unfold upto
  rw [List.range_succ, List.map_append]
  rfl
theorem upto_len (n : Nat) (d : Nat → PyData) : (upto n d).length = n := by simp [upto]
/-! ### lists that grow: what is held without them -/
def off (S : List Addr) (H : Hp) : Hp := fun b => if b ∈ S then none else H b
/-- each of them is a list -/
def OpenL (S : List Addr) (H : Hp) : Prop := ∀ b, b ∈ S → ∃ l, H b = some (.lst l)
theorem OpenL.same {S : List Addr} {H H' : Hp} (h : OpenL S H) (e : Same H H') : OpenL S H' := fun b hb => by
  obtain ⟨l, q⟩ := h b hb
  exact ⟨l, e _ _ q⟩
theorem off_same {S : List Addr} {H H' : Hp} (e : Same H H') : Same (off S H) (off S H') := fun b o h => by
  unfold off at h ⊢
  by_cases hb : b ∈ S
  · rw [if_pos hb] at h; cases h
  · rw [if_neg hb] at h ⊢; exact e _ _ h
theorem off_cons {S : List Addr} {D : Addr} {H : Hp} : Same (off (D :: S) H) (off S H) := fun b o h => by
  unfold off at h ⊢
  by_cases hb : b ∈ D :: S
  · rw [if_pos hb] at h; cases h
  · rw [if_neg hb] at h; rw [if_neg fun z => hb (List.mem_cons_of_mem _ z)]; exact h
theorem off_upd {S : List Addr} {D : Addr} {H : Hp} {o : HO} : off (D :: S) (upd H D o) = off (D :: S) H := by
  funext b
  unfold off
  by_cases hb : b ∈ D :: S
  · rw [if_pos hb, if_pos hb]
  · rw [if_neg hb, if_neg hb, upd_ne fun z => hb (by rw [z]; exact List.mem_cons_self)]
theorem off_at {S : List Addr} {H : Hp} {b : Addr} {o : HO} (h : H b = some o) (n : b ∉ S) : off S H b = some o := by
  unfold off; rw [if_neg n]; exact h
theorem off_tup {S : List Addr} {H : Hp} {b : Addr} {xs : List V} (hS : OpenL S H) (h : H b = some (.tup xs)) : off S H b = some (.tup xs) := off_at h fun z => by
  obtain ⟨l, q⟩ := hS b z
  rw [h] at q; cases q
theorem off_new {S : List Addr} {H : Hp} {p : Addr} {o : HO} (hS : OpenL S H) (h : H p = none) : off S (upd H p o) p = some o := off_at upd_same fun z => by
  obtain ⟨l, q⟩ := hS p z
  rw [h] at q; cases q
theorem off_nil {H : Hp} : off [] H = H := by funext b; unfold off; rw [if_neg (by simp)]
section
variable {K : PySem.W.Frag}
/-- [elt for x in range(..)], x in the slot k: each turn leaves all as it was and gives the data of its turn -/
theorem lc_rangeD {lo : Int} {n k : Nat} {te : TE} {vs : List Nat} {σ : St} {H1 : Hp} {D : Addr} {Qd : Hp → Prop} (S : List Addr) (d : Nat → PyData) (hn : n ≤ 100000) (hD : H1 D = none) (hS : OpenL S H1)
    (hw : ∀ x, wipe ((wipe σ vs).set k (some x)) vs = wipe σ vs)
    (turn : ∀ (i : Nat) (H : Hp) (Q : VK), i < n → Same H1 H → OpenL (D :: S) H → (∀ y H', Same H H' → Dp K (off (D :: S) H') y (d i) → Q y H') → te ((wipe σ vs).set k (some (.int (lo + i)))) H Q)
    (hd : ∀ H, Same H1 H → Dp K (off S H) (.ref D) (.list (upto n d)) → Qd H) :
    ∃ W : Nat → Nat → Hp → Prop, (∃ m, W 0 m (upd H1 D (.lst []))) ∧ ∀ i m H, W i m H →
      ((Itr lo n).stop i H ∧ Qd H) ∨ ((Itr lo n).go i H ∧ ∃ Nx : Hp → Prop, (∀ H', Nx H' → ∃ m', m' < m ∧ W (i + 1) m' H') ∧ ∀ x H', (Itr lo n).yld i H x H' → gName k x (wipe σ vs) H' fun σ2 H2 => wipe σ2 vs = wipe σ vs ∧ tYes σ2 H2 fun b H3 =>
        if b = true then te σ2 H3 fun y H4 => ∃ acc, H4 D = some (.lst acc) ∧ acc.length < sizeLine ∧ Nx (upd H4 D (.lst (acc ++ [y]))) else Nx H3) := by
  have nS : D ∉ S := fun z => by
    obtain ⟨l, q⟩ := hS D z
    rw [hD] at q; cases q
  have keep : ∀ {H : Hp} {o : HO}, Same H1 H → Same H1 (upd H D o) := fun {H o} e b u hb => by
    rw [upd_ne (ne_of_none hb hD)]
    exact e b u hb
  refine lc_range (fun i H => Same H1 H ∧ ∃ acc, H D = some (.lst acc) ∧ acc.length = i ∧ DpAll K (off (D :: S) H) acc (upto i d)) ⟨keep (Same.refl _), [], upd_same, rfl, .nil⟩ ?_ ?_
  · rintro i H hi ⟨e, acc, ha, hl, hv⟩
    refine ⟨hw _, ?_⟩
    refine turn i H _ hi e (fun b hb => ?_) fun y H' e' dy => ⟨acc, e' _ _ ha, by rw [hl]; exact Nat.lt_of_lt_of_le (Nat.lt_of_lt_of_le hi hn) (by decide), keep (e.trans e'), acc ++ [y], upd_same, by simp [hl], ?_⟩
    · rcases List.mem_cons.mp hb with z | z
      · rw [z]; exact ⟨acc, ha⟩
      · exact hS.same e b z
    · rw [off_upd, upto_succ]
      exact dpAll_snoc (dpAll_same (off_same e') hv) dy
  · rintro H ⟨e, acc, ha, hl, hv⟩
    exact hd H e (.lst (SqL.of (off_at ha nS)) (dpAll_same off_cons hv))
/-- [elt for x in xs], xs a list that stays -/
theorem lc_listD {a : Addr} {xs : List V} {k : Nat} {te : TE} {vs : List Nat} {σ : St} {H1 : Hp} {D : Addr} {Qd : Hp → Prop} (S : List Addr) (d : Nat → PyData) (hn : xs.length ≤ 100000) (hx : SqL K H1 a xs) (hD : H1 D = none) (hS : OpenL S H1)
    (hw : ∀ x, wipe ((wipe σ vs).set k (some x)) vs = wipe σ vs)
    (turn : ∀ (i : Nat) (x : V) (H : Hp) (Q : VK), xs[i]? = some x → Same H1 H → OpenL (D :: S) H → (∀ y H', Same H H' → Dp K (off (D :: S) H') y (d i) → Q y H') → te ((wipe σ vs).set k (some x)) H Q)
    (hd : ∀ H, Same H1 H → Dp K (off S H) (.ref D) (.list (upto xs.length d)) → Qd H) :
    ∃ W : Nat → Nat → Hp → Prop, (∃ m, W 0 m (upd H1 D (.lst []))) ∧ ∀ i m H, W i m H →
      ((Itl K a).stop i H ∧ Qd H) ∨ ((Itl K a).go i H ∧ ∃ Nx : Hp → Prop, (∀ H', Nx H' → ∃ m', m' < m ∧ W (i + 1) m' H') ∧ ∀ x H', (Itl K a).yld i H x H' → gName k x (wipe σ vs) H' fun σ2 H2 => wipe σ2 vs = wipe σ vs ∧ tYes σ2 H2 fun b H3 =>
        if b = true then te σ2 H3 fun y H4 => ∃ acc, H4 D = some (.lst acc) ∧ acc.length < sizeLine ∧ Nx (upd H4 D (.lst (acc ++ [y]))) else Nx H3) := by
  have nS : D ∉ S := fun z => by
    obtain ⟨l, q⟩ := hS D z
    rw [hD] at q; cases q
  have keep : ∀ {H : Hp} {o : HO}, Same H1 H → Same H1 (upd H D o) := fun {H o} e b u hb => by
    rw [upd_ne (ne_of_none hb hD)]
    exact e b u hb
  refine lc_list (K := K) (a := a) (xs := xs) (fun i H => Same H1 H ∧ ∃ acc, H D = some (.lst acc) ∧ acc.length = i ∧ DpAll K (off (D :: S) H) acc (upto i d)) ⟨keep (Same.refl _), [], upd_same, rfl, .nil⟩ (fun i H _ p => p.1.seq hx) ?_ ?_
  · rintro i x H hi ⟨e, acc, ha, hl, hv⟩
    have hil : i < xs.length := (List.getElem?_eq_some_iff.mp hi).1
    refine ⟨hw _, ?_⟩
    refine turn i x H _ hi e (fun b hb => ?_) fun y H' e' dy => ⟨acc, e' _ _ ha, by rw [hl]; exact Nat.lt_of_lt_of_le (Nat.lt_of_lt_of_le hil hn) (by decide), keep (e.trans e'), acc ++ [y], upd_same, by simp [hl], ?_⟩
    · rcases List.mem_cons.mp hb with z | z
      · rw [z]; exact ⟨acc, ha⟩
      · exact hS.same e b z
    · rw [off_upd, upto_succ]
      exact dpAll_snoc (dpAll_same (off_same e') hv) dy
  · rintro H ⟨e, acc, ha, hl, hv⟩
    exact hd H e (.lst (SqL.of (off_at ha nS)) (dpAll_same off_cons hv))
end
/-! ### shapes of data -/
theorem can_upto {n : Nat} {d : Nat → PyData} (h : ∀ i, i < n → (d i).canLay0 = true) : PyData.canLayAll0 (upto n d) = true := by
  have : ∀ l : List Nat, (∀ i ∈ l, (d i).canLay0 = true) → PyData.canLayAll0 (l.map d) = true := by
    intro l
    induction l with
    | nil => intro _; rfl
    | cons a r ih =>
      intro h
      rw [List.map_cons, PyData.canLayAll0, h a List.mem_cons_self, ih fun i hi => h i (List.mem_cons_of_mem _ hi)]
      rfl
  exact this _ fun i hi => h i (List.mem_range.mp hi)
end My
end
section
set_option Elab.async false
set_option linter.all false
set_option maxRecDepth 100000
set_option maxHeartbeats 4000000
namespace My
open PySem L2
/-! ### the reader of terms -/
local macro_rules | `(tactic| tm_at "ne") => `(tactic| first | assumption | (apply Ne.symm; assumption) | exact Vc.new_ne (by assumption) (by assumption) | exact ne_of_none (by assumption) (by assumption))
local macro_rules | `(tactic| tm_at "hp") => `(tactic| first | assumption | exact upd_same | (rw [upd_ne (by tm_at "ne")]; tm_at "hp"))
local macro_rules | `(tactic| tm_at "sd") => `(tactic| first | assumption | rfl | decide | exact ⟨by assumption, by assumption⟩ | exact Or.inl ⟨by omega, by omega⟩ | exact ⟨by decide, by decide, by decide⟩ | exact Or.inr ⟨by decide, by decide⟩ | exact Or.inl ⟨by decide, by decide⟩ | exact ⟨by decide, by decide⟩ | omega)
local macro_rules | `(tactic| tm_at "rN") => `(tactic| first | (refine fun (pN : Addr) (hN : _ = none) => ?_; repeat (with_reducible (have hq := Vc.upd_free hN); clear hN; obtain ⟨_, hN⟩ := hq)) | (refine fun (xN dN : Addr) (hN : _ = none) (hM : _ = none) (hE : dN ≠ xN) => ?_; repeat (with_reducible (have hq := Vc.upd_free hN); clear hN; obtain ⟨_, hN⟩ := hq); repeat (with_reducible (have hq := Vc.upd_free hM); clear hM; obtain ⟨_, hM⟩ := hq)))
local macro_rules | `(tactic| tm_at "r1") => `(tactic| first
  | tm_at "rX"
  | refine ⟨_, _, rfl, rfl, ?_⟩
  | refine ⟨_, _, _, rfl, (by tm_at "hp"), (by tm_at "lk"), ?_⟩
  | refine ⟨_, _, rfl, ?_⟩
  | refine And.intro (rfl : ([] : List V) = []) ?_
  | refine ⟨_, _, rfl, SqT.of (by tm_at "hp"), (by rfl), ?_⟩
  | refine ⟨_, rfl, _, _, _, rfl, (by tm_at "hp"), (by rfl), ?_⟩
  | refine ⟨_, _, _, _, rfl, rfl, (by tm_at "hp"), (by rfl), ?_⟩
  | refine ⟨_, rfl, ?_⟩
  | refine ⟨_, _, _, _, _, rfl, (by tm_at "hp"), (by assumption), (by assumption), (by tm_at "lk"), ?_⟩
  | refine And.intro (rfl : scal _ _ = true) ?_
  | refine And.intro (Vc.len_le (by rfl)) ?_
  | refine And.intro (by tm_at "sd") ?_
  | refine Or.inl ⟨_, rfl, ?_⟩
  | refine Or.inr ⟨_, rfl, ?_⟩
  | refine Vc.itBi (fun _ => ?_) (fun _ => ?_) | refine Vc.itNBi (fun _ => ?_) (fun _ => ?_) | refine Vc.itBs (fun _ => ?_) (fun _ => ?_) | refine Vc.itNBs (fun _ => ?_) (fun _ => ?_)
  | refine Vc.itB (fun _ => ?_) (fun _ => ?_)
  | refine Vc.itNB (fun _ => ?_) (fun _ => ?_)
  | refine iteT ?_ | refine iteF ?_)
local macro_rules | `(tactic| tm_at "lk") => `(tactic| first | rfl | decide)
/-! ### enumerate(text) -/
section
open PySem.Spec PyProof.Rows
/-- the signs of a text, each with its place in a new pair -/
def IteS (x : Str) : It :=
  ⟨fun i _ => i < x.cps.size, fun i H v H' => ∃ T c, v = .ref T ∧ H T = none ∧ H' = upd H T (.tup [.int (i : Nat), .str ⟨#[c]⟩]) ∧ x.cps[i]? = some c, fun i _ => x.cps.size ≤ i⟩
theorem turn_enumS {P : Program} {w : World} {K : PySem.W.Frag} {elts : List Expr} {kk : Nat} {tpos : Pos} {x : Str} {St : Nat → Heap → Prop} (e it : Addr)
    (D : ∀ A : Around, A.handled = none → Draws P w A it [it] x.cps.size (fun i v => ∃ c u, x.cps[i]? = some c ∧ v = .str ⟨#[c]⟩ u) St) (hcell : ∀ i h, St i h → ∃ o, h.get? it = some o ∧ ∀ v, o.data ≠ .cell v) :
    Turn P w K (.Tuple elts kk tpos) (IteS x) [e, it] e (fun i h => (∃ old, IsEnum h e it ((i : Nat) : Int) old) ∧ St i h ∧ i ≤ x.cps.size ∧ e ≠ it) where
  mem := by simp
  obj := fun i h st b hb => by
    obtain ⟨⟨old, he⟩, hs, _, _⟩ := st
    have e' : b = e ∨ b = it := by simpa using hb
    rcases e' with z | z
    · rw [z]; exact ⟨_, he, fun v q => nomatch q⟩
    · rw [z]; exact hcell i h hs
  keep := fun i h h' st k => let ⟨⟨old, he⟩, hi, hl, hne⟩ := st; ⟨⟨old, k e (by simp) _ he⟩, (D {} rfl).frame _ _ _ hi fun b hb o q => k b (List.mem_cons_of_mem _ hb) o q, hl, hne⟩
  item := by
    intro X hP hw hK hc i pins s σ H E I hf st hg
    subst hP hw hK
    obtain ⟨⟨old, he⟩, hit, hle, hne⟩ := st
    have hel : e < s.heap.objs.size := Heap.lt_size he
    have hil : it < s.heap.objs.size := by obtain ⟨_, q, _⟩ := hcell _ _ hit; exact Heap.lt_size q
    refine wpAny_pyNext_enum_itemD (D _ (I.ok.hd hc)) he hit hg hne (by simpa using hne) fun u h' tk hP ho hit' hT hsz hk => ?_
    obtain ⟨c, tu, hcx, rfl⟩ := hP
    refine ⟨_, rfl, wpAny_letOwnedTupleGo_enum (s := { s with heap := h', toks := tk + 1 }) ho fun h'' he' sb => ?_⟩
    have hT2 : h''.get? s.heap.objs.size = some { cls := .type "tuple", data := .seq #[.int i tk, .str ⟨#[c]⟩ tu] } := (sb.2 _ (Nat.ne_of_gt hel)).trans hT
    have new : ObjOk X.prog X.w (upd H s.heap.objs.size (.tup [.int (i : Nat), .str ⟨#[c]⟩])) h'' s.heap.objs.size (.tup [.int (i : Nat), .str ⟨#[c]⟩]) :=
      ⟨by show 2 ≤ sizeLine; decide, [.int i tk, .str ⟨#[c]⟩ tu], .cons ⟨_, rfl⟩ (.cons ⟨_, rfl⟩ .nil), ⟨_, hT2, rfl, _, rfl⟩⟩
    have I1 : Inv X pins σ (upd H s.heap.objs.size (.tup [.int (i : Nat), .str ⟨#[c]⟩])) { s with heap := h'', toks := tk + 1 } :=
      I.turnedNew (ch := [e, it]) (fun b ob hb q => (sb.2 b (fun z => hb (by simp [z]))).trans (hk b ob (fun z => hb (by simp [z])) (fun z => hb (by simp [z])) q)) hf (Nat.le_refl _) new
    refine ⟨.ref s.heap.objs.size, _, I1, rfl, ⟨_, c, rfl, I.hok.fresh (Nat.le_refl _), rfl, hcx⟩, ⟨⟨.str ⟨#[c]⟩ tu, ?_⟩, (D {} rfl).frame _ _ _ hit' (fun b hb o q => (sb.2 b (by rw [List.mem_singleton.mp hb]; exact Ne.symm hne)).trans q), hg, hne⟩, fun b hb => ?_⟩
    · have e1 : ((i + 1 : Nat) : Int) = (i : Int) + 1 := by omega
      rw [e1]; exact he'
    · have hb' : b < s.heap.objs.size := by
        have e' : b = e ∨ b = it := by simpa using hb
        rcases e' with z | z
        · rw [z]; exact hel
        · rw [z]; exact hil
      rw [upd_ne (Nat.ne_of_lt hb')]
      exact (hf b hb).1
  done := by
    intro X hP hw hK hc i pins s σ H E I hf st hg
    subst hP hw hK
    obtain ⟨⟨old, he⟩, hit, hle, hne⟩ := st
    obtain ⟨f0, f1, f2, f3, f4, f5⟩ := hf it (by simp)
    have hi : i = x.cps.size := Nat.le_antisymm hle hg
    subst hi
    exact wpAny_pyNext_enum_endD (D _ (I.ok.hd hc)) he hit fun h' eb => ⟨rfl, I.turned (t' := s.toks) (fun b o hb q => eb b o hb q) f0 f1 f3 f4 f5⟩
  self := fun A i s Q E st h => let ⟨⟨_, he⟩, _⟩ := st; wpAny_pyIter_enum he h
def iEnumS (ta : TA) : TI := fun σ H R => ta σ H fun vs H1 => ∃ x, vs = [.str x] ∧ R (IteS x) H1
theorem pi_enumS {X : Cx} {e : Expr} {ta : TA} {p pos tpos : Pos} {elts : List Expr} {kk : Nat} (hg : Gl X "enumerate") (hm : X.mg "enumerate" = none) (ha : PA X [e] ta) (hs : starEach [e] X.env = [(false, eval e X.env)] := by rfl) :
    PI X (.Tuple elts kk tpos) (.Call (.Name "enumerate" p) [e] [] pos) (iEnumS ta) := by
  refine ⟨fun pins s σ H R I h => ?_⟩
  refine Call_ (ld_blt I hg hm boot_enumerate (PyProof.Rows.callWith_type1 (thn (ha.run pos pins s σ H _ I h) fun us s1 ⟨vs, H1, I1, r1, q1⟩ => ?_) hs rfl))
  obtain ⟨x, ex, q⟩ := q1
  subst ex
  cases r1 with
  | cons r rr =>
    cases rr
    obtain ⟨t, rfl⟩ := r
    refine call_enumerate_str fun h' he hit hsz hk => wpAny_pyIter_enum he ?_
    have I2 : Inv X pins σ H1 { s1 with heap := h' } := I1.kept (t' := s1.toks) hk
    have fp : ∀ b, b ∈ [s1.heap.objs.size + 1, s1.heap.objs.size] → FpOk X pins H1 b := fun b hb => by
      have e' : b = s1.heap.objs.size + 1 ∨ b = s1.heap.objs.size := by simpa using hb
      have hle : s1.heap.objs.size ≤ b := by
        rcases e' with z | z
        · rw [z]; exact Nat.le_add_right _ _
        · rw [z]; exact Nat.le_refl _
      exact I1.fpOk hle (I1.hok.fresh hle)
    cases hx : x.cps.all (· < 128)
    · have ht : strIterType x = "str_iterator" := by unfold strIterType; rw [hx]; rfl
      rw [ht] at hit
      exact ⟨s1.heap.objs.size + 1, [s1.heap.objs.size + 1, s1.heap.objs.size], _, _, H1, rfl, I2, turn_enumS (s1.heap.objs.size + 1) s1.heap.objs.size (fun A hA => Draws.strWide hA _ x t) (fun i h ⟨o, ho, _, hd⟩ => ⟨o, ho, fun v q => by rw [hd] at q; cases q⟩), ⟨⟨.none, he⟩, hit, Nat.zero_le _, Nat.succ_ne_self _⟩, fp, q⟩
    · have ht : strIterType x = "str_ascii_iterator" := by unfold strIterType; rw [hx]; rfl
      rw [ht] at hit
      exact ⟨s1.heap.objs.size + 1, [s1.heap.objs.size + 1, s1.heap.objs.size], _, _, H1, rfl, I2, turn_enumS (s1.heap.objs.size + 1) s1.heap.objs.size (fun A hA => Draws.strAscii hA _ x t) (fun i h ⟨o, ho, _, hd⟩ => ⟨o, ho, fun v q => by rw [hd] at q; cases q⟩), ⟨⟨.none, he⟩, hit, Nat.zero_le _, Nat.succ_ne_self _⟩, fp, q⟩
end
end My
end
section
set_option Elab.async false
set_option linter.all false
set_option maxRecDepth 100000
set_option maxHeartbeats 4000000
/-! Q: values without a heap, few mutable objects by number; what code gives as a function of these -/
namespace Q
open PySem L2

/-- a value: tuples, and lists that nobody changes, are values; what is changed has a number -/
inductive LV where
  | non | bl (b : Bool) | int (i : Int) | str (x : Str) | ref (n : Nat) | tup (xs : List LV) | st (xs : List LV) | fl (xs : List LV) | sl (xs : List LV) | adr (a : Addr) | ty (n : String)
/-- what has a number -/
inductive LO where
  | lst (xs : List LV) | dK (kvs : List (Key × LV)) | dT (kvs : List (List Key × LV)) | ins (c : Nat) (fs : List (Str × LV)) | dead
abbrev Sl := List (Option LV)
abbrev LH := List LO
inductive Res (α : Type) where
  | ok (a : α) (L : LH) | exc (c : Nat) (L : LH) | no
abbrev M (α : Type) := LH → Res α
def Res.bind {α β : Type} : Res α → (α → LH → Res β) → Res β
  | .ok a L, k => k a L
  | .exc c L, _ => .exc c L
  | .no, _ => .no

/-- the written part, and which class has which number -/
structure Kt where
  K : PySem.W.Frag
  cl : Nat → Addr
  T : List Addr
  TS : List (Addr × Str)
/-- where the numbered objects stand; what is never changed again -/
structure Kp where
  ρ : List Addr
  F : Addr → Prop

def StT (K : Kt) (a : Addr) (us : List V) : Prop := ∃ (o : Obj) (its : Array Value) (n : Nat), K.K.lookup a = some o ∧ o.cls = .type "tuple" ∧ o.data = .seq its n ∧ its.size ≤ sizeLine ∧ Vals us its.toList
def StL (K : Kt) (a : Addr) (us : List V) : Prop := ∃ (o : Obj) (its : Array Value) (n : Nat), K.K.lookup a = some o ∧ o.cls = .type "list" ∧ o.dict = none ∧ o.data = .seq its n ∧ its.size ≤ sizeLine ∧ Vals us its.toList
theorem StT.sq {K : Kt} {H : Hp} {a : Addr} {us : List V} (h : StT K a us) : SqT K.K H a us := .inr h
theorem StL.sq {K : Kt} {H : Hp} {a : Addr} {us : List V} (h : StL K a us) : SqL K.K H a us := .inr h

mutual
inductive RV (K : Kt) (κ : Kp) (H : Hp) : LV → V → Prop
  | non : RV K κ H .non .non
  | bl (b : Bool) : RV K κ H (.bl b) (.bl b)
  | int (i : Int) : RV K κ H (.int i) (.int i)
  | str (x : Str) : RV K κ H (.str x) (.str x)
  | ref {n : Nat} {a : Addr} : κ.ρ[n]? = some a → RV K κ H (.ref n) (.ref a)
  | tup {a : Addr} {xs : List LV} {us : List V} : κ.F a ∧ H a = some (.tup us) → RVs K κ H xs us → RV K κ H (.tup xs) (.ref a)
  | st {a : Addr} {xs : List LV} {us : List V} : StT K a us → RVs K κ H xs us → RV K κ H (.st xs) (.ref a)
  | fl {a : Addr} {xs : List LV} {us : List V} : κ.F a ∧ H a = some (.lst us) → RVs K κ H xs us → RV K κ H (.fl xs) (.ref a)
  | sl {a : Addr} {xs : List LV} {us : List V} : (κ.F a ∧ Rd H a (.lst us)) ∨ StL K a us → RVs K κ H xs us → RV K κ H (.sl xs) (.ref a)
  | adr (a : Addr) : RV K κ H (.adr a) (.ref a)
  | ty (n : String) : RV K κ H (.ty n) (.ty n)
inductive RVs (K : Kt) (κ : Kp) (H : Hp) : List LV → List V → Prop
  | nil : RVs K κ H [] []
  | cons {x : LV} {xs : List LV} {u : V} {us : List V} : RV K κ H x u → RVs K κ H xs us → RVs K κ H (x :: xs) (u :: us)
end

/-- the state goes on -/
structure Up (K : Kt) (κ : Kp) (H : Hp) (κ' : Kp) (H' : Hp) : Prop where
  pre : ∃ t, κ'.ρ = κ.ρ ++ t
  new : ∀ a, a ∈ κ'.ρ → a ∈ κ.ρ ∨ H a = none
  frz : ∀ a, κ.F a → κ'.F a ∧ H' a = H a
  oth : ∀ b o, H b = some o → b ∉ κ.ρ → (∃ ps, o = .tbl ps) ∨ H' b = some o
  tbl : ∀ b ps, H b = some (.tbl ps) → ∃ more, H' b = some (.tbl (ps ++ more)) ∧ (TriplesOk ps.toList → TriplesOk (ps ++ more).toList)
  fnew : ∀ a, κ'.F a → κ.F a ∨ H a = none ∨ a ∈ κ.ρ
  lam : ∀ p, p ∈ K.TS → LamX.TabS H p.1 p.2 → LamX.TabS H' p.1 p.2

section
variable {K : Kt} {κ κ' κ'' : Kp} {H H' H'' : Hp}
theorem Up.refl : Up K κ H κ H := ⟨⟨[], by simp⟩, fun _ h => .inl h, fun _ h => ⟨h, rfl⟩, fun _ _ h _ => .inr h, fun _ ps h => ⟨#[], by simpa using h, by simp⟩, fun _ h => .inl h, fun _ _ h => h⟩
theorem Up.trans (a : Up K κ H κ' H') (b : Up K κ' H' κ'' H'') : Up K κ H κ'' H'' where
  pre := by
    obtain ⟨t, e⟩ := a.pre
    obtain ⟨t', e'⟩ := b.pre
    exact ⟨t ++ t', by rw [e', e, List.append_assoc]⟩
  new := fun x hx => by
    by_cases hm : x ∈ κ.ρ
    · exact .inl hm
    · rcases b.new x hx with h | h
      · exact a.new x h
      · refine .inr ?_
        cases q : H x with
        | none => rfl
        | some o =>
          rcases a.oth x o q hm with ⟨ps, rfl⟩ | e
          · obtain ⟨m, e, _⟩ := a.tbl x ps q
            rw [h] at e; cases e
          · rw [h] at e; cases e
  frz := fun x hx => by
    obtain ⟨h1, h2⟩ := a.frz x hx
    obtain ⟨h3, h4⟩ := b.frz x h1
    exact ⟨h3, h4.trans h2⟩
  oth := fun x o hx hm => by
    rcases a.oth x o hx hm with h | h
    · exact .inl h
    · refine b.oth x o h fun z => ?_
      rcases a.new x z with w | w
      · exact hm w
      · rw [hx] at w; cases w
  tbl := fun x ps hx => by
    obtain ⟨m, e, k⟩ := a.tbl x ps hx
    obtain ⟨m', e', k'⟩ := b.tbl x _ e
    rw [Array.append_assoc] at e' k'
    exact ⟨m ++ m', e', fun z => k' (k z)⟩
  fnew := fun x hx => by
    rcases b.fnew x hx with h | h | h
    · exact a.fnew x h
    · by_cases hm : x ∈ κ.ρ
      · exact .inr (.inr hm)
      · refine .inr (.inl ?_)
        cases q : H x with
        | none => rfl
        | some o =>
          rcases a.oth x o q hm with ⟨ps, rfl⟩ | e
          · obtain ⟨m, e, _⟩ := a.tbl x ps q
            rw [h] at e; cases e
          · rw [h] at e; cases e
    · rcases a.new x h with z | z
      · exact .inr (.inr z)
      · exact .inr (.inl z)
  lam := fun p hp h => b.lam p hp (a.lam p hp h)
theorem TabS.at {P a : Addr} {q : Str} {o : HO} (t : LamX.TabS H P q) (h : ∀ u, H a = some u → (∀ ps, u ≠ .tbl ps) ∧ ∀ q, u ≠ LamX.CodeO a q) : LamX.TabS (upd H a o) P q := by
  obtain ⟨ps, e, tr, k⟩ := t
  refine ⟨ps, ?_, tr, fun pos cv hc => ?_⟩
  · rw [upd_ne (show P ≠ a from fun z => (h _ (by rw [← z]; exact e)).1 ps rfl)]; exact e
  · obtain ⟨c, e1, e2⟩ := k pos cv hc
    exact ⟨c, e1, by rw [upd_ne (show c ≠ a from fun z => by subst z; exact (h _ e2).2 q rfl)]; exact e2⟩
theorem TabS.new {P a : Addr} {q : Str} {o : HO} (t : LamX.TabS H P q) (hn : H a = none) : LamX.TabS (upd H a o) P q := TabS.at t fun u e => by rw [hn] at e; cases e
theorem Up.get (u : Up K κ H κ' H') {n : Nat} {a : Addr} (h : κ.ρ[n]? = some a) : κ'.ρ[n]? = some a := by
  obtain ⟨t, e⟩ := u.pre
  rw [e]
  exact List.getElem?_append_left (by obtain ⟨h1, _⟩ := List.getElem?_eq_some_iff.mp h; exact h1) ▸ h
theorem Rd.same {a : Addr} {o : HO} (h : Rd H a o) (e : H' a = H a) : Rd H' a o := by
  rcases h with h | ⟨ob, h⟩
  · exact .inl (e.trans h)
  · exact .inr ⟨ob, e.trans h⟩
mutual
theorem RV.up (u : Up K κ H κ' H') : ∀ {v : LV} {w : V}, RV K κ H v w → RV K κ' H' v w
  | _, _, .non => .non
  | _, _, .bl b => .bl b
  | _, _, .int i => .int i
  | _, _, .str x => .str x
  | _, _, .ref h => .ref (u.get h)
  | _, _, .tup h r => .tup ⟨(u.frz _ h.1).1, (u.frz _ h.1).2.trans h.2⟩ (RVs.up u r)
  | _, _, .st h r => .st h (RVs.up u r)
  | _, _, .fl h r => .fl ⟨(u.frz _ h.1).1, (u.frz _ h.1).2.trans h.2⟩ (RVs.up u r)
  | _, _, .sl h r => .sl (h.imp (fun ⟨a, b⟩ => ⟨(u.frz _ a).1, Rd.same b (u.frz _ a).2⟩) id) (RVs.up u r)
  | _, _, .adr a => .adr a
  | _, _, .ty n => .ty n
theorem RVs.up (u : Up K κ H κ' H') : ∀ {v : List LV} {w : List V}, RVs K κ H v w → RVs K κ' H' v w
  | _, _, .nil => .nil
  | _, _, .cons h r => .cons (RV.up u h) (RVs.up u r)
end
theorem RVs.length : ∀ {v : List LV} {w : List V}, RVs K κ H v w → v.length = w.length
  | _, _, .nil => rfl
  | _, _, .cons _ r => by rw [List.length_cons, List.length_cons, RVs.length r]
theorem RVs.append : ∀ {v v' : List LV} {w w' : List V}, RVs K κ H v w → RVs K κ H v' w' → RVs K κ H (v ++ v') (w ++ w')
  | _, _, _, _, .nil, h => h
  | _, _, _, _, .cons a r, h => .cons a (RVs.append r h)
theorem RVs.get : ∀ {v : List LV} {w : List V} {i : Nat} {x : LV}, RVs K κ H v w → v[i]? = some x → ∃ u, w[i]? = some u ∧ RV K κ H x u
  | _, _, _, _, .nil, e => by simp at e
  | _, _, 0, _, .cons a _, e => by simp at e; subst e; exact ⟨_, rfl, a⟩
  | _, _, i + 1, _, .cons _ r, e => by
    obtain ⟨u, h1, h2⟩ := RVs.get (i := i) r (by simpa using e)
    exact ⟨u, by simpa using h1, h2⟩
theorem RVs.get' : ∀ {v : List LV} {w : List V} {i : Nat} {u : V}, RVs K κ H v w → w[i]? = some u → ∃ x, v[i]? = some x ∧ RV K κ H x u
  | _, _, _, _, .nil, e => by simp at e
  | _, _, 0, _, .cons a _, e => by simp at e; subst e; exact ⟨_, rfl, a⟩
  | _, _, i + 1, _, .cons _ r, e => by
    obtain ⟨u, h1, h2⟩ := RVs.get' (i := i) r (by simpa using e)
    exact ⟨u, by simpa using h1, h2⟩
theorem RVs.set {x : LV} {u : V} (a : RV K κ H x u) : ∀ {v : List LV} {w : List V} (i : Nat), RVs K κ H v w → RVs K κ H (v.set i x) (w.set i u)
  | _, _, _, .nil => .nil
  | _, _, 0, .cons _ r => .cons a r
  | _, _, i + 1, .cons b r => .cons b (RVs.set a i r)
theorem RVs.take : ∀ {v : List LV} {w : List V} (n : Nat), RVs K κ H v w → RVs K κ H (v.take n) (w.take n)
  | _, _, 0, _ => .nil
  | _, _, _ + 1, .nil => .nil
  | _, _, n + 1, .cons a r => .cons a (RVs.take n r)
theorem RVs.drop : ∀ {v : List LV} {w : List V} (n : Nat), RVs K κ H v w → RVs K κ H (v.drop n) (w.drop n)
  | _, _, 0, r => r
  | _, _, _ + 1, .nil => .nil
  | _, _, n + 1, .cons _ r => RVs.drop n r
theorem RVs.rev : ∀ {v : List LV} {w : List V}, RVs K κ H v w → RVs K κ H v.reverse w.reverse
  | _, _, .nil => .nil
  | _, _, .cons a r => by rw [List.reverse_cons, List.reverse_cons]; exact RVs.append (RVs.rev r) (.cons a .nil)

abbrev Keyed {κ' : Type} (K : Kt) (κ : Kp) (H : Hp) : List (κ' × LV) → List (κ' × V) → Prop := Paired fun p q => p.1 = q.1 ∧ RV K κ H p.2 q.2
theorem Keyed.up {T : Type} (u : Up K κ H κ' H') : ∀ {a : List (T × LV)} {b : List (T × V)}, Keyed K κ H a b → Keyed K κ' H' a b
  | _, _, .nil => .nil
  | _, _, .cons h r => .cons ⟨h.1, h.2.up u⟩ (Keyed.up u r)
/-- an object is what its number says -/
def RO (K : Kt) (κ : Kp) (H : Hp) (a : Addr) : LO → Prop
  | .lst xs => ∃ us, H a = some (.lst us) ∧ RVs K κ H xs us
  | .dK kvs => ∃ us, H a = some (.dK us) ∧ Keyed K κ H kvs us
  | .dT kvs => ∃ us, H a = some (.dT us) ∧ Keyed K κ H kvs us
  | .ins C fs => ∃ dx us, H a = some (.ins (K.cl C) dx us) ∧ Keyed K κ H fs us
  | .dead => True
theorem RO.up {a : Addr} {o : LO} (h : RO K κ H a o) (u : Up K κ H κ' H') (e : H' a = H a) : RO K κ' H' a o := by
  cases o with
  | lst xs => obtain ⟨us, h1, h2⟩ := h; exact ⟨us, e.trans h1, h2.up u⟩
  | dK kvs => obtain ⟨us, h1, h2⟩ := h; exact ⟨us, e.trans h1, h2.up u⟩
  | dT kvs => obtain ⟨us, h1, h2⟩ := h; exact ⟨us, e.trans h1, h2.up u⟩
  | ins C fs => obtain ⟨dx, us, h1, h2⟩ := h; exact ⟨dx, us, e.trans h1, h2.up u⟩
  | dead => trivial
/-- all objects are -/
structure RL (K : Kt) (κ : Kp) (H : Hp) (L : LH) : Prop where
  len : L.length = κ.ρ.length
  nd : κ.ρ.Nodup
  liv : ∀ a, a ∈ κ.ρ → H a ≠ none
  fz : ∀ a, κ.F a → H a ≠ none
  obj : ∀ (n : Nat) (o : LO) (a : Addr), L[n]? = some o → κ.ρ[n]? = some a → o = .dead ∨ (¬ κ.F a ∧ RO K κ H a o)
  tab : ∀ P, P ∈ K.T → GxR.TabG H P ∧ ¬ κ.F P ∧ P ∉ κ.ρ
  tls : ∀ p, p ∈ K.TS → LamX.TabS H p.1 p.2 ∧ ¬ κ.F p.1 ∧ p.1 ∉ κ.ρ ∧ p.1 ∉ K.T
theorem RL.tabs {L : LH} (r : RL K κ H L) (u : Up K κ H κ' H') : ∀ P, P ∈ K.T → GxR.TabG H' P ∧ ¬ κ'.F P ∧ P ∉ κ'.ρ := fun P hP => by
  obtain ⟨⟨ps, e, t⟩, n1, n2⟩ := r.tab P hP
  obtain ⟨m, e', k⟩ := u.tbl P ps e
  refine ⟨⟨_, e', k t⟩, fun z => ?_, fun z => ?_⟩
  · rcases u.fnew P z with z | z | z
    · exact n1 z
    · rw [e] at z; cases z
    · exact n2 z
  · rcases u.new P z with z | z
    · exact n2 z
    · rw [e] at z; cases z
theorem RL.tlss {L : LH} (r : RL K κ H L) (u : Up K κ H κ' H') : ∀ p, p ∈ K.TS → LamX.TabS H' p.1 p.2 ∧ ¬ κ'.F p.1 ∧ p.1 ∉ κ'.ρ ∧ p.1 ∉ K.T := fun p hp => by
  obtain ⟨t, n1, n2, n3⟩ := r.tls p hp
  have t' := t
  obtain ⟨ps, e, _⟩ := t'
  refine ⟨u.lam p hp t, fun z => ?_, fun z => ?_, n3⟩
  · rcases u.fnew _ z with z | z | z
    · exact n1 z
    · rw [e] at z; cases z
    · exact n2 z
  · rcases u.new _ z with z | z
    · exact n2 z
    · rw [e] at z; cases z
theorem RL.at {L : LH} (r : RL K κ H L) {n : Nat} {o : LO} {v : V} (h : L[n]? = some o) (hv : RV K κ H (.ref n) v) (hd : o ≠ .dead) : ∃ a, v = .ref a ∧ κ.ρ[n]? = some a ∧ ¬ κ.F a ∧ RO K κ H a o := by
  cases hv with
  | ref e =>
    rcases r.obj n o _ h e with z | z
    · exact absurd z hd
    · exact ⟨_, rfl, e, z.1, z.2⟩
theorem RL.notρ {L : LH} (r : RL K κ H L) {p : Addr} (hp : H p = none) : p ∉ κ.ρ := fun h => r.liv p h hp
theorem RL.notF {L : LH} (r : RL K κ H L) {p : Addr} (hp : H p = none) : ¬ κ.F p := fun h => r.fz p h hp
/-- the state changes, the numbered objects do not -/
theorem RL.up {L : LH} (r : RL K κ H L) (u : Up K κ H κ' H') (hρ : κ'.ρ = κ.ρ) (hs : ∀ a, a ∈ κ.ρ → H' a = H a) (hF : ∀ a, κ'.F a → κ.F a ∨ a ∉ κ.ρ) (hz : ∀ a, κ'.F a → H' a ≠ none) : RL K κ' H' L where
  len := by rw [hρ]; exact r.len
  nd := by rw [hρ]; exact r.nd
  liv := fun a ha => by rw [hρ] at ha; rw [hs a ha]; exact r.liv a ha
  fz := hz
  obj := fun n o a h1 h2 => by
    rw [hρ] at h2
    have hm : a ∈ κ.ρ := List.mem_of_getElem? h2
    rcases r.obj n o a h1 h2 with z | ⟨z1, z2⟩
    · exact .inl z
    · exact .inr ⟨fun w => (hF a w).elim z1 fun q => q hm, z2.up u (hs a hm)⟩
  tab := r.tabs u
  tls := r.tlss u
/-- something new that has no number -/
theorem Up.junk {p : Addr} {o : HO} {L : LH} (r : RL K κ H L) (hp : H p = none) : Up K κ H κ (upd H p o) :=
  ⟨⟨[], by simp⟩, fun _ h => .inl h, fun a h => ⟨h, upd_ne fun z => by subst z; exact r.fz _ h hp⟩, fun b o' h _ => .inr (by rw [upd_ne (ne_of_none h hp)]; exact h), fun b ps h => ⟨#[], by rw [upd_ne (ne_of_none h hp), h]; simp, by simp⟩, fun _ h => .inl h, fun _ _ t => TabS.new t hp⟩
theorem RL.junk {p : Addr} {o : HO} {L : LH} (r : RL K κ H L) (hp : H p = none) : RL K κ (upd H p o) L :=
  r.up (Up.junk r hp) rfl (fun a ha => upd_ne fun z => by subst z; exact r.liv _ ha hp) (fun a h => .inl h) fun a h => by
    rw [upd_ne fun z => by subst z; exact r.fz _ h hp]
    exact r.fz a h
abbrev Kp.more (κ : Kp) (p : Addr) : Kp := ⟨κ.ρ, fun a => κ.F a ∨ a = p⟩
/-- something new that is never changed -/
theorem Up.froz {p : Addr} {o : HO} {L : LH} (r : RL K κ H L) (hp : H p = none) : Up K κ H (κ.more p) (upd H p o) :=
  ⟨⟨[], by simp⟩, fun _ h => .inl h, fun a h => ⟨.inl h, upd_ne fun z => by subst z; exact r.fz _ h hp⟩, fun b o' h _ => .inr (by rw [upd_ne (ne_of_none h hp)]; exact h), fun b ps h => ⟨#[], by rw [upd_ne (ne_of_none h hp), h]; simp, by simp⟩, fun a h => h.imp id fun (z : a = p) => .inl (by rw [z]; exact hp), fun _ _ t => TabS.new t hp⟩
theorem RL.froz {p : Addr} {o : HO} {L : LH} (r : RL K κ H L) (hp : H p = none) : RL K (κ.more p) (upd H p o) L :=
  r.up (Up.froz r hp) rfl (fun a ha => upd_ne fun z => by subst z; exact r.liv _ ha hp) (fun a h => h.imp id fun (z : a = p) => by rw [z]; exact r.notρ hp) fun a h => by
    by_cases e : a = p
    · subst e; rw [upd_same]; exact fun z => nomatch z
    · rw [upd_ne e]; exact r.fz a (h.resolve_right e)
theorem new_tup {p : Addr} {L : LH} {xs : List LV} {us : List V} (r : RL K κ H L) (hp : H p = none) (hv : RVs K κ H xs us) : RV K (κ.more p) (upd H p (.tup us)) (.tup xs) (.ref p) :=
  .tup ⟨.inr rfl, upd_same⟩ (hv.up (Up.froz r hp))
theorem new_fl {p : Addr} {L : LH} {xs : List LV} {us : List V} (r : RL K κ H L) (hp : H p = none) (hv : RVs K κ H xs us) : RV K (κ.more p) (upd H p (.lst us)) (.fl xs) (.ref p) :=
  .fl ⟨.inr rfl, upd_same⟩ (hv.up (Up.froz r hp))
abbrev Kp.num (κ : Kp) (p : Addr) : Kp := ⟨κ.ρ ++ [p], κ.F⟩
theorem Up.numb {p : Addr} {o : HO} {L : LH} (r : RL K κ H L) (hp : H p = none) : Up K κ H (κ.num p) (upd H p o) :=
  ⟨⟨[p], rfl⟩, fun a h => (List.mem_append.mp h).imp id fun z => by rw [List.mem_singleton.mp z]; exact hp, fun a h => ⟨h, upd_ne fun z => by subst z; exact r.fz _ h hp⟩, fun b o' h _ => .inr (by rw [upd_ne (ne_of_none h hp)]; exact h), fun b ps h => ⟨#[], by rw [upd_ne (ne_of_none h hp), h]; simp, by simp⟩, fun _ h => .inl h, fun _ _ t => TabS.new t hp⟩
/-- something new with a number -/
theorem RL.numb {p : Addr} {o : HO} {lo : LO} {L : LH} (r : RL K κ H L) (hp : H p = none) (ho : RO K (κ.num p) (upd H p o) p lo) : RL K (κ.num p) (upd H p o) (L ++ [lo]) where
  len := by simp [r.len]
  nd := by
    show (κ.ρ ++ [p]).Nodup
    rw [List.nodup_append]
    exact ⟨r.nd, by simp, fun a ha b hb => by rw [List.mem_singleton.mp hb]; rintro rfl; exact r.notρ hp ha⟩
  liv := fun a ha => by
    rcases List.mem_append.mp ha with h | h
    · rw [upd_ne fun z => by subst z; exact r.liv _ h hp]; exact r.liv a h
    · rw [List.mem_singleton.mp h, upd_same]; exact fun z => nomatch z
  fz := fun a h => by
    rw [upd_ne fun z => by subst z; exact r.fz _ h hp]
    exact r.fz a h
  obj := fun n o' a h1 h2 => by
    by_cases hn : n < L.length
    · have h1' : L[n]? = some o' := by rw [List.getElem?_append_left hn] at h1; exact h1
      have h2' : κ.ρ[n]? = some a := by rw [List.getElem?_append_left (by rw [← r.len]; exact hn)] at h2; exact h2
      have hm : a ∈ κ.ρ := List.mem_of_getElem? h2'
      rcases r.obj n o' a h1' h2' with z | ⟨z1, z2⟩
      · exact .inl z
      · exact .inr ⟨z1, z2.up (Up.numb r hp) (upd_ne fun z => by subst z; exact r.liv _ hm hp)⟩
    · have hn' : n = L.length := by
        have := (List.getElem?_eq_some_iff.mp h1).1
        simp at this; omega
      subst hn'
      have e1 : o' = lo := by simpa using h1.symm
      have e2 : a = p := by
        rw [r.len] at h2
        simpa using h2.symm
      subst e1 e2
      exact .inr ⟨fun w => r.fz _ w hp, ho⟩
  tab := r.tabs (Up.numb r hp)
  tls := r.tlss (Up.numb r hp)
theorem new_ref {p : Addr} {H' : Hp} {L : LH} (r : RL K κ H L) : RV K (κ.num p) H' (.ref L.length) (.ref p) := .ref (by rw [r.len]; simp)
/-- an object with a number is changed -/
theorem Up.chg {n : Nat} {a : Addr} {o : LO} {ho : HO} {L : LH} (r : RL K κ H L) (h : L[n]? = some o) (hd : o ≠ .dead) (ha : κ.ρ[n]? = some a) : Up K κ H κ (upd H a ho) := by
  have hm : a ∈ κ.ρ := List.mem_of_getElem? ha
  have nF : ¬ κ.F a := by
    rcases r.obj n o a h ha with z | z
    · exact absurd z hd
    · exact z.1
  have nt : ∀ ps, H a ≠ some (.tbl ps) := by
    intro ps q
    rcases r.obj n o a h ha with z | ⟨_, z⟩
    · exact hd z
    · cases o with
      | lst xs => obtain ⟨us, z, _⟩ := z; rw [z] at q; cases q
      | dK xs => obtain ⟨us, z, _⟩ := z; rw [z] at q; cases q
      | dT xs => obtain ⟨us, z, _⟩ := z; rw [z] at q; cases q
      | ins C xs => obtain ⟨_, us, z, _⟩ := z; rw [z] at q; cases q
      | dead => exact hd rfl
  have nt2 : ∀ u, H a = some u → (∀ ps, u ≠ .tbl ps) ∧ ∀ q, u ≠ LamX.CodeO a q := by
    intro u e
    rcases r.obj n o a h ha with z | ⟨_, z⟩
    · exact absurd z hd
    · cases o with
      | lst xs => obtain ⟨us, z, _⟩ := z; rw [z] at e; cases e; exact ⟨fun _ q => (nomatch q), fun _ q => (nomatch q)⟩
      | dK xs => obtain ⟨us, z, _⟩ := z; rw [z] at e; cases e; exact ⟨fun _ q => (nomatch q), fun _ q => (nomatch q)⟩
      | dT xs => obtain ⟨us, z, _⟩ := z; rw [z] at e; cases e; exact ⟨fun _ q => (nomatch q), fun _ q => (nomatch q)⟩
      | ins C xs => obtain ⟨_, us, z, _⟩ := z; rw [z] at e; cases e; exact ⟨fun _ q => (nomatch q), fun _ q => (nomatch q)⟩
      | dead => exact (hd rfl).elim
  exact ⟨⟨[], by simp⟩, fun _ h => .inl h, fun b hb => ⟨hb, upd_ne fun z => nF (z ▸ hb)⟩, fun b o' hb hn => .inr (by rw [upd_ne (show b ≠ a from fun z => hn (by rw [z]; exact hm))]; exact hb), fun b ps hb => ⟨#[], by rw [upd_ne (show b ≠ a from fun z => nt ps (by rw [← z]; exact hb)), hb]; simp, by simp⟩, fun _ h => .inl h, fun _ _ t => TabS.at t nt2⟩
theorem RL.chg {n : Nat} {a : Addr} {o lo : LO} {ho : HO} {L : LH} (r : RL K κ H L) (h : L[n]? = some o) (hd : o ≠ .dead) (ha : κ.ρ[n]? = some a) (hr : RO K κ (upd H a ho) a lo) : RL K κ (upd H a ho) (L.set n lo) where
  len := by rw [List.length_set]; exact r.len
  nd := r.nd
  liv := fun b hb => by
    by_cases e : b = a
    · subst e; rw [upd_same]; exact fun z => nomatch z
    · rw [upd_ne e]; exact r.liv b hb
  fz := fun b hb => by
    by_cases e : b = a
    · subst e; rw [upd_same]; exact fun z => nomatch z
    · rw [upd_ne e]; exact r.fz b hb
  obj := fun m o' b h1 h2 => by
    have nF : ¬ κ.F a := by
      rcases r.obj n o a h ha with z | z
      · exact absurd z hd
      · exact z.1
    by_cases e : m = n
    · subst e
      rw [ha] at h2; cases h2
      rw [List.getElem?_set_self (List.getElem?_eq_some_iff.mp h).1] at h1
      cases h1
      exact .inr ⟨nF, hr⟩
    · rw [List.getElem?_set_ne (Ne.symm e)] at h1
      have hba : b ≠ a := fun z => e (L2.nd_ix r.nd h2 (z ▸ ha))
      rcases r.obj m o' b h1 h2 with z | ⟨z1, z2⟩
      · exact .inl z
      · exact .inr ⟨z1, z2.up (Up.chg r h hd ha) (upd_ne hba)⟩
  tab := r.tabs (Up.chg r h hd ha)
  tls := r.tlss (Up.chg r h hd ha)
/-- a list is changed no more -/
theorem Up.frost {n : Nat} {a : Addr} (ha : κ.ρ[n]? = some a) : Up K κ H (κ.more a) H :=
  ⟨⟨[], by simp⟩, fun _ h => .inl h, fun b hb => ⟨.inl hb, rfl⟩, fun b o' hb hn => .inr hb, fun b ps hb => ⟨#[], by rw [hb]; simp, by simp⟩, fun b hb => hb.imp id fun (z : b = a) => .inr (by rw [z]; exact List.mem_of_getElem? ha), fun _ _ t => t⟩
theorem RL.frost {n : Nat} {a : Addr} {o : LO} {L : LH} (r : RL K κ H L) (h : L[n]? = some o) (ha : κ.ρ[n]? = some a) : RL K (κ.more a) H (L.set n .dead) where
  len := by rw [List.length_set]; exact r.len
  nd := r.nd
  liv := r.liv
  fz := fun b hb => hb.elim (r.fz b) fun z => z ▸ r.liv a (List.mem_of_getElem? ha)
  obj := fun m o' b h1 h2 => by
    by_cases e : m = n
    · subst e
      rw [List.getElem?_set_self (List.getElem?_eq_some_iff.mp h).1] at h1
      cases h1
      exact .inl rfl
    · rw [List.getElem?_set_ne (Ne.symm e)] at h1
      have hba : b ≠ a := fun z => e (L2.nd_ix r.nd h2 (z ▸ ha))
      rcases r.obj m o' b h1 h2 with z | ⟨z1, z2⟩
      · exact .inl z
      · exact .inr ⟨fun w => w.elim z1 hba, z2.up (Up.frost ha) rfl⟩
  tab := r.tabs (Up.frost ha)
  tls := r.tlss (Up.frost ha)
/-! ### a change of what is no one's -/
mutual
theorem RV.off (k : ∀ a, κ.F a → H' a = H a) : ∀ {v : LV} {w : V}, RV K κ H v w → RV K κ H' v w
  | _, _, .non => .non
  | _, _, .bl b => .bl b
  | _, _, .int i => .int i
  | _, _, .str x => .str x
  | _, _, .ref h => .ref h
  | _, _, .tup h r => .tup ⟨h.1, (k _ h.1).trans h.2⟩ (RVs.off k r)
  | _, _, .st h r => .st h (RVs.off k r)
  | _, _, .fl h r => .fl ⟨h.1, (k _ h.1).trans h.2⟩ (RVs.off k r)
  | _, _, .sl h r => .sl (h.imp (fun ⟨a, b⟩ => ⟨a, Rd.same b (k _ a)⟩) id) (RVs.off k r)
  | _, _, .adr a => .adr a
  | _, _, .ty n => .ty n
theorem RVs.off (k : ∀ a, κ.F a → H' a = H a) : ∀ {v : List LV} {w : List V}, RVs K κ H v w → RVs K κ H' v w
  | _, _, .nil => .nil
  | _, _, .cons h r => .cons (RV.off k h) (RVs.off k r)
end
theorem Keyed.off {T : Type} (k : ∀ a, κ.F a → H' a = H a) : ∀ {a : List (T × LV)} {b : List (T × V)}, Keyed K κ H a b → Keyed K κ H' a b
  | _, _, .nil => .nil
  | _, _, .cons h r => .cons ⟨h.1, h.2.off k⟩ (Keyed.off k r)
theorem RL.off {L : LH} (r : RL K κ H L) (k : ∀ a, κ.F a ∨ a ∈ κ.ρ ∨ a ∈ K.T → H' a = H a) (kS : ∀ P q, LamX.TabS H P q → LamX.TabS H' P q) : RL K κ H' L where
  len := r.len
  nd := r.nd
  liv := fun a h => by rw [k a (.inr (.inl h))]; exact r.liv a h
  fz := fun a h => by rw [k a (.inl h)]; exact r.fz a h
  obj := fun n o a h1 h2 => by
    have e := k a (.inr (.inl (List.mem_of_getElem? h2)))
    have kF := fun a h => k a (.inl h)
    rcases r.obj n o a h1 h2 with z | ⟨z1, z2⟩
    · exact .inl z
    · refine .inr ⟨z1, ?_⟩
      cases o with
      | lst xs => obtain ⟨us, q1, q2⟩ := z2; exact ⟨us, e.trans q1, q2.off kF⟩
      | dK kvs => obtain ⟨us, q1, q2⟩ := z2; exact ⟨us, e.trans q1, q2.off kF⟩
      | dT kvs => obtain ⟨us, q1, q2⟩ := z2; exact ⟨us, e.trans q1, q2.off kF⟩
      | ins C fs => obtain ⟨dx, us, q1, q2⟩ := z2; exact ⟨dx, us, e.trans q1, q2.off kF⟩
      | dead => trivial
  tab := fun P hP => by
    obtain ⟨⟨ps, e, t⟩, n⟩ := r.tab P hP
    exact ⟨⟨ps, (k P (.inr (.inr hP))).trans e, t⟩, n⟩
  tls := fun p hp => ⟨kS _ _ (r.tls p hp).1, (r.tls p hp).2⟩
/-- a list that was new then and is no one's yet is filled -/
theorem Up.fill {D : Addr} {o : HO} {L : LH} {l : List V} (r : RL K κ H L) (u : Up K κ H κ' H') (hD : H D = none) (hD' : H' D = some (.lst l)) : Up K κ H κ' (upd H' D o) where
  pre := u.pre
  new := u.new
  frz := fun a h => ⟨(u.frz a h).1, by rw [upd_ne (show a ≠ D from fun z => r.fz a h (by rw [z]; exact hD))]; exact (u.frz a h).2⟩
  oth := fun b o' h hn => by rw [upd_ne (ne_of_none h hD)]; exact u.oth b o' h hn
  tbl := fun b ps h => by rw [upd_ne (ne_of_none h hD)]; exact u.tbl b ps h
  fnew := u.fnew
  lam := fun p hp t => TabS.at (u.lam p hp t) fun v e => by rw [hD'] at e; cases e; exact ⟨fun _ q => (nomatch q), fun _ q => (nomatch q)⟩
/-- .. and is never changed again -/
theorem Up.keep {D : Addr} {o : HO} (h : H D = some o) (hn : D ∉ κ.ρ) : Up K κ H κ H := Up.refl
/-- a def's table has grown -/
def Tb (P : Addr) (H H' : Hp) : Prop := ∃ ps more : Array Value, H P = some (.tbl ps) ∧ TriplesOk (ps ++ more).toList ∧ H' = upd H P (.tbl (ps ++ more))
theorem Up.tabbed {P : Addr} {L : LH} (r : RL K κ H L) (hP : P ∈ K.T) (h : Tb P H H') : Up K κ H κ H' := by
  obtain ⟨ps, more, e, t, rfl⟩ := h
  obtain ⟨_, n1, n2⟩ := r.tab P hP
  refine ⟨⟨[], by simp⟩, fun _ h => .inl h, fun a h => ⟨h, upd_ne fun z => n1 (z ▸ h)⟩, fun b o h n => ?_, fun b qs h => ?_, fun _ h => .inl h, fun p hp t => ?_⟩
  · by_cases z : b = P
    · subst z
      rw [e] at h; cases h
      exact .inl ⟨_, rfl⟩
    · exact .inr (by rw [upd_ne z]; exact h)
  · by_cases z : b = P
    · subst z
      rw [e] at h; cases h
      exact ⟨more, upd_same, fun _ => t⟩
    · exact ⟨#[], by rw [upd_ne z, h]; simp, by simp⟩
  · obtain ⟨qs, e1, e2, e3⟩ := t
    refine ⟨qs, by rw [upd_ne (show p.1 ≠ P from fun z => (r.tls p hp).2.2.2 (by rw [z]; exact hP))]; exact e1, e2, fun pos cv hc => ?_⟩
    obtain ⟨c, e4, e5⟩ := e3 pos cv hc
    exact ⟨c, e4, by rw [upd_ne (show c ≠ P from fun z => by rw [z, e] at e5; exact LamX.codeO_ne _ (Option.some.inj e5).symm)]; exact e5⟩
theorem RL.tabbed {P : Addr} {L : LH} (r : RL K κ H L) (hP : P ∈ K.T) (h : Tb P H H') : RL K κ H' L := by
  have u := Up.tabbed r hP h
  obtain ⟨ps, more, e, t, rfl⟩ := h
  obtain ⟨_, n1, n2⟩ := r.tab P hP
  exact r.up u rfl (fun a ha => upd_ne fun z => n2 (z ▸ ha)) (fun a h => .inl h) fun a h => by rw [upd_ne (show a ≠ P from fun z => n1 (z ▸ h))]; exact r.fz a h
end
end Q
end
section
set_option Elab.async false
set_option linter.all false
set_option maxRecDepth 100000
set_option maxHeartbeats 4000000
namespace Q
open PySem L2
/-! ### what a piece of code gives -/
def RS (K : Kt) (κ : Kp) (H : Hp) (s : Sl) (σ : St) : Prop := s.length = σ.length ∧ ∀ (i : Nat) (v : LV), s[i]? = some (some v) → ∃ u, σ[i]? = some (some u) ∧ RV K κ H v u
section
variable {K : Kt} {κ κ' : Kp} {H H' : Hp} {s : Sl} {σ : St} {W : WX}
theorem RS.up (r : RS K κ H s σ) (u : Up K κ H κ' H') : RS K κ' H' s σ := ⟨r.1, fun i v h => let ⟨w, h1, h2⟩ := r.2 i v h; ⟨w, h1, h2.up u⟩⟩
theorem RS.set (r : RS K κ H s σ) {v : LV} {u : V} (h : RV K κ H v u) (i : Nat) : RS K κ H (s.set i (some v)) (σ.set i (some u)) := by
  refine ⟨by rw [List.length_set, List.length_set]; exact r.1, fun j w hj => ?_⟩
  by_cases e : j = i
  · subst e
    have hl : j < s.length := by
      have := (List.getElem?_eq_some_iff.mp hj).1
      rwa [List.length_set] at this
    rw [List.getElem?_set_self hl] at hj
    cases hj
    exact ⟨u, List.getElem?_set_self (by rw [← r.1]; exact hl), h⟩
  · rw [List.getElem?_set_ne (Ne.symm e)] at hj ⊢
    exact r.2 j w hj
/-- what is wanted behind what gives r -/
def HV (K : Kt) (W : WX) (σ : St) (κ : Kp) (H : Hp) {α β : Type} (R : Kp → Hp → α → β → Prop) (r : Res α) (Q : β → Hp → Prop) : Prop :=
  match r with
  | .ok v L' => ∀ κ' H' u, Up K κ H κ' H' → RL K κ' H' L' → R κ' H' v u → Q u H'
  | .exc c L' => ∀ κ' H' d, Up K κ H κ' H' → RL K κ' H' L' → W (.ref (K.cl c)) d σ H'
  | .no => False
theorem HV.up {α β : Type} {R : Kp → Hp → α → β → Prop} {r : Res α} {Q : β → Hp → Prop} (h : HV K W σ κ H R r Q) (u : Up K κ H κ' H') : HV K W σ κ' H' R r Q := by
  cases r with
  | ok v L => exact fun κ2 H2 w a b c => h κ2 H2 w (u.trans a) b c
  | exc c L => exact fun κ2 H2 d a b => h κ2 H2 d (u.trans a) b
  | no => exact h
theorem HV.imp {α β : Type} {R : Kp → Hp → α → β → Prop} {r : Res α} {Q Q' : β → Hp → Prop} (h : HV K W σ κ H R r Q) (k : ∀ u H', Q u H' → Q' u H') : HV K W σ κ H R r Q' := by
  cases r with
  | ok v L => exact fun κ2 H2 w a b c => k _ _ (h κ2 H2 w a b c)
  | exc c L => exact h
  | no => exact h
/-- a step, then the rest -/
theorem HV.bind {α β γ δ : Type} {R : Kp → Hp → α → β → Prop} {S : Kp → Hp → γ → δ → Prop} {r : Res α} {k : α → LH → Res γ} {Q : δ → Hp → Prop} (h : HV K W σ κ H S (r.bind k) Q) :
    HV K W σ κ H R r fun u H1 => ∃ κ1 L1 x, Up K κ H κ1 H1 ∧ RL K κ1 H1 L1 ∧ R κ1 H1 x u ∧ HV K W σ κ1 H1 S (k x L1) Q := by
  cases r with
  | ok v L => exact fun κ2 H2 w a b c => ⟨κ2, L, v, a, b, c, h.up a⟩
  | exc c L => exact h
  | no => exact h
end
section
variable (K : Kt) (W : WX)
abbrev RB : Kp → Hp → Bool → Bool → Prop := fun _ _ a b => a = b
def tE (f : Sl → M LV) : TE := fun σ H Q => ∃ κ s L, RS K κ H s σ ∧ RL K κ H L ∧ HV K W σ κ H (RV K) (f s L) Q
def tT (f : Sl → M Bool) : TT := fun σ H Q => ∃ κ s L, RS K κ H s σ ∧ RL K κ H L ∧ HV K W σ κ H RB (f s L) Q
def tA (f : Sl → M (List LV)) : TA := fun σ H Q => ∃ κ s L, RS K κ H s σ ∧ RL K κ H L ∧ HV K W σ κ H (RVs K) (f s L) Q
end
def QE (X : Cx) (K : Kt) (W : WX) (e : Expr) (f : Sl → M LV) : Prop := PE X e (tE K W f)
def QT (X : Cx) (K : Kt) (W : WX) (e : Expr) (f : Sl → M Bool) : Prop := PT X e (tT K W f)
def QW (X : Cx) (K : Kt) (W : WX) (e : Expr) (f : Sl → M Bool) : Prop := PW X e (tT K W f)
def QA (X : Cx) (K : Kt) (W : WX) (es : List Expr) (f : Sl → M (List LV)) : Prop := PA X es (tA K W f)
theorem PE.weak {X : Cx} {e : Expr} {t u : TE} (h : PE X e t) (k : ∀ σ H Q, u σ H Q → t σ H Q) : PE X e u := ⟨fun pins s σ H Q I q => h.run pins s σ H Q I (k _ _ _ q)⟩
theorem PT.weak {X : Cx} {e : Expr} {t u : TT} (h : PT X e t) (k : ∀ σ H Q, u σ H Q → t σ H Q) : PT X e u := ⟨fun pins s σ H Q I q => h.run pins s σ H Q I (k _ _ _ q)⟩
theorem PW.weak {X : Cx} {e : Expr} {t u : TT} (h : PW X e t) (k : ∀ σ H Q, u σ H Q → t σ H Q) : PW X e u := ⟨fun wh pins s σ H Q I q => h.run wh pins s σ H Q I (k _ _ _ q)⟩
theorem PA.weak {X : Cx} {e : List Expr} {t u : TA} (h : PA X e t) (k : ∀ σ H Q, u σ H Q → t σ H Q) : PA X e u := ⟨fun pos pins s σ H Q I q => h.run pos pins s σ H Q I (k _ _ _ q)⟩

/-! ### the functions of code -/
def mVar (i : Nat) : Sl → M LV := fun s L => match s[i]? with
  | some (some v) => .ok v L
  | _ => .no
def mC (v : LV) : Sl → M LV := fun _ L => .ok v L
def mOp (g : LV → LV → M LV) (fa fb : Sl → M LV) : Sl → M LV := fun s L => (fa s L).bind fun x L1 => (fb s L1).bind fun y L2 => g x y L2
def mUn (g : LV → M LV) (fa : Sl → M LV) : Sl → M LV := fun s L => (fa s L).bind fun x L1 => g x L1
def toB : LV → M Bool := fun v L => match v with
  | .bl b => .ok b L
  | _ => .no
def mTest (f : Sl → M LV) : Sl → M Bool := fun s L => (f s L).bind toB
def mAnd (f g : Sl → M Bool) : Sl → M Bool := fun s L => (f s L).bind fun b L1 => if b = true then g s L1 else .ok false L1
def mOr (f g : Sl → M Bool) : Sl → M Bool := fun s L => (f s L).bind fun b L1 => if b = true then .ok true L1 else g s L1
def mNot (f : Sl → M Bool) : Sl → M Bool := fun s L => (f s L).bind fun b L1 => .ok (!b) L1
def mIf (c : Sl → M Bool) (f g : Sl → M LV) : Sl → M LV := fun s L => (c s L).bind fun b L1 => if b = true then f s L1 else g s L1
def mB (f : Sl → M Bool) : Sl → M LV := fun s L => (f s L).bind fun b L1 => .ok (.bl b) L1
def mNil : Sl → M (List LV) := fun _ L => .ok [] L
def mCons (f : Sl → M LV) (g : Sl → M (List LV)) : Sl → M (List LV) := fun s L => (f s L).bind fun x L1 => (g s L1).bind fun xs L2 => .ok (x :: xs) L2
def mTup (f : Sl → M (List LV)) : Sl → M LV := fun s L => (f s L).bind fun xs L1 => if xs.length ≤ 1000 then .ok (.tup xs) L1 else .no
/-- a list that nobody changes; one that is changed -/
def mFl (f : Sl → M (List LV)) : Sl → M LV := fun s L => (f s L).bind fun xs L1 => if xs.length ≤ 1000 then .ok (.fl xs) L1 else .no
def mLst (f : Sl → M (List LV)) : Sl → M LV := fun s L => (f s L).bind fun xs L1 => if xs.length ≤ 1000 then .ok (.ref L1.length) (L1 ++ [.lst xs]) else .no
theorem le_line {n : Nat} (h : n ≤ 1000) : n ≤ sizeLine := Nat.le_of_lt (L2.small1000 h)
section
variable {X : Cx} {K : Kt} {W : WX} {a b c e : Expr} {es : List Expr} {pos : Pos} {fa fb : Sl → M LV} {f g : Sl → M Bool} {fs : Sl → M (List LV)}
theorem qe_var {i : Nat} (h : PE X e (tVar i)) : QE X K W e (mVar i) := PE.weak h fun σ H Q ⟨κ, s, L, rs, rl, h⟩ => by
  unfold mVar at h
  split at h
  · rename_i v hv
    obtain ⟨u, h1, h2⟩ := rs.2 i v hv
    exact ⟨u, h1, h κ H u Up.refl rl h2⟩
  · exact h.elim
theorem qe_c {v : LV} {u : V} (h : PE X e (tC u)) (hv : ∀ κ H, RV K κ H v u) : QE X K W e (mC v) := PE.weak h fun σ H Q ⟨κ, s, L, rs, rl, h⟩ => h κ H u Up.refl rl (hv κ H)
theorem qe_int {i j} : QE X K W (.Constant (.int i) j pos) (mC (.int i)) := qe_c pe_int fun _ _ => .int _
theorem qe_bl {i j} : QE X K W (.Constant (.bool i) j pos) (mC (.bl i)) := qe_c pe_bl fun _ _ => .bl _
theorem qe_str {i j} : QE X K W (.Constant (.str i) j pos) (mC (.str i)) := qe_c pe_str fun _ _ => .str _
theorem qe_non {j} : QE X K W (.Constant .none j pos) (mC .non) := qe_c pe_non fun _ _ => .non
/-- an operator by values -/
def OpQ (X : Cx) (K : Kt) (F : Value → Value → Sem Value) (g : LV → LV → M LV) : Prop :=
  ∃ r, OpR X F r ∧ ∀ (W : WX) (κ : Kp) (H : Hp) (L : LH) (x y : LV) (u v : V) (σ : St) (Q : VK), RL K κ H L → RV K κ H x u → RV K κ H y v → HV K W σ κ H (RV K) (g x y L) Q → r u v H Q
theorem qe_op {op : Operator} {gg : LV → LV → M LV} (ho : OpQ X K (binaryOp op) gg) (ha : QE X K W a fa) (hb : QE X K W b fb) : QE X K W (.BinOp a op b pos) (mOp gg fa fb) := by
  obtain ⟨r, h1, h2⟩ := ho
  refine PE.weak (pe_op h1 ha hb) fun σ H Q ⟨κ, s, L, rs, rl, h⟩ => ⟨κ, s, L, rs, rl, (HV.bind (R := RV K) h).imp fun u H1 ⟨κ1, L1, x, up, rl1, rx, q⟩ => ⟨κ1, s, L1, rs.up up, rl1, (HV.bind (R := RV K) q).imp fun v H2 ⟨κ2, L2, y, up2, rl2, ry, q2⟩ => h2 W κ2 H2 L2 x y u v σ Q rl2 (rx.up up2) ry q2⟩⟩
theorem qe_cmp {op : CmpOp} {gg : LV → LV → M LV} (ho : OpQ X K (compareOp op) gg) (ha : QE X K W a fa) (hb : QE X K W b fb) (hm : behindInMarks op b = false) : QE X K W (.Compare a [op] [b] pos) (mOp gg fa fb) := by
  obtain ⟨r, h1, h2⟩ := ho
  refine PE.weak (pe_cmpR h1 ha hb hm) fun σ H Q ⟨κ, s, L, rs, rl, h⟩ => ⟨κ, s, L, rs, rl, (HV.bind (R := RV K) h).imp fun u H1 ⟨κ1, L1, x, up, rl1, rx, q⟩ => ⟨κ1, s, L1, rs.up up, rl1, (HV.bind (R := RV K) q).imp fun v H2 ⟨κ2, L2, y, up2, rl2, ry, q2⟩ => h2 W κ2 H2 L2 x y u v σ Q rl2 (rx.up up2) ry q2⟩⟩
theorem toB_ok {κ : Kp} {H : Hp} {L : LH} {σ : St} {x : LV} {u : V} {Q : Bool → Hp → Prop} (rl : RL K κ H L) (rx : RV K κ H x u) (h : HV K W σ κ H RB (toB x L) Q) : ∃ k, u = .bl k ∧ Q k H := by
  cases x with
  | bl b => cases rx; exact ⟨b, rfl, h κ H b Up.refl rl rfl⟩
  | _ => exact h.elim
theorem qt_cmp {op : CmpOp} {gg : LV → LV → M LV} (ho : OpQ X K (compareOp op) gg) (ha : QE X K W a fa) (hb : QE X K W b fb) (hm : behindInMarks op b = false) : QT X K W (.Compare a [op] [b] pos) (mTest (mOp gg fa fb)) := by
  obtain ⟨r, h1, h2⟩ := ho
  refine PT.weak (pt_cmpR h1 ha hb hm) fun σ H Q ⟨κ, s, L, rs, rl, h⟩ => ⟨κ, s, L, rs, rl, ?_⟩
  have h' : HV K W σ κ H RB ((fa s L).bind fun x L1 => ((fb s L1).bind fun y L2 => gg x y L2).bind toB) Q := by
    have e : (mTest (mOp gg fa fb)) s L = ((fa s L).bind fun x L1 => ((fb s L1).bind fun y L2 => gg x y L2).bind toB) := by
      unfold mTest mOp
      cases fa s L <;> rfl
    rw [e] at h
    exact h
  refine (HV.bind (R := RV K) h').imp fun u H1 ⟨κ1, L1, x, up, rl1, rx, q⟩ => ⟨κ1, s, L1, rs.up up, rl1, ?_⟩
  have q' : HV K W σ κ1 H1 RB ((fb s L1).bind fun y L2 => (gg x y L2).bind toB) Q := by
    have e : ((fb s L1).bind fun y L2 => gg x y L2).bind toB = ((fb s L1).bind fun y L2 => (gg x y L2).bind toB) := by cases fb s L1 <;> rfl
    rw [e] at q
    exact q
  refine (HV.bind (R := RV K) q').imp fun v H2 ⟨κ2, L2, y, up2, rl2, ry, q2⟩ => h2 W κ2 H2 L2 x y u v σ _ rl2 (rx.up up2) ry ?_
  exact (HV.bind (R := RV K) q2).imp fun w H3 ⟨κ3, L3, z, up3, rl3, rz, q3⟩ => toB_ok rl3 rz q3
theorem qt_val (ha : QE X K W e fa) (he : ∀ whole, isTrue e X.env whole = (do let v ← whole; standAt e.pos; holding [v] (truthy v)) := by intro _; rfl) : QT X K W e (mTest fa) :=
  PT.weak (pt_val ha he) fun σ H Q ⟨κ, s, L, rs, rl, h⟩ => ⟨κ, s, L, rs, rl, (HV.bind (R := RV K) h).imp fun w H3 ⟨κ3, L3, z, up3, rl3, rz, q3⟩ => toB_ok rl3 rz q3⟩
theorem QW.pt (h : QW X K W e f) : QT X K W e f := PW.pt h
theorem qw_and1 (h : QT X K W a f) : QW X K W (.BoolOp .And [a] pos) f := pw_and1 h
theorem qw_or1 (h : QT X K W a f) : QW X K W (.BoolOp .Or [a] pos) f := pw_or1 h
theorem qw_and (ha : QT X K W a f) (hb : QW X K W (.BoolOp .And (b :: es) pos) g) : QW X K W (.BoolOp .And (a :: b :: es) pos) (mAnd f g) :=
  PW.weak (pw_and ha hb) fun σ H Q ⟨κ, s, L, rs, rl, h⟩ => ⟨κ, s, L, rs, rl, (HV.bind (R := RB) h).imp fun k H3 ⟨κ3, L3, z, up3, rl3, rz, q3⟩ => by
    subst rz
    cases z with
    | true => rw [if_pos rfl]; exact ⟨κ3, s, L3, rs.up up3, rl3, q3⟩
    | false => rw [if_neg (by decide)]; exact q3 κ3 H3 false Up.refl rl3 rfl⟩
theorem qw_or (ha : QT X K W a f) (hb : QW X K W (.BoolOp .Or (b :: es) pos) g) : QW X K W (.BoolOp .Or (a :: b :: es) pos) (mOr f g) :=
  PW.weak (pw_or ha hb) fun σ H Q ⟨κ, s, L, rs, rl, h⟩ => ⟨κ, s, L, rs, rl, (HV.bind (R := RB) h).imp fun k H3 ⟨κ3, L3, z, up3, rl3, rz, q3⟩ => by
    subst rz
    cases z with
    | false => rw [if_neg (by decide)]; exact ⟨κ3, s, L3, rs.up up3, rl3, q3⟩
    | true => rw [if_pos rfl]; exact q3 κ3 H3 true Up.refl rl3 rfl⟩
theorem qt_not (ha : QT X K W a f) : QT X K W (.UnaryOp .Not a pos) (mNot f) :=
  PT.weak (pt_not ha) fun σ H Q ⟨κ, s, L, rs, rl, h⟩ => ⟨κ, s, L, rs, rl, (HV.bind (R := RB) h).imp fun k H3 ⟨κ3, L3, z, up3, rl3, rz, q3⟩ => by
    subst rz
    exact q3 κ3 H3 (!z) Up.refl rl3 rfl⟩
/-- and, or, not of truths as values -/
theorem qe_one {op} (h : QE X K W a fa) : QE X K W (.BoolOp op [a] pos) fa := pe_one h
def mAndV (fa fb : Sl → M LV) : Sl → M LV := fun s L => (fa s L).bind fun x L1 => (toB x L1).bind fun b L2 => if b = true then fb s L2 else .ok (.bl false) L2
def mOrV (fa fb : Sl → M LV) : Sl → M LV := fun s L => (fa s L).bind fun x L1 => (toB x L1).bind fun b L2 => if b = true then .ok (.bl true) L2 else fb s L2
theorem toB_bind {κ : Kp} {H : Hp} {L : LH} {σ : St} {x : LV} {u : V} {γ δ : Type} {S : Kp → Hp → γ → δ → Prop} {k : Bool → LH → Res γ} {Q : δ → Hp → Prop} (rx : RV K κ H x u) (h : HV K W σ κ H S ((toB x L).bind k) Q) : ∃ c, u = .bl c ∧ HV K W σ κ H S (k c L) Q := by
  cases x with
  | bl b => cases rx; exact ⟨b, rfl, h⟩
  | _ => exact h.elim
theorem qe_and (ha : QE X K W a fa) (hb : QE X K W (.BoolOp .And (b :: es) pos) fb) : QE X K W (.BoolOp .And (a :: b :: es) pos) (mAndV fa fb) :=
  PE.weak (pe_and ha hb) fun σ H Q ⟨κ, s, L, rs, rl, h⟩ => ⟨κ, s, L, rs, rl, (HV.bind (R := RV K) h).imp fun k H3 ⟨κ3, L3, z, up3, rl3, rz, q3⟩ => by
    obtain ⟨c, rfl, q4⟩ := toB_bind rz q3
    refine ⟨c, rfl, ?_⟩
    cases c with
    | true => rw [if_pos rfl]; exact ⟨κ3, s, L3, rs.up up3, rl3, q4⟩
    | false => rw [if_neg (by decide)]; exact q4 κ3 H3 (.bl false) Up.refl rl3 (.bl _)⟩
theorem qe_or (ha : QE X K W a fa) (hb : QE X K W (.BoolOp .Or (b :: es) pos) fb) : QE X K W (.BoolOp .Or (a :: b :: es) pos) (mOrV fa fb) :=
  PE.weak (pe_or ha hb) fun σ H Q ⟨κ, s, L, rs, rl, h⟩ => ⟨κ, s, L, rs, rl, (HV.bind (R := RV K) h).imp fun k H3 ⟨κ3, L3, z, up3, rl3, rz, q3⟩ => by
    obtain ⟨c, rfl, q4⟩ := toB_bind rz q3
    refine ⟨c, rfl, ?_⟩
    cases c with
    | false => rw [if_neg (by decide)]; exact ⟨κ3, s, L3, rs.up up3, rl3, q4⟩
    | true => rw [if_pos rfl]; exact q4 κ3 H3 (.bl true) Up.refl rl3 (.bl _)⟩
def mNotV (fa : Sl → M LV) : Sl → M LV := fun s L => (fa s L).bind fun x L1 => (toB x L1).bind fun b L2 => .ok (.bl (!b)) L2
theorem qe_not (ha : QE X K W a fa) : QE X K W (.UnaryOp .Not a pos) (mNotV fa) :=
  PE.weak (pe_not ha) fun σ H Q ⟨κ, s, L, rs, rl, h⟩ => ⟨κ, s, L, rs, rl, (HV.bind (R := RV K) h).imp fun k H3 ⟨κ3, L3, z, up3, rl3, rz, q3⟩ => by
    obtain ⟨c, rfl, q4⟩ := toB_bind rz q3
    exact ⟨c, rfl, q4 κ3 H3 _ Up.refl rl3 (.bl _)⟩⟩
theorem qe_ifExp (hc : QT X K W c f) (ha : QE X K W a fa) (hb : QE X K W b fb) : QE X K W (.IfExp c a b pos) (mIf f fa fb) :=
  PE.weak (pe_ifExp hc ha hb) fun σ H Q ⟨κ, s, L, rs, rl, h⟩ => ⟨κ, s, L, rs, rl, (HV.bind (R := RB) h).imp fun k H3 ⟨κ3, L3, z, up3, rl3, rz, q3⟩ => by
    subst rz
    cases z with
    | true => rw [if_pos rfl]; exact ⟨κ3, s, L3, rs.up up3, rl3, q3⟩
    | false => rw [if_neg (by decide)]; exact ⟨κ3, s, L3, rs.up up3, rl3, q3⟩⟩
def UnQ (X : Cx) (K : Kt) (F : Value → Sem Value) (g : LV → M LV) : Prop :=
  ∃ r, UnR X F r ∧ ∀ (W : WX) (κ : Kp) (H : Hp) (L : LH) (x : LV) (u : V) (σ : St) (Q : VK), RL K κ H L → RV K κ H x u → HV K W σ κ H (RV K) (g x L) Q → r u H Q
theorem qe_un {op : UnaryOp} {gg : LV → M LV} (ho : UnQ X K (unaryOp op) gg) (ha : QE X K W a fa) : QE X K W (.UnaryOp op a pos) (mUn gg fa) := by
  obtain ⟨r, h1, h2⟩ := ho
  exact PE.weak (pe_un h1 ha) fun σ H Q ⟨κ, s, L, rs, rl, h⟩ => ⟨κ, s, L, rs, rl, (HV.bind (R := RV K) h).imp fun u H1 ⟨κ1, L1, x, up, rl1, rx, q⟩ => h2 W κ1 H1 L1 x u σ Q rl1 rx q⟩
/-! ### arguments, displays -/
theorem qa_nil : QA X K W [] mNil := PA.weak pa_nil fun σ H Q ⟨κ, s, L, rs, rl, h⟩ => h κ H [] Up.refl rl .nil
theorem qa_cons (ha : QE X K W e fa) (hr : QA X K W es fs) (hs : starEach (e :: es) X.env = (false, eval e X.env) :: starEach es X.env := by rfl) : QA X K W (e :: es) (mCons fa fs) :=
  PA.weak (pa_cons ha hr hs) fun σ H Q ⟨κ, s, L, rs, rl, h⟩ => ⟨κ, s, L, rs, rl, (HV.bind (R := RV K) h).imp fun u H1 ⟨κ1, L1, x, up, rl1, rx, q⟩ => ⟨κ1, s, L1, rs.up up, rl1, (HV.bind (R := RVs K) q).imp fun us H2 ⟨κ2, L2, xs, up2, rl2, rxs, q2⟩ => q2 κ2 H2 (u :: us) Up.refl rl2 (.cons (rx.up up2) rxs)⟩⟩
theorem qe_tup {x1} (h : QA X K W es fs) : QE X K W (.Tuple es x1 pos) (mTup fs) :=
  PE.weak (pe_tup h) fun σ H Q ⟨κ, s, L, rs, rl, h⟩ => ⟨κ, s, L, rs, rl, (HV.bind (R := RVs K) h).imp fun us H1 ⟨κ1, L1, xs, up, rl1, rx, q⟩ => by
    split at q
    · rename_i hl
      refine ⟨by rw [← rx.length]; exact le_line hl, fun p hp => q (κ1.more p) _ _ (Up.froz rl1 hp) (rl1.froz hp) (new_tup rl1 hp rx)⟩
    · exact q.elim⟩
theorem qe_fl (h : QA X K W es fs) : QE X K W (.List es pos) (mFl fs) :=
  PE.weak (pe_lst h) fun σ H Q ⟨κ, s, L, rs, rl, h⟩ => ⟨κ, s, L, rs, rl, (HV.bind (R := RVs K) h).imp fun us H1 ⟨κ1, L1, xs, up, rl1, rx, q⟩ => by
    split at q
    · rename_i hl
      refine ⟨by rw [← rx.length]; exact le_line hl, fun p hp => q (κ1.more p) _ _ (Up.froz rl1 hp) (rl1.froz hp) (new_fl rl1 hp rx)⟩
    · exact q.elim⟩
theorem qe_lst (h : QA X K W es fs) : QE X K W (.List es pos) (mLst fs) :=
  PE.weak (pe_lst h) fun σ H Q ⟨κ, s, L, rs, rl, h⟩ => ⟨κ, s, L, rs, rl, (HV.bind (R := RVs K) h).imp fun us H1 ⟨κ1, L1, xs, up, rl1, rx, q⟩ => by
    split at q
    · rename_i hl
      refine ⟨by rw [← rx.length]; exact le_line hl, fun p hp => q (κ1.num p) _ _ (Up.numb rl1 hp) (rl1.numb hp ⟨us, upd_same, rx.up (Up.numb rl1 hp)⟩) (new_ref rl1)⟩
    · exact q.elim⟩
end
end Q
end
section
set_option Elab.async false
set_option linter.all false
set_option maxRecDepth 100000
set_option maxHeartbeats 4000000
namespace Q
open PySem L2
/-! ### statements -/
inductive Fl where
  | next (s : Sl) (L : LH) | ret (v : LV) (L : LH) | brk (s : Sl) (L : LH) | cont (s : Sl) (L : LH) | exc (c : Nat) (s : Sl) (L : LH) | no
abbrev MS := Sl → LH → Fl
def lift {α : Type} (s : Sl) (k : α → LH → Fl) : Res α → Fl
  | .ok a L => k a L
  | .exc c L => .exc c s L
  | .no => .no
def Fl.andThen (r : Fl) (k : MS) : Fl := match r with
  | .next s L => k s L
  | r => r
section
variable (K : Kt) (W : WX)
def HS (κ : Kp) (H : Hp) (r : Fl) (D : Ends) : Prop := match r with
  | .next s L => ∀ κ' H' σ', Up K κ H κ' H' → RL K κ' H' L → RS K κ' H' s σ' → D.nx σ' H'
  | .ret v L => ∀ κ' H' u, Up K κ H κ' H' → RL K κ' H' L → RV K κ' H' v u → D.rt u H'
  | .brk s L => ∀ κ' H' σ', Up K κ H κ' H' → RL K κ' H' L → RS K κ' H' s σ' → D.bk σ' H'
  | .cont s L => ∀ κ' H' σ', Up K κ H κ' H' → RL K κ' H' L → RS K κ' H' s σ' → D.ct σ' H'
  | .exc c s L => ∀ κ' H' σ' d, Up K κ H κ' H' → RL K κ' H' L → RS K κ' H' s σ' → W (.ref (K.cl c)) d σ' H'
  | .no => False
def tS (f : MS) : TS := fun D σ H => ∃ κ s L, RS K κ H s σ ∧ RL K κ H L ∧ HS K W κ H (f s L) D
def tG (g : LV → Sl → Option Sl) (ix : List Nat) : TG := fun v σ H Q => ∃ κ s x s', RS K κ H s σ ∧ RV K κ H x v ∧ g x s = some s' ∧ ∀ σ', RS K κ H s' σ' → σ'.length = σ.length → (∀ j, j ∉ ix → σ'[j]? = σ[j]?) → Q σ' H
def tGs (g : List LV → Sl → Option Sl) (ix : List Nat) : TGs := fun v σ H Q => ∃ κ s x s', RS K κ H s σ ∧ RVs K κ H x v ∧ g x s = some s' ∧ ∀ σ', RS K κ H s' σ' → σ'.length = σ.length → (∀ j, j ∉ ix → σ'[j]? = σ[j]?) → Q σ' H
end
def QS (X : Cx) (K : Kt) (W : WX) (st : Stmt) (f : MS) : Prop := PS X st (tS K W f)
def QSs (X : Cx) (K : Kt) (W : WX) (st : List Stmt) (f : MS) : Prop := PSs X st (tS K W f)
def QG (X : Cx) (K : Kt) (tg : Expr) (g : LV → Sl → Option Sl) (ix : List Nat) : Prop := PG X tg (tG K g ix)
def QGs (X : Cx) (K : Kt) (tg : List Expr) (g : List LV → Sl → Option Sl) (ix : List Nat) : Prop := PGs X tg (tGs K g ix)
theorem PS.weak {X : Cx} {e : Stmt} {t u : TS} (h : PS X e t) (k : ∀ D σ H, u D σ H → t D σ H) : PS X e u := ⟨fun pins s σ H D I q => h.run pins s σ H D I (k _ _ _ q)⟩
theorem PSs.weak {X : Cx} {e : List Stmt} {t u : TS} (h : PSs X e t) (k : ∀ D σ H, u D σ H → t D σ H) : PSs X e u := ⟨fun pins s σ H D I q => h.run pins s σ H D I (k _ _ _ q)⟩
theorem PG.weak {X : Cx} {e : Expr} {t u : TG} (h : PG X e t) (k : ∀ v σ H Q, u v σ H Q → t v σ H Q) : PG X e u := ⟨fun pins s σ H v w Q I r q => h.run pins s σ H v w Q I r (k _ _ _ _ q)⟩
theorem PGs.weak {X : Cx} {e : List Expr} {t u : TGs} (h : PGs X e t) (k : ∀ v σ H Q, u v σ H Q → t v σ H Q) : PGs X e u := ⟨fun pins s σ H v w Q I r q => h.run pins s σ H v w Q I r (k _ _ _ _ q)⟩
section
variable {K : Kt} {κ κ' : Kp} {H H' : Hp} {s : Sl} {σ : St} {W : WX} {D : Ends}
theorem HS.up {r : Fl} (h : HS K W κ H r D) (u : Up K κ H κ' H') : HS K W κ' H' r D := by
  cases r with
  | next s L => exact fun κ2 H2 σ2 a b c => h κ2 H2 σ2 (u.trans a) b c
  | ret v L => exact fun κ2 H2 σ2 a b c => h κ2 H2 σ2 (u.trans a) b c
  | brk s L => exact fun κ2 H2 σ2 a b c => h κ2 H2 σ2 (u.trans a) b c
  | cont s L => exact fun κ2 H2 σ2 a b c => h κ2 H2 σ2 (u.trans a) b c
  | exc c s L => exact fun κ2 H2 σ2 d a b c => h κ2 H2 σ2 d (u.trans a) b c
  | no => exact h
theorem HS.lift {α β : Type} {R : Kp → Hp → α → β → Prop} {r : Res α} {k : α → LH → Fl} (rs : RS K κ H s σ) (h : HS K W κ H (lift s k r) D) :
    HV K W σ κ H R r fun u H1 => ∃ κ1 L1 x, Up K κ H κ1 H1 ∧ RL K κ1 H1 L1 ∧ R κ1 H1 x u ∧ HS K W κ1 H1 (k x L1) D := by
  cases r with
  | ok v L => exact fun κ2 H2 w a b c => ⟨κ2, L, v, a, b, c, h.up a⟩
  | exc c L => exact fun κ2 H2 d a b => h κ2 H2 σ d a b (rs.up a)
  | no => exact h
theorem HS.seq {r : Fl} {k : MS} (h : HS K W κ H (r.andThen k) D) : HS K W κ H r { D with nx := tS K W k D } := by
  cases r with
  | next s L => exact fun κ2 H2 σ2 a b c => ⟨κ2, s, L, c, b, HS.up h a⟩
  | ret v L => exact h
  | brk s L => exact h
  | cont s L => exact h
  | exc c s L => exact h
  | no => exact h
end
def mSkip : MS := fun s L => .next s L
def mSeq (f g : MS) : MS := fun s L => (f s L).andThen g
def mBreak : MS := fun s L => .brk s L
def mCont : MS := fun s L => .cont s L
def mDrop (f : Sl → M LV) : MS := fun s L => lift s (fun _ L1 => .next s L1) (f s L)
def mRet (f : Sl → M LV) : MS := fun s L => lift s (fun v L1 => .ret v L1) (f s L)
def mRetN : MS := fun _ L => .ret .non L
def mIfS (c : Sl → M Bool) (f g : MS) : MS := fun s L => lift s (fun b L1 => if b = true then f s L1 else g s L1) (c s L)
def mAsg (f : Sl → M LV) (g : LV → Sl → Option Sl) : MS := fun s L => lift s (fun x L1 => match g x s with
  | some s2 => .next s2 L1
  | none => .no) (f s L)
def gN (i : Nat) : LV → Sl → Option Sl := fun x s => some (s.set i (some x))
def gNil : List LV → Sl → Option Sl := fun xs s => match xs with
  | [] => some s
  | _ => none
def gCons (g : LV → Sl → Option Sl) (gs : List LV → Sl → Option Sl) : List LV → Sl → Option Sl := fun xs s => match xs with
  | x :: r => (g x s).bind fun s1 => gs r s1
  | _ => none
def gT (n : Nat) (gs : List LV → Sl → Option Sl) : LV → Sl → Option Sl := fun x s => match x with
  | .tup xs => if xs.length = n then gs xs s else none
  | .st xs => if xs.length = n then gs xs s else none
  | _ => none
/-- a, b = x, y -/
def mPar (i j : Nat) (f : Sl → M (List LV)) : MS := fun s L => lift s (fun xs L1 => match xs with
  | [v, w] => .next ((s.set i (some v)).set j (some w)) L1
  | _ => .no) (f s L)
section
variable {X : Cx} {K : Kt} {W : WX} {a b c e : Expr} {es : List Expr} {pos : Pos} {st : Stmt} {sts sts' : List Stmt} {fa fb : Sl → M LV} {fc : Sl → M Bool} {fs : Sl → M (List LV)} {f g : MS} {gg : LV → Sl → Option Sl} {ggs : List LV → Sl → Option Sl}
theorem qss_nil : QSs X K W [] mSkip := PSs.weak pss_nil fun D σ H ⟨κ, s, L, rs, rl, h⟩ => h κ H σ Up.refl rl rs
theorem qss_cons (h1 : QS X K W st f) (h2 : QSs X K W sts g) : QSs X K W (st :: sts) (mSeq f g) :=
  PSs.weak (pss_cons h1 h2) fun D σ H ⟨κ, s, L, rs, rl, h⟩ => ⟨κ, s, L, rs, rl, HS.seq h⟩
theorem qss_one (h1 : QS X K W st f) : QSs X K W [st] f := pss_one h1
theorem qs_pass : QS X K W (.Pass pos) mSkip := PS.weak ps_pass fun D σ H ⟨κ, s, L, rs, rl, h⟩ => h κ H σ Up.refl rl rs
theorem qs_break : QS X K W (.Break pos) mBreak := PS.weak ps_break fun D σ H ⟨κ, s, L, rs, rl, h⟩ => h κ H σ Up.refl rl rs
theorem qs_continue : QS X K W (.Continue pos) mCont := PS.weak ps_continue fun D σ H ⟨κ, s, L, rs, rl, h⟩ => h κ H σ Up.refl rl rs
theorem qs_expr (he : QE X K W e fa) (hs : swapsWith e none pos.line X.env = pure false := by rfl) : QS X K W (.Expr e pos) (mDrop fa) :=
  PS.weak (ps_expr he hs) fun D σ H ⟨κ, s, L, rs, rl, h⟩ => ⟨κ, s, L, rs, rl, (HS.lift (R := RV K) rs h).imp fun u H1 ⟨κ1, L1, x, up, rl1, rx, q⟩ => q κ1 H1 σ Up.refl rl1 (rs.up up)⟩
theorem qs_ret (he : QE X K W e fa) : QS X K W (.Return (some e) pos) (mRet fa) :=
  PS.weak (ps_ret he) fun D σ H ⟨κ, s, L, rs, rl, h⟩ => ⟨κ, s, L, rs, rl, (HS.lift (R := RV K) rs h).imp fun u H1 ⟨κ1, L1, x, up, rl1, rx, q⟩ => q κ1 H1 u Up.refl rl1 rx⟩
theorem qs_retN : QS X K W (.Return none pos) mRetN := PS.weak ps_retN fun D σ H ⟨κ, s, L, rs, rl, h⟩ => h κ H .non Up.refl rl .non
theorem qs_if (hc : QT X K W c fc) (ha : QSs X K W sts f) (hb : QSs X K W sts' g) : QS X K W (.If c sts sts' pos) (mIfS fc f g) :=
  PS.weak (ps_if hc ha hb) fun D σ H ⟨κ, s, L, rs, rl, h⟩ => ⟨κ, s, L, rs, rl, (HS.lift (R := RB) rs h).imp fun u H1 ⟨κ1, L1, x, up, rl1, rx, q⟩ => by
    subst rx
    cases x with
    | true => rw [if_pos rfl]; exact ⟨κ1, s, L1, rs.up up, rl1, q⟩
    | false => rw [if_neg (by decide)]; exact ⟨κ1, s, L1, rs.up up, rl1, q⟩⟩
/-! ### targets -/
theorem qg_name {i : Nat} (h : PG X e (gName i)) : QG X K e (gN i) [i] :=
  PG.weak h fun v σ H Q ⟨κ, s, x, s', rs, rx, e, h⟩ => by
    cases e
    exact h _ (rs.set rx i) (by rw [List.length_set]) fun j hj => List.getElem?_set_ne (fun z => hj (by simp [z]))
theorem qgs_nil : QGs X K [] gNil [] :=
  PGs.weak pgs_nil fun v σ H Q ⟨κ, s, x, s', rs, rx, e, h⟩ => by
    cases rx with
    | nil => cases e; exact ⟨rfl, h σ rs rfl fun _ _ => rfl⟩
    | cons _ _ => cases e
theorem qgs_cons {ix jx : List Nat} (h1 : QG X K e gg ix) (h2 : QGs X K es ggs jx) (hs : (assignEach (e :: es) X.env).map (·.2) = assign e X.env :: (assignEach es X.env).map (·.2) := by rfl) : QGs X K (e :: es) (gCons gg ggs) (ix ++ jx) :=
  PGs.weak (pgs_cons h1 h2 hs) fun v σ H Q ⟨κ, s, x, s', rs, rx, e, h⟩ => by
    cases rx with
    | nil => cases e
    | @cons y ys u us r1 r2 =>
      have e' : (gg y s).bind (fun s1 => ggs ys s1) = some s' := e
      cases q : gg y s with
      | none => rw [q] at e'; cases e'
      | some s1 =>
        rw [q] at e'
        exact ⟨_, _, rfl, κ, s, y, s1, rs, r1, q, fun σ1 rs1 l1 k1 => ⟨κ, s1, ys, s', rs1, r2, e', fun σ2 rs2 l2 k2 => h σ2 rs2 (l2.trans l1) fun j hj => (k2 j fun z => hj (List.mem_append_right _ z)).trans (k1 j fun z => hj (List.mem_append_left _ z))⟩⟩
theorem qg_tup {k : Nat} {n : Nat} {ix : List Nat} (hK : X.K = K.K) (hc : X.calm = true) (h : QGs X K es ggs ix) (hn : (assignEach es X.env).length = n := by rfl) (hst : (assignEach es X.env).findIdx? (·.1) = none := by rfl) : QG X K (.Tuple es k pos) (gT n ggs) ix := by
  refine PG.weak (pg_tup hc h hn hst) fun v σ H Q ⟨κ, s, x, s', rs, rx, e, h⟩ => ?_
  cases rx with
  | @tup a xs us h1 h2 =>
    have e0 : (if xs.length = n then ggs xs s else none) = some s' := e
    by_cases hl : xs.length = n
    · rw [if_pos hl] at e0
      exact ⟨_, _, rfl, SqT.of h1.2, by rw [← h2.length]; exact hl, κ, s, xs, s', rs, h2, e0, h⟩
    · rw [if_neg hl] at e0
      cases e0
  | @st a xs us h1 h2 =>
    have e0 : (if xs.length = n then ggs xs s else none) = some s' := e
    by_cases hl : xs.length = n
    · rw [if_pos hl] at e0
      exact ⟨_, _, rfl, by rw [hK]; exact h1.sq, by rw [← h2.length]; exact hl, κ, s, xs, s', rs, h2, e0, h⟩
    · rw [if_neg hl] at e0
      cases e0
  | _ => cases e
/-! ### assignments -/
theorem qs_asg {tg : Expr} {ix : List Nat} (he : QE X K W e fa) (hg : QG X K tg gg ix) (hs : swapsWithSole [tg] e pos.line X.env = pure false := by rfl) (hw : swappedStores [tg] e X.env = pure none := by rfl)
    (h1 : (assignEach [tg] X.env).map (·.2) = [assign tg X.env] := by rfl) : QS X K W (.Assign [tg] e pos) (mAsg fa gg) :=
  PS.weak (ps_asg he hg hs hw h1) fun D σ H ⟨κ, s, L, rs, rl, h⟩ => ⟨κ, s, L, rs, rl, (HS.lift (R := RV K) rs h).imp fun u H1 ⟨κ1, L1, x, up, rl1, rx, q⟩ => by
    cases e : gg x s with
    | none => rw [e] at q; exact q.elim
    | some s' => rw [e] at q; exact ⟨κ1, s, x, s', rs.up up, rx, e, fun σ' rs' _ _ => q κ1 H1 σ' Up.refl rl1 rs'⟩⟩
theorem qs_par {i j : Nat} {x y : Str} {px py pt : Pos} {kt k2 pt2} (hc : X.calm = true) (hN : X.N.Nodup) (hi : X.N[i]? = some x) (hj : X.N[j]? = some y) (hij : i ≠ j)
    (hx : X.env.scope.names.lookup x = some .local) (hy : X.env.scope.names.lookup y = some .local) (ha : QA X K W [a, b] fs)
    (hw : swappedStores [.Tuple [.Name x px, .Name y py] kt pt] (.Tuple [a, b] k2 pt2) X.env = pure (some [x, y]))
    (hs : swapsWithSole [.Tuple [.Name x px, .Name y py] kt pt] (.Tuple [a, b] k2 pt2) pos.line X.env = pure false := by rfl) :
    QS X K W (.Assign [.Tuple [.Name x px, .Name y py] kt pt] (.Tuple [a, b] k2 pt2) pos) (mPar i j fs) :=
  PS.weak (ps_par hc hN hi hj hij hx hy ha hw hs) fun D σ H ⟨κ, s, L, rs, rl, h⟩ => ⟨κ, s, L, rs, rl, (HS.lift (R := RVs K) rs h).imp fun us H1 ⟨κ1, L1, xs, up, rl1, rx, q⟩ => by
    cases rx with
    | nil => exact q.elim
    | cons r1 rr =>
      cases rr with
      | nil => exact q.elim
      | cons r2 rr =>
        cases rr with
        | cons _ _ => exact q.elim
        | nil => exact ⟨_, _, rfl, q κ1 H1 _ Up.refl rl1 (((rs.up up).set r1 i).set r2 j)⟩⟩
/-! ### loops -/
/-- what is walked: the next item, none at the end; or it cannot be told -/
abbrev IT := Nat → LH → Option (Option LV)
def ItOk (K : Kt) (J : It) (κ : Kp) (H : Hp) (it : IT) : Prop := ∀ κ' H' L' i, Up K κ H κ' H' → RL K κ' H' L' → match it i L' with
  | none => True
  | some none => J.stop i H'
  | some (some v) => J.go i H' ∧ ∀ x H2, J.yld i H' x H2 → ∃ κ2, Up K κ' H' κ2 H2 ∧ RL K κ2 H2 L' ∧ RV K κ2 H2 v x
def tI (K : Kt) (W : WX) (f : Sl → M IT) : TI := fun σ H R => ∃ κ s L, RS K κ H s σ ∧ RL K κ H L ∧ HV K W σ κ H (fun κ' H' it J => ItOk K J κ' H' it) (f s L) R
def QI (X : Cx) (K : Kt) (W : WX) (tg iter : Expr) (f : Sl → M IT) : Prop := PI X tg iter (tI K W f)
theorem PI.weak {X : Cx} {tg e : Expr} {t u : TI} (h : PI X tg e t) (k : ∀ σ H R, u σ H R → t σ H R) : PI X tg e u := ⟨fun pins s σ H R I q => h.run pins s σ H R I (k _ _ _ q)⟩
def forGo (it : IT) (g : LV → Sl → Option Sl) (body : MS) : Nat → Nat → MS
  | 0, _ => fun _ _ => .no
  | n + 1, i => fun s L => match it i L with
    | none => .no
    | some none => .next s L
    | some (some v) => match g v s with
      | none => .no
      | some s1 => match body s1 L with
        | .next s2 L2 => forGo it g body n (i + 1) s2 L2
        | .cont s2 L2 => forGo it g body n (i + 1) s2 L2
        | .brk s2 L2 => .next s2 L2
        | .ret v L2 => .ret v L2
        | .exc c s2 L2 => .exc c s2 L2
        | .no => .no
def FUEL : Nat := 1000000
def mFor (fi : Sl → M IT) (g : LV → Sl → Option Sl) (body : MS) : MS := fun s L => lift s (fun it L1 => forGo it g body FUEL 0 s L1) (fi s L)
theorem for_ok {ix : List Nat} {J : It} {it : IT} {κ : Kp} {H : Hp} {s : Sl} {L : LH} {σ : St} {D : Ends} (ok : ItOk K J κ H it) (rs : RS K κ H s σ) (rl : RL K κ H L) (h : HS K W κ H (forGo it gg f FUEL 0 s L) D) :
    ∃ Wi : Nat → Nat → St → Hp → Prop, (∃ m, Wi 0 m σ H) ∧ ∀ i m σ H, Wi i m σ H →
      (J.stop i H ∧ D.nx σ H) ∨ (J.go i H ∧ ∃ N : St → Hp → Prop, (∀ σ' H', N σ' H' → ∃ m', m' < m ∧ Wi (i + 1) m' σ' H') ∧ ∀ x H', J.yld i H x H' → tG K gg ix x σ H' fun σ2 H2 => tS K W f { D with nx := N, ct := N, bk := D.nx } σ2 H2) := by
  refine ⟨fun i m σ H1 => ∃ κ1 s L, Up K κ H κ1 H1 ∧ RS K κ1 H1 s σ ∧ RL K κ1 H1 L ∧ HS K W κ1 H1 (forGo it gg f m i s L) D, ⟨FUEL, κ, s, L, Up.refl, rs, rl, h⟩, ?_⟩
  rintro i m σ1 H1 ⟨κ1, s1, L1, up, rs1, rl1, q⟩
  cases m with
  | zero => exact q.elim
  | succ m =>
    have o := ok κ1 H1 L1 i up rl1
    unfold forGo at q
    cases e : it i L1 with
    | none => rw [e] at q; exact q.elim
    | some r =>
      rw [e] at q o
      cases r with
      | none => exact .inl ⟨o, q κ1 H1 σ1 Up.refl rl1 rs1⟩
      | some v =>
        obtain ⟨o1, o2⟩ := o
        refine .inr ⟨o1, fun σ2 H2 => ∃ κ2 s2 L2, Up K κ H κ2 H2 ∧ RS K κ2 H2 s2 σ2 ∧ RL K κ2 H2 L2 ∧ HS K W κ2 H2 (forGo it gg f m (i + 1) s2 L2) D, fun σ2 H2 z => ⟨m, Nat.lt_succ_self m, z⟩, fun x H2 y => ?_⟩
        obtain ⟨κ2, up2, rl2, rx⟩ := o2 x H2 y
        simp only [] at q
        cases eg : gg v s1 with
        | none => rw [eg] at q; exact q.elim
        | some s2 =>
          rw [eg] at q
          refine ⟨κ2, s1, v, s2, rs1.up up2, rx, eg, fun σ2 rs2 _ _ => ⟨κ2, s2, L1, rs2, rl2, ?_⟩⟩
          have q2 := HS.up q up2
          simp only [] at q2
          cases eb : f s2 L1 with
          | next s3 L3 => rw [eb] at q2; exact fun κ3 H3 σ3 a b c => ⟨κ3, s3, L3, (up.trans up2).trans a, c, b, HS.up q2 a⟩
          | cont s3 L3 => rw [eb] at q2; exact fun κ3 H3 σ3 a b c => ⟨κ3, s3, L3, (up.trans up2).trans a, c, b, HS.up q2 a⟩
          | brk s3 L3 => rw [eb] at q2; exact q2
          | ret v3 L3 => rw [eb] at q2; exact q2
          | exc c3 s3 L3 => rw [eb] at q2; exact q2
          | no => rw [eb] at q2; exact q2
theorem qs_for {ix : List Nat} {tg iter : Expr} {fi : Sl → M IT} (hp : PassesOwn (model X.prog X.w) X.A X.env X.xe) (hc : X.calm = true) (hi : QI X K W tg iter fi) (hg : QG X K tg gg ix) (hb : QSs X K W sts f)
    (hs : ∀ x, foldedSetIterable iter X.env x = pure x := by intro _; rfl) : QS X K W (.For tg iter sts [] pos) (mFor fi gg f) :=
  PS.weak (ps_for hp hc hi hg hb hs) fun D σ H ⟨κ, s, L, rs, rl, h⟩ => ⟨κ, s, L, rs, rl, (HS.lift (R := fun κ' H' it J => ItOk K J κ' H' it) rs h).imp fun J H1 ⟨κ1, L1, it, up, rl1, ok, q⟩ => for_ok ok (rs.up up) rl1 q⟩
def whileGo (c : Sl → M Bool) (body : MS) : Nat → MS
  | 0 => fun _ _ => .no
  | n + 1 => fun s L => lift s (fun b L1 => if b = true then (match body s L1 with
      | .next s2 L2 => whileGo c body n s2 L2
      | .cont s2 L2 => whileGo c body n s2 L2
      | .brk s2 L2 => .next s2 L2
      | .ret v L2 => .ret v L2
      | .exc c s2 L2 => .exc c s2 L2
      | .no => .no) else .next s L1) (c s L)
def mWhile (c : Sl → M Bool) (body : MS) : MS := whileGo c body FUEL
theorem qs_while (hp : PassesOwn (model X.prog X.w) X.A X.env X.xe) (hc : QT X K W c fc) (hb : QSs X K W sts f) : QS X K W (.While c sts [] pos) (mWhile fc f) :=
  PS.weak (ps_while hp hc hb) fun D σ H ⟨κ, s, L, rs, rl, h⟩ => by
    refine ⟨fun m σ H => ∃ κ s L, RS K κ H s σ ∧ RL K κ H L ∧ HS K W κ H (whileGo fc f m s L) D, ⟨FUEL, κ, s, L, rs, rl, h⟩, ?_⟩
    rintro m σ1 H1 ⟨κ1, s1, L1, rs1, rl1, q⟩
    cases m with
    | zero => exact q.elim
    | succ m =>
      refine ⟨κ1, s1, L1, rs1, rl1, (HS.lift (R := RB) rs1 q).imp fun b H2 ⟨κ2, L2, x, up, rl2, rx, q2⟩ => ?_⟩
      subst rx
      cases x with
      | false => rw [if_neg (by decide)]; exact q2 κ2 H2 σ1 Up.refl rl2 (rs1.up up)
      | true =>
        rw [if_pos rfl]
        rw [if_pos rfl] at q2
        refine ⟨fun σ3 H3 => ∃ κ s L, RS K κ H3 s σ3 ∧ RL K κ H3 L ∧ HS K W κ H3 (whileGo fc f m s L) D, fun σ3 H3 z => ⟨m, Nat.lt_succ_self m, z⟩, κ2, s1, L2, rs1.up up, rl2, ?_⟩
        cases eb : f s1 L2 with
        | next s3 L3 => rw [eb] at q2; exact fun κ3 H3 σ3 a b c => ⟨κ3, s3, L3, c, b, HS.up q2 a⟩
        | cont s3 L3 => rw [eb] at q2; exact fun κ3 H3 σ3 a b c => ⟨κ3, s3, L3, c, b, HS.up q2 a⟩
        | brk s3 L3 => rw [eb] at q2; exact q2
        | ret v3 L3 => rw [eb] at q2; exact q2
        | exc c3 s3 L3 => rw [eb] at q2; exact q2
        | no => rw [eb] at q2; exact q2
end
end Q
end
section
set_option Elab.async false
set_option linter.all false
set_option maxRecDepth 100000
set_option maxHeartbeats 4000000
namespace Q
open PySem PySem.Spec L2
open PyProof.Rows (envOfC)
/-! ### defs -/
/-- what a def gives: N its slots -/
def callF (N : Nat) (body : MS) : List LV → M LV := fun xs L => match body (xs.map some ++ List.replicate (N - xs.length) none) L with
  | .next _ L1 => .ok .non L1
  | .ret v L1 => .ok v L1
  | .exc c _ L1 => .exc c L1
  | _ => .no
/-- the promise: it gives what its function gives -/
def spF (K : Kt) (n : Nat) (fn : List LV → M LV) : Sp := fun vs H Q E => vs.length = n ∧ ∃ κ L xs, RVs K κ H xs vs ∧ RL K κ H L ∧ HV K (fun c d _ H' => E c d H') [] κ H (RV K) (fn xs L) Q
abbrev WD (E : XK) : WX := fun cls d _ H => E cls d H
theorem RS.start {K : Kt} {κ : Kp} {H : Hp} {xs : List LV} {vs : List V} (r : RVs K κ H xs vs) (N : List Str) : RS K κ H (xs.map some ++ List.replicate (N.length - xs.length) none) (L2.start N vs) := by
  have hl := r.length
  refine ⟨by simp [L2.start, hl], fun i v hv => ?_⟩
  by_cases h : i < xs.length
  · rw [List.getElem?_append_left (by simpa using h), List.getElem?_map] at hv
    cases e : xs[i]? with
    | none => rw [e] at hv; cases hv
    | some x =>
      rw [e] at hv
      have ex : x = v := by simpa using hv
      subst ex
      obtain ⟨u, h1, h2⟩ := r.get e
      refine ⟨u, ?_, h2⟩
      unfold L2.start
      rw [List.getElem?_append_left (by rw [List.length_map, ← hl]; exact h), List.getElem?_map, h1]
      rfl
  · rw [List.getElem?_append_right (by simpa using Nat.le_of_not_lt h)] at hv
    have := List.mem_of_getElem? hv
    simp at this
section
variable {P : Program} {w : World} {K : Kt} {mg : Str → Option Value} {base : Heap}
theorem q_fn {x qual : Str} {st : Stmt} {f : Addr} {fd : FuncData} {N ps : List Str} {k : Nat} {body : MS} (F : Fun K.K x qual st f fd) (S : FnScope N ps (defScope st))
    (hb : ∀ (cdv : Value) (A : Around) (outer : List Env) (s : Shared) (H : Hp) (E : XK), Room k (A.deeper (envOfC qual (defScope st) s.heap.objs.size f cdv)) → QSs (cxOf (L2.CX P w) P w K.K mg base N qual (defScope st) f cdv A outer s H E) K (WD E) (defBody st) body) :
    FnOk P w K.K mg base (L2.CX P w) (k + 1) f fd ps (spF K ps.length (callF N.length body)) := by
  refine F.okX S (fun vs H Q E h => h.1) fun cdv A outer s H vs Q E hr h => ⟨_, hb cdv A outer s H E hr, ?_⟩
  obtain ⟨_, κ, L, xs, rv, rl, h⟩ := h
  refine ⟨κ, _, L, RS.start rv N, rl, ?_⟩
  unfold callF at h
  cases e : body (xs.map some ++ List.replicate (N.length - xs.length) none) L with
  | next s L => rw [e] at h; exact fun κ' H' σ' a b c => h κ' H' _ a b .non
  | ret v L => rw [e] at h; exact fun κ' H' u a b c => h κ' H' u a b c
  | brk s L => rw [e] at h; exact h.elim
  | cont s L => rw [e] at h; exact h.elim
  | exc c s L => rw [e] at h; exact fun κ' H' σ' d a b c => h κ' H' d a b
  | no => rw [e] at h; exact h.elim
end
def mCall (fn : List LV → M LV) (dv : List LV) (fa : Sl → M (List LV)) : Sl → M LV := fun s L => (fa s L).bind fun xs L1 => fn (xs ++ dv) L1
/-- the class's number of an instance without its own names m -/
def insAt (L : LH) (x : LV) (m : Str) (c : Nat) : Bool := match x with
  | .ref n => match L[n]? with
    | some (.ins c' fs) => c' == c && (fs.lookup m).isNone
    | _ => false
  | _ => false
def mMeth (c : Nat) (m : Str) (fn : List LV → M LV) (dv : List LV) (fo : Sl → M LV) (fa : Sl → M (List LV)) : Sl → M LV := fun s L => (fo s L).bind fun x L1 =>
  if insAt L1 x m c = true then (fa s L1).bind fun xs L2 => fn (x :: (xs ++ dv)) L2 else .no
def isNon : LV → Bool
  | .non => true
  | _ => false
def mMake (c : Nat) (fn : List LV → M LV) (dv : List LV) (fa : Sl → M (List LV)) : Sl → M LV := fun s L => (fa s L).bind fun xs L1 =>
  (fn (.ref L1.length :: (xs ++ dv)) (L1 ++ [.ins c []])).bind fun v L2 => if isNon v = true then .ok (.ref L1.length) L2 else .no
section
variable {X : Cx} {K : Kt} {W : WX} {e o : Expr} {es : List Expr} {pos p apos : Pos} {k : Nat} {f C : Addr} {fd : FuncData} {ps : List Str} {fn : List LV → M LV} {n c : Nat} {dv : List LV} {dvs : List V} {ds : List Value} {x m : Str} {fs : Sl → M (List LV)} {fo : Sl → M LV}
/-- the callee runs, its exceptions as wished for at the slots σ -/
theorem q_run {pins : List (Addr × Obj)} {σ : St} {H : Hp} {s : Shared} {Q : VK} {us : List Value} {vs : List V} (F : FnOk X.prog X.w X.K X.mg X.base (L2.CX X.prog X.w) k f fd ps (spF K n fn)) (hr : Room k X.A) (hb : Binds X.K fd ps ds) (hd : Vals dvs ds) (tk : Takes X W)
    (I : Inv X pins σ H s) (r : Vals vs us) (h : spF K n fn (vs ++ dvs) H Q (WE W σ)) : wpAny (model X.prog X.w) X.A (call (.ref f) us) (EP X pins σ Q) X.xe s := by
  have r2 : Vals (vs ++ dvs) (us ++ ds) := r.append hd
  have hl : (us ++ ds).length = ps.length := by rw [← r2.length]; exact F.len _ _ _ _ h
  refine wpAny_call (codeAny_mono (F.run X.A X.stack s H ⟨us, []⟩ (us ++ ds) (vs ++ dvs) Q (WE W σ) hr I.env0 (hb s us I.kIn hl) r2 h) fun r s' hq => ?_)
  cases r with
  | error e => exact passAt tk σ pins H s e s' I hq
  | ok fl =>
    cases fl with
    | ret u => exact I.after hq
    | next => exact False.elim hq
    | brk => exact False.elim hq
    | cont => exact False.elim hq
theorem RVs.const {κ : Kp} {H : Hp} {zs : List LV} {ys : List V} (h : ∀ κ H, RVs K κ H zs ys) : RVs K κ H zs ys := h κ H
theorem spF_of {κ : Kp} {H : Hp} {L : LH} {σ : St} {xs : List LV} {vs : List V} {Q : VK} (hn : vs.length = n) (rv : RVs K κ H xs vs) (rl : RL K κ H L) (h : HV K W σ κ H (RV K) (fn xs L) Q) : spF K n fn vs H Q (WE W σ) := by
  refine ⟨hn, κ, L, xs, rv, rl, ?_⟩
  cases e : fn xs L with
  | ok v L => rw [e] at h; exact h
  | exc c L => rw [e] at h; exact h
  | no => rw [e] at h; exact h
theorem qe_call (F : FnOk X.prog X.w X.K X.mg X.base (L2.CX X.prog X.w) k f fd ps (spF K n fn)) (hr : Room k X.A) (hg : Gl X x) (hm : X.mg x = some (.ref f)) (hk : PySem.W.keepIn X.K (.ref f) = true) (hb : Binds X.K fd ps ds) (hd : Vals dvs ds) (hdv : ∀ κ H, RVs K κ H dv dvs)
    (tk : Takes X W) (ha : QA X K W (e :: es) fs) (hn : (e :: es).length + dvs.length = n) (hfl : ∀ s L xs L1, fs s L = .ok xs L1 → xs.length = (e :: es).length)
    (hdb : (x == ("__debug__" : Str)) = false := by decide) (he : starEach (e :: es) X.env = (false, eval e X.env) :: starEach es X.env := by rfl) (hpl : (backTo pos (starEach es X.env)).any (·.1) = false := by rfl) :
    QE X K W (.Call (.Name x p) (e :: es) [] pos) (mCall fn dv fs) := by
  refine ⟨fun pins s σ H Q I ⟨κ, sl, L, rs, rl, h⟩ => ?_⟩
  refine wpAny_Call_Name_kw (ld_glob I hg hm ?_ hdb)
  have ha' : PA X (e :: es) (tA K W fs) := ha
  unfold mCall at h
  have hw : tA K W fs σ H fun us H1 => us.length = (e :: es).length ∧ ∃ κ1 L1 xs, Up K κ H κ1 H1 ∧ RL K κ1 H1 L1 ∧ RVs K κ1 H1 xs us ∧ HV K W σ κ1 H1 (RV K) (fn (xs ++ dv) L1) Q := by
    refine ⟨κ, sl, L, rs, rl, ?_⟩
    cases q : fs sl L with
    | ok xs L1 =>
      rw [q] at h
      exact fun κ1 H1 us a b c => ⟨by rw [← c.length]; exact hfl _ _ _ _ q, κ1, L1, xs, a, b, c, HV.up h a⟩
    | exc c L1 => rw [q] at h; exact h
    | no => rw [q] at h; exact h
  refine PySem.W.callWith_K (h₀ := X.base) I.ok.mod.kin hk (thn (ha'.run pos pins s σ H _ I hw) fun us s1 ⟨vs, H1, I1, r, hl, κ1, L1, xs, up, rl1, rv, q⟩ => ⟨I1.kIn, ?_⟩) he hpl
  exact q_run F hr hb hd tk I1 r (spF_of (by rw [List.length_append, hl]; exact hn) (rv.append (hdv κ1 H1)) rl1 q)
theorem qe_call0 (F : FnOk X.prog X.w X.K X.mg X.base (L2.CX X.prog X.w) k f fd ps (spF K n fn)) (hr : Room k X.A) (hg : Gl X x) (hm : X.mg x = some (.ref f)) (hk : PySem.W.keepIn X.K (.ref f) = true) (hb : Binds X.K fd ps ds) (hd : Vals dvs ds) (hdv : ∀ κ H, RVs K κ H dv dvs)
    (tk : Takes X W) (hn : dvs.length = n) (hdb : (x == ("__debug__" : Str)) = false := by decide) : QE X K W (.Call (.Name x p) [] [] pos) (mCall fn dv mNil) := by
  refine ⟨fun pins s σ H Q I ⟨κ, sl, L, rs, rl, h⟩ => ?_⟩
  refine wpAny_Call_Name_kw (ld_glob I hg hm ?_ hdb)
  exact PySem.W.callWith_K0 I.kIn hk (q_run (us := []) F hr hb hd tk I .nil (spF_of hn (hdv κ H) rl h))
theorem insAt_ok {κ : Kp} {H : Hp} {L : LH} {y : LV} {u : V} (rl : RL K κ H L) (ry : RV K κ H y u) (h : insAt L y m c = true) : ∃ a dx fv, u = .ref a ∧ H a = some (.ins (K.cl c) dx fv) ∧ fv.lookup m = none := by
  unfold insAt at h
  cases y with
  | ref n =>
    simp only [] at h
    cases e : L[n]? with
    | none => rw [e] at h; cases h
    | some o =>
      rw [e] at h
      cases o with
      | ins c' fs =>
        simp only [Bool.and_eq_true, beq_iff_eq] at h
        obtain ⟨rfl, hl⟩ := h
        obtain ⟨a, rfl, ha, _, dx, us, h1, h2⟩ := rl.at e ry (fun z => nomatch z)
        refine ⟨a, dx, us, rfl, h1, ?_⟩
        clear e h1
        induction h2 with
        | nil => rfl
        | @cons p q _ _ r _ ih =>
          rw [List.lookup_cons] at hl ⊢
          rw [← r.1]
          cases z : m == p.1 with
          | true => rw [z] at hl; cases hl
          | false => rw [z] at hl; exact ih hl
      | _ => cases h
  | _ => cases h
theorem qe_meth {pl : Sem Bool} (he : QE X K W o fo) (hc : Cls X.K (K.cl c)) (hm : Meth X.K (K.cl c) m f) (F : FnOk X.prog X.w X.K X.mg X.base (L2.CX X.prog X.w) k f fd ps (spF K n fn)) (hr : Room k X.A) (hb : Binds X.K fd ps ds) (hd : Vals dvs ds) (hdv : ∀ κ H, RVs K κ H dv dvs)
    (tk : Takes X W) (ha : QA X K W (e :: es) fs) (hn : (e :: es).length + dvs.length + 1 = n) (hfl : ∀ s L xs L1, fs s L = .ok xs L1 → xs.length = (e :: es).length)
    (hst : starEach (e :: es) X.env = (false, eval e X.env) :: starEach es X.env := by rfl) (hpl : (backTo pos (starEach es X.env)).any (·.1) = false := by rfl)
    (ht : eval (.Call (.Attribute o m apos) (e :: es) [] pos) X.env = (do
      let ov ← eval o X.env
      standAt apos.atName
      let (f, first) ← holding [ov] (getMethod ov m pl)
      callWith pos f first (backTo pos (starEach (e :: es) X.env)) (backToKw pos (keywordEach [] X.env))) := by rfl) :
    QE X K W (.Call (.Attribute o m apos) (e :: es) [] pos) (mMeth c m fn dv fo fs) := by
  refine ⟨fun pins s σ H Q I ⟨κ, sl, L, rs, rl, h⟩ => ?_⟩
  have ha' : PA X (e :: es) (tA K W fs) := ha
  have he' : PE X o (tE K W fo) := he
  refine PySem.W.methodCall_KW (pl := pl) (thn (he'.run pins s σ H _ I ⟨κ, sl, L, rs, rl, HV.bind (R := RV K) h⟩) fun u s1 ⟨y, H1, I1, ry, κ1, L1, yl, up1, rl1, ryl, q⟩ => ?_) ht
  split at q
  · rename_i hi
    obtain ⟨a, dx, fv, rfl, hH, hl⟩ := insAt_ok rl1 ryl hi
    obtain rfl : u = Value.ref a := ry
    refine getmeth_ok I1 hH hc hm hl ?_
    have hw : tA K W fs σ H1 fun us H2 => us.length = (e :: es).length ∧ ∃ κ2 L2 xs, Up K κ1 H1 κ2 H2 ∧ RL K κ2 H2 L2 ∧ RVs K κ2 H2 xs us ∧ HV K W σ κ2 H2 (RV K) (fn (yl :: (xs ++ dv)) L2) Q := by
      refine ⟨κ1, sl, L1, rs.up up1, rl1, ?_⟩
      cases q2 : fs sl L1 with
      | ok xs L2 =>
        rw [q2] at q
        exact fun κ2 H2 us a b c => ⟨by rw [← c.length]; exact hfl _ _ _ _ q2, κ2, L2, xs, a, b, c, HV.up q a⟩
      | exc c L2 => rw [q2] at q; exact q
      | no => rw [q2] at q; exact q
    refine PySem.W.callWith_K (first := [.ref a]) (h₀ := X.base) I.ok.mod.kin hm.kp (thn (ha'.run pos pins s1 σ H1 _ I1 hw) fun us s2 ⟨vs, H2, I2, r, hlen, κ2, L2, xs, up2, rl2, rv, q2⟩ => ⟨I2.kIn, ?_⟩) hst hpl
    exact q_run (us := .ref a :: us) (vs := .ref a :: vs) F hr hb hd tk I2 (.cons rfl r) (spF_of (by rw [List.cons_append, List.length_cons, List.length_append, hlen]; exact hn) (.cons (ryl.up up2) (rv.append (hdv κ2 H2))) rl2 q2)
  · exact q.elim
theorem qe_meth0 {pl : Sem Bool} (he : QE X K W o fo) (hc : Cls X.K (K.cl c)) (hm : Meth X.K (K.cl c) m f) (F : FnOk X.prog X.w X.K X.mg X.base (L2.CX X.prog X.w) k f fd ps (spF K n fn)) (hr : Room k X.A) (hb : Binds X.K fd ps ds) (hd : Vals dvs ds) (hdv : ∀ κ H, RVs K κ H dv dvs)
    (tk : Takes X W) (hn : dvs.length + 1 = n)
    (ht : eval (.Call (.Attribute o m apos) [] [] pos) X.env = (do
      let ov ← eval o X.env
      standAt apos.atName
      let (f, first) ← holding [ov] (getMethod ov m pl)
      callWith pos f first (backTo pos (starEach [] X.env)) (backToKw pos (keywordEach [] X.env))) := by rfl) :
    QE X K W (.Call (.Attribute o m apos) [] [] pos) (mMeth c m fn dv fo mNil) := by
  refine ⟨fun pins s σ H Q I ⟨κ, sl, L, rs, rl, h⟩ => ?_⟩
  have he' : PE X o (tE K W fo) := he
  refine PySem.W.methodCall_KW (pl := pl) (thn (he'.run pins s σ H _ I ⟨κ, sl, L, rs, rl, HV.bind (R := RV K) h⟩) fun u s1 ⟨y, H1, I1, ry, κ1, L1, yl, up1, rl1, ryl, q⟩ => ?_) ht
  split at q
  · rename_i hi
    obtain ⟨a, dx, fv, rfl, hH, hl⟩ := insAt_ok rl1 ryl hi
    obtain rfl : u = Value.ref a := ry
    refine getmeth_ok I1 hH hc hm hl ?_
    exact PySem.W.callWith_K0 (first := [.ref a]) I1.kIn hm.kp (q_run (us := [.ref a]) (vs := [.ref a]) F hr hb hd tk I1 (.cons rfl .nil) (spF_of hn (.cons ryl (hdv κ1 H1)) rl1 q))
  · exact q.elim
/-- a new instance, then its __init__ -/
theorem q_make {pins : List (Addr × Obj)} {σ : St} {H : Hp} {s : Shared} {Q : VK} {us : List Value} {vs : List V} {κ : Kp} {L : LH} {xs : List LV} (Mm : Mk X.K (K.cl c) f) (F : FnOk X.prog X.w X.K X.mg X.base (L2.CX X.prog X.w) k f fd ps (spF K n fn)) (hr : Room (k + 1) X.A) (hb : Binds X.K fd ps ds) (hd : Vals dvs ds)
    (tk : Takes X W) (I : Inv X pins σ H s) (r : Vals vs us) (hn : (vs ++ dvs).length + 1 = n) (rl : RL K κ H L) (rv : RVs K κ H xs (vs ++ dvs))
    (h : HV K W σ κ H (RV K) ((fn (.ref L.length :: xs) (L ++ [.ins c []])).bind fun v L2 => if isNon v = true then .ok (.ref L.length) L2 else .no) Q) :
    wpAny (model X.prog X.w) X.A (call (.ref (K.cl c)) us) (EP X pins σ Q) X.xe s := by
  have main : ∀ (y dx : Addr), H y = none → H dx = none → dx ≠ y → spF K n fn (.ref y :: (vs ++ dvs)) (upd (upd H dx (.own y)) y (.ins (K.cl c) dx [])) (fun v H2 => v = .non ∧ Q (.ref y) H2) (WE W σ) := by
    intro y dx hy hdx hne
    have rl1 : RL K κ (upd H dx (.own y)) L := rl.junk hdx
    have hy1 : upd H dx (.own y) y = none := by rw [upd_ne (Ne.symm hne)]; exact hy
    have up1 := Up.junk (o := .own y) rl hdx
    have up2 := Up.numb (o := .ins (K.cl c) dx []) rl1 hy1
    have rl2 : RL K (κ.num y) (upd (upd H dx (.own y)) y (.ins (K.cl c) dx [])) (L ++ [.ins c []]) := rl1.numb hy1 ⟨dx, [], upd_same, .nil⟩
    refine spF_of (W := W) (σ := σ) (κ := κ.num y) (L := L ++ [.ins c []]) (xs := .ref L.length :: xs) hn (.cons (new_ref rl1) (rv.up (up1.trans up2))) rl2 ?_
    have h' := (HV.bind (R := RV K) (HV.up h (up1.trans up2)))
    refine h'.imp fun u H1 ⟨κ1, L1, x1, up, rl1', rx, q⟩ => ?_
    split at q
    · rename_i hi
      cases x1 with
      | non =>
        cases rx
        refine ⟨rfl, q κ1 H1 (.ref y) Up.refl rl1' ?_⟩
        exact RV.up up (new_ref rl1)
      | _ => cases hi
    · exact q.elim
  have hq := main (s.heap.objs.size + 1) s.heap.objs.size (I.hok.fresh (Nat.le_succ _)) (I.hok.fresh (Nat.le_refl _)) (Nat.ne_of_lt (Nat.lt_succ_self _))
  have I2 := Inv.made (C := K.cl c) I
  have r2 : Vals (V.ref (s.heap.objs.size + 1) :: (vs ++ dvs)) (Value.ref (s.heap.objs.size + 1) :: (us ++ ds)) := .cons rfl (r.append hd)
  have hl : (Value.ref (s.heap.objs.size + 1) :: us ++ ds).length = ps.length := by
    have e := r2.length
    rw [F.len _ _ _ _ hq] at e
    exact e.symm
  refine wpAny_call (make_map (f := f) I.kIn Mm.makes Mm.init (beq_iff_eq.mp Mm.fn) (codeAny_mono (F.run _ X.stack _ _ ⟨Value.ref (s.heap.objs.size + 1) :: us, []⟩ (Value.ref (s.heap.objs.size + 1) :: (us ++ ds)) _ _ (WE W σ) (hr.make (K.cl c) us [])
    (I2.env0.make (K.cl c) us []) (hb _ (Value.ref (s.heap.objs.size + 1) :: us) I2.kIn hl) r2 hq) fun r s' hq' => ?_))
  cases r with
  | error e => exact passAt tk σ pins _ _ e s' I2 hq'
  | ok fl =>
    cases fl with
    | ret u =>
      obtain ⟨v, H', I3, rv, ev, q3⟩ := I2.after hq'
      subst ev
      exact ⟨rv, ⟨V.ref (s.heap.objs.size + 1), H', I3, rfl, q3⟩⟩
    | next => exact False.elim hq'
    | brk => exact False.elim hq'
    | cont => exact False.elim hq'
theorem qe_make (Mm : Mk X.K (K.cl c) f) (F : FnOk X.prog X.w X.K X.mg X.base (L2.CX X.prog X.w) k f fd ps (spF K n fn)) (hr : Room (k + 1) X.A) (hg : Gl X x) (hm : X.mg x = some (.ref (K.cl c))) (hb : Binds X.K fd ps ds) (hd : Vals dvs ds) (hdv : ∀ κ H, RVs K κ H dv dvs)
    (tk : Takes X W) (ha : QA X K W (e :: es) fs) (hn : (e :: es).length + dvs.length + 1 = n) (hfl : ∀ s L xs L1, fs s L = .ok xs L1 → xs.length = (e :: es).length)
    (hdb : (x == ("__debug__" : Str)) = false := by decide) (he : starEach (e :: es) X.env = (false, eval e X.env) :: starEach es X.env := by rfl) (hpl : (backTo pos (starEach es X.env)).any (·.1) = false := by rfl) :
    QE X K W (.Call (.Name x p) (e :: es) [] pos) (mMake c fn dv fs) := by
  refine ⟨fun pins s σ H Q I ⟨κ, sl, L, rs, rl, h⟩ => ?_⟩
  refine wpAny_Call_Name_kw (ld_glob I hg hm ?_ hdb)
  have ha' : PA X (e :: es) (tA K W fs) := ha
  have hw : tA K W fs σ H fun us H1 => us.length = (e :: es).length ∧ ∃ κ1 L1 xs, Up K κ H κ1 H1 ∧ RL K κ1 H1 L1 ∧ RVs K κ1 H1 xs us ∧
      HV K W σ κ1 H1 (RV K) ((fn (.ref L1.length :: (xs ++ dv)) (L1 ++ [.ins c []])).bind fun v L2 => if isNon v = true then .ok (.ref L1.length) L2 else .no) Q := by
    refine ⟨κ, sl, L, rs, rl, ?_⟩
    unfold mMake at h
    cases q : fs sl L with
    | ok xs L1 =>
      rw [q] at h
      exact fun κ1 H1 us a b c => ⟨by rw [← c.length]; exact hfl _ _ _ _ q, κ1, L1, xs, a, b, c, HV.up h a⟩
    | exc c L1 => rw [q] at h; exact h
    | no => rw [q] at h; exact h
  refine PySem.W.callWith_K (h₀ := X.base) I.ok.mod.kin Mm.kp (thn (ha'.run pos pins s σ H _ I hw) fun us s1 ⟨vs, H1, I1, r, hl, κ1, L1, xs, up, rl1, rv, q⟩ => ⟨I1.kIn, ?_⟩) he hpl
  exact q_make Mm F hr hb hd tk I1 r (by rw [List.length_append, hl]; exact hn) rl1 (rv.append (hdv κ1 H1)) q
theorem qe_make0 (Mm : Mk X.K (K.cl c) f) (F : FnOk X.prog X.w X.K X.mg X.base (L2.CX X.prog X.w) k f fd ps (spF K n fn)) (hr : Room (k + 1) X.A) (hg : Gl X x) (hm : X.mg x = some (.ref (K.cl c))) (hb : Binds X.K fd ps ds) (hd : Vals dvs ds) (hdv : ∀ κ H, RVs K κ H dv dvs)
    (tk : Takes X W) (hn : dvs.length + 1 = n) (hdb : (x == ("__debug__" : Str)) = false := by decide) : QE X K W (.Call (.Name x p) [] [] pos) (mMake c fn dv mNil) := by
  refine ⟨fun pins s σ H Q I ⟨κ, sl, L, rs, rl, h⟩ => ?_⟩
  refine wpAny_Call_Name_kw (ld_glob I hg hm ?_ hdb)
  exact PySem.W.callWith_K0 I.kIn Mm.kp (q_make (us := []) (vs := []) Mm F hr hb hd tk I .nil hn rl (hdv κ H) h)
end
/-- how many arguments a list has -/
theorem len_nil : ∀ s L xs L1, mNil s L = .ok xs L1 → xs.length = 0 := fun s L xs L1 h => by cases h; rfl
theorem len_cons {f : Sl → M LV} {g : Sl → M (List LV)} {n : Nat} (hg : ∀ s L xs L1, g s L = .ok xs L1 → xs.length = n) : ∀ s L xs L1, mCons f g s L = .ok xs L1 → xs.length = n + 1 := fun s L xs L1 h => by
  unfold mCons at h
  cases e : f s L with
  | ok v L2 =>
    rw [e] at h
    have h : ((g s L2).bind fun xs L3 => Res.ok (v :: xs) L3) = .ok xs L1 := h
    cases e2 : g s L2 with
    | ok vs L3 => rw [e2] at h; cases h; rw [List.length_cons, hg _ _ _ _ e2]
    | exc c L3 => rw [e2] at h; cases h
    | no => rw [e2] at h; cases h
  | exc c L2 => rw [e] at h; cases h
  | no => rw [e] at h; cases h
end Q
end
section
set_option Elab.async false
set_option linter.all false
set_option maxRecDepth 100000
set_option maxHeartbeats 4000000
namespace Q
open PySem PySem.Spec L2
/-! ### operators by values -/
def tview : LV → Option (List LV)
  | .tup xs => some xs
  | .st xs => some xs
  | _ => none
/-- what a list holds -/
def lview (L : LH) : LV → Option (List LV)
  | .fl xs => some xs
  | .ref n => match L[n]? with
    | some (.lst xs) => some xs
    | _ => none
  | _ => none
/-- .. also of a list that is locked -/
def lviewR (L : LH) : LV → Option (List LV)
  | .sl xs => some xs
  | v => lview L v
section
variable {X : Cx} {K : Kt} {κ : Kp} {H : Hp} {L : LH} {W : WX} {σ : St} {Q : VK} {x y : LV} {u v : V} {xs : List LV}
theorem tview_ok (rx : RV K κ H x u) (h : tview x = some xs) : ∃ a us, u = .ref a ∧ SqT K.K H a us ∧ RVs K κ H xs us := by
  cases x with
  | tup ys =>
    cases h
    cases rx with
    | tup h1 h2 => exact ⟨_, _, rfl, SqT.of h1.2, h2⟩
  | st ys =>
    cases h
    cases rx with
    | st h1 h2 => exact ⟨_, _, rfl, h1.sq, h2⟩
  | _ => cases h
theorem lview_ok (rl : RL K κ H L) (rx : RV K κ H x u) (h : lview L x = some xs) : ∃ a us, u = .ref a ∧ H a = some (.lst us) ∧ RVs K κ H xs us := by
  cases x with
  | fl ys =>
    cases h
    cases rx with
    | fl h1 h2 => exact ⟨_, _, rfl, h1.2, h2⟩
  | ref n =>
    have h' : (match L[n]? with
      | some (.lst xs) => some xs
      | _ => none) = some xs := h
    cases e : L[n]? with
    | none => rw [e] at h'; cases h'
    | some o =>
      rw [e] at h'
      cases o with
      | lst ys =>
        cases h'
        obtain ⟨a, rfl, ha, _, us, h1, h2⟩ := rl.at e rx (fun z => nomatch z)
        exact ⟨a, us, rfl, h1, h2⟩
      | _ => cases h'
  | _ => cases h
theorem lviewR_ok (rl : RL K κ H L) (rx : RV K κ H x u) (h : lviewR L x = some xs) : ∃ a us, u = .ref a ∧ SqL K.K H a us ∧ RVs K κ H xs us := by
  have main : lview L x = some xs → ∃ a us, u = .ref a ∧ SqL K.K H a us ∧ RVs K κ H xs us := fun h => by
    obtain ⟨a, us, h1, h2, h3⟩ := lview_ok rl rx h
    exact ⟨a, us, h1, SqL.of h2, h3⟩
  cases x with
  | sl ys =>
    cases h
    cases rx with
    | sl h1 h2 =>
      refine ⟨_, _, rfl, ?_, h2⟩
      rcases h1 with ⟨_, h1⟩ | h1
      · exact .inl h1
      · exact h1.sq
  | _ => exact main h

/-- an operator over two values of which the function reads the form -/
theorem OpQ.or {F : Value → Value → Sem Value} {r : R2} {g : LV → LV → M LV} (h1 : OpR X F r)
    (h2 : ∀ (W : WX) (κ : Kp) (H : Hp) (L : LH) (x y : LV) (u v : V) (σ : St) (Q : VK), RL K κ H L → RV K κ H x u → RV K κ H y v → HV K W σ κ H (RV K) (g x y L) Q → r u v H Q) : OpQ X K F g := ⟨r, h1, h2⟩
def gI (p : Int → Int → LV) : LV → LV → M LV := fun x y L => match x, y with
  | .int i, .int j => .ok (p i j) L
  | _, _ => .no
def gIc (c : Int → Int → Bool) (p : Int → Int → LV) : LV → LV → M LV := fun x y L => match x, y with
  | .int i, .int j => if c i j = true then .ok (p i j) L else .no
  | _, _ => .no
theorem gI_ok {p : Int → Int → LV} (h : HV K W σ κ H (RV K) (gI p x y L) Q) (rl : RL K κ H L) (rx : RV K κ H x u) (ry : RV K κ H y v) : ∃ i j, u = .int i ∧ v = .int j ∧ HV K W σ κ H (RV K) (.ok (p i j) L) Q := by
  unfold gI at h
  split at h
  · cases rx; cases ry; exact ⟨_, _, rfl, rfl, h⟩
  · exact h.elim
theorem gIc_ok {p : Int → Int → LV} {c : Int → Int → Bool} (h : HV K W σ κ H (RV K) (gIc c p x y L) Q) (rl : RL K κ H L) (rx : RV K κ H x u) (ry : RV K κ H y v) : ∃ i j, u = .int i ∧ v = .int j ∧ c i j = true ∧ HV K W σ κ H (RV K) (.ok (p i j) L) Q := by
  unfold gIc at h
  split at h
  · split at h
    · cases rx; cases ry; exact ⟨_, _, rfl, rfl, by assumption, h⟩
    · exact h.elim
  · exact h.elim
theorem HV.now {z : LV} {w : V} (h : HV K W σ κ H (RV K) (.ok z L) Q) (rl : RL K κ H L) (r : RV K κ H z w) : Q w H := h κ H w Up.refl rl r
/-- + -/
def gAdd : LV → LV → M LV := fun x y L => match x, y with
  | .int i, .int j => .ok (.int (i + j)) L
  | .str a, .str b => if a.length + b.length ≤ 16777216 then .ok (.str (a ++ b)) L else .no
  | _, _ => match tview x, tview y with
    | some xs, some ys => if xs.length + ys.length ≤ 16777216 then (if xs = [] then .ok y L else if ys = [] then .ok x L else .ok (.tup (xs ++ ys)) L) else .no
    | _, _ => match lview L x, lview L y with
      | some xs, some ys => if xs.length + ys.length ≤ 16777216 then .ok (.fl (xs ++ ys)) L else .no
      | _, _ => .no
theorem RVs.nil_iff {xs : List LV} {us : List V} (r : RVs K κ H xs us) : us = [] ↔ xs = [] := by
  cases r with
  | nil => simp
  | cons _ _ => simp
theorem oq_add (hK : X.K = K.K) : OpQ X K (binaryOp .Add) gAdd := by
  refine ⟨_, OpR.or op_add (OpR.or op_add_str (OpR.or op_catA op_cat)), fun W κ H L x y u v σ Q rl rx ry h => ?_⟩
  unfold gAdd at h
  split at h
  · cases rx; cases ry; exact .inl ⟨_, _, rfl, rfl, h.now rl (.int _)⟩
  · split at h
    · rename_i hl
      cases rx; cases ry
      exact .inr (.inl ⟨_, _, rfl, rfl, by rw [sizeLine_eq]; exact hl, h.now rl (.str _)⟩)
    · exact h.elim
  · split at h
    · rename_i xs ys hx hy
      obtain ⟨a, us, rfl, h1, h2⟩ := tview_ok rx hx
      obtain ⟨b, vs, rfl, h3, h4⟩ := tview_ok ry hy
      split at h
      · rename_i hl
        refine .inr (.inr (.inl ⟨a, b, us, vs, rfl, rfl, by rw [hK]; exact h1, by rw [hK]; exact h3, by rw [← h2.length, ← h4.length, sizeLine_eq]; exact hl, fun e => ?_, fun e1 e2 => ?_, fun e1 e2 p hp => ?_⟩))
        · rw [if_pos (h2.nil_iff.mp e)] at h
          exact h.now rl ry
        · rw [if_neg fun z => e1 (h2.nil_iff.mpr z), if_pos (h4.nil_iff.mp e2)] at h
          exact h.now rl rx
        · rw [if_neg fun z => e1 (h2.nil_iff.mpr z), if_neg fun z => e2 (h4.nil_iff.mpr z)] at h
          exact h (κ.more p) _ _ (Up.froz rl hp) (rl.froz hp) (new_tup rl hp (h2.append h4))
      · exact h.elim
    · split at h
      · rename_i xs ys hx hy
        obtain ⟨a, us, rfl, h1, h2⟩ := lview_ok rl rx hx
        obtain ⟨b, vs, rfl, h3, h4⟩ := lview_ok rl ry hy
        split at h
        · rename_i hl
          exact .inr (.inr (.inr ⟨a, b, us, vs, rfl, rfl, h1, h3, by rw [← h2.length, ← h4.length, sizeLine_eq]; exact hl, fun p hp => h (κ.more p) _ _ (Up.froz rl hp) (rl.froz hp) (new_fl rl hp (h2.append h4))⟩))
        · exact h.elim
      · exact h.elim
theorem oq_sub : OpQ X K (binaryOp .Sub) (gI fun i j => .int (i - j)) :=
  ⟨_, op_sub, fun W κ H L x y u v σ Q rl rx ry h => let ⟨i, j, e1, e2, q⟩ := gI_ok h rl rx ry; ⟨i, j, e1, e2, q.now rl (.int _)⟩⟩
def cMul (i j : Int) : Bool := (decide (-(2 ^ 64) < i) && decide (i < 2 ^ 64)) || (decide (-(2 ^ 64) < j) && decide (j < 2 ^ 64))
/-- * of ints, and of a list and an int -/
def gMul : LV → LV → M LV := fun x y L => match x, y with
  | .int i, .int j => if cMul i j = true then .ok (.int (i * j)) L else .no
  | x, .int k => match lview L x with
    | some xs => if -1000000 < k ∧ k < 1000000 ∧ xs.length * k.toNat ≤ 16777216 then .ok (.fl (List.replicate k.toNat xs).flatten) L else .no
    | none => .no
  | _, _ => .no
theorem RVs.flat {xs : List LV} {us : List V} (r : RVs K κ H xs us) : ∀ n : Nat, RVs K κ H (List.replicate n xs).flatten (List.replicate n us).flatten
  | 0 => .nil
  | n + 1 => by rw [List.replicate_succ, List.replicate_succ, List.flatten_cons, List.flatten_cons]; exact r.append (RVs.flat r n)
theorem oq_mul : OpQ X K (binaryOp .Mult) gMul := by
  refine ⟨_, OpR.or op_mul op_rep, fun W κ H L x y u v σ Q rl rx ry h => ?_⟩
  unfold gMul at h
  split at h
  · split at h
    · rename_i hc
      cases rx; cases ry
      refine .inl ⟨_, _, rfl, rfl, ?_, h.now rl (.int _)⟩
      unfold cMul at hc
      simpa [CMul] using hc
    · exact h.elim
  · split at h
    · rename_i xs hx
      cases ry
      obtain ⟨a, us, rfl, h1, h2⟩ := lview_ok rl rx hx
      split at h
      · rename_i hl
        exact .inr ⟨a, _, us, rfl, rfl, h1, by omega, by omega, by rw [← h2.length, sizeLine_eq]; exact hl.2.2, fun p hp => h (κ.more p) _ _ (Up.froz rl hp) (rl.froz hp) (new_fl rl hp (h2.flat _))⟩
      · exact h.elim
    · exact h.elim
  · exact h.elim
theorem oq_fdiv : OpQ X K (binaryOp .FloorDiv) (gIc (fun _ j => decide (0 < j) && decide (j < 1073741824)) fun i j => .int (i / j)) :=
  ⟨_, op_fdiv, fun W κ H L x y u v σ Q rl rx ry h => let ⟨i, j, e1, e2, c, q⟩ := gIc_ok h rl rx ry; ⟨i, j, e1, e2, by simpa [CDiv] using c, q.now rl (.int _)⟩⟩
theorem oq_mod : OpQ X K (binaryOp .Mod) (gIc (fun _ j => decide (0 < j)) fun i j => .int (i % j)) :=
  ⟨_, op_mod, fun W κ H L x y u v σ Q rl rx ry h => let ⟨i, j, e1, e2, c, q⟩ := gIc_ok h rl rx ry; ⟨i, j, e1, e2, by simpa using c, q.now rl (.int _)⟩⟩
theorem oq_pow : OpQ X K (binaryOp .Pow) (gIc (fun i j => decide (0 ≤ j) && decide (j ≤ 1000) && decide (i.natAbs < 2 ^ 64)) fun i j => .int (i ^ j.toNat)) :=
  ⟨_, op_pow, fun W κ H L x y u v σ Q rl rx ry h => let ⟨i, j, e1, e2, c, q⟩ := gIc_ok h rl rx ry; ⟨i, j, e1, e2, by
    simp only [Bool.and_eq_true, decide_eq_true_eq] at c
    exact ⟨c.1.1, by omega, c.2⟩, q.now rl (.int _)⟩⟩
theorem uq_neg : UnQ X K (unaryOp .USub) (fun x L => match x with | .int i => .ok (.int (-i)) L | _ => .no) :=
  ⟨_, un_neg, fun W κ H L x u σ Q rl rx h => by
    cases x with
    | int i => cases rx; exact ⟨i, rfl, h.now rl (.int _)⟩
    | _ => exact h.elim⟩
/-! ### comparisons -/
def gCmp (p : Int → Int → Bool) (q : List Nat → List Nat → Bool) : LV → LV → M LV := fun x y L => match x, y with
  | .int i, .int j => .ok (.bl (p i j)) L
  | .str a, .str b => .ok (.bl (q a.cps.toList b.cps.toList)) L
  | _, _ => .no
theorem gCmp_ok {p : Int → Int → Bool} {q : List Nat → List Nat → Bool} (h : HV K W σ κ H (RV K) (gCmp p q x y L) Q) (rl : RL K κ H L) (rx : RV K κ H x u) (ry : RV K κ H y v) :
    (∃ i j, u = .int i ∧ v = .int j ∧ Q (.bl (p i j)) H) ∨ ∃ a b, u = .str a ∧ v = .str b ∧ Q (.bl (q a.cps.toList b.cps.toList)) H := by
  unfold gCmp at h
  split at h
  · cases rx; cases ry; exact .inl ⟨_, _, rfl, rfl, h.now rl (.bl _)⟩
  · cases rx; cases ry; exact .inr ⟨_, _, rfl, rfl, h.now rl (.bl _)⟩
  · exact h.elim
abbrev gLt := gCmp (fun i j => decide (i < j)) fun a b => decide (a < b)
abbrev gLe := gCmp (fun i j => decide (i ≤ j)) fun a b => !decide (b < a)
abbrev gGt := gCmp (fun i j => decide (j < i)) fun a b => decide (b < a)
abbrev gGe := gCmp (fun i j => decide (j ≤ i)) fun a b => !decide (a < b)
theorem oq_lt : OpQ X K (compareOp .Lt) gLt := ⟨_, OpR.or op_lt op_lt_str, fun W κ H L x y u v σ Q rl rx ry h => gCmp_ok h rl rx ry⟩
theorem oq_le : OpQ X K (compareOp .LtE) gLe := ⟨_, OpR.or op_le op_le_str, fun W κ H L x y u v σ Q rl rx ry h => gCmp_ok h rl rx ry⟩
theorem oq_gt : OpQ X K (compareOp .Gt) gGt := ⟨_, OpR.or op_gt op_gt_str, fun W κ H L x y u v σ Q rl rx ry h => gCmp_ok h rl rx ry⟩
theorem oq_ge : OpQ X K (compareOp .GtE) gGe := ⟨_, OpR.or op_ge op_ge_str, fun W κ H L x y u v σ Q rl rx ry h => gCmp_ok h rl rx ry⟩
def gIsN (neg : Bool) : LV → LV → M LV := fun x y L => match y with
  | .non => .ok (.bl (if neg then !isNon x else isNon x)) L
  | _ => .no
theorem isNon_ok (rx : RV K κ H x u) : isNon x = decide (u = .non) := by cases rx <;> rfl
theorem oq_isN : OpQ X K (compareOp .Is) (gIsN false) := ⟨_, op_isN, fun W κ H L x y u v σ Q rl rx ry h => by
  cases y with
  | non => cases ry; exact ⟨rfl, by rw [← isNon_ok rx]; exact h.now rl (.bl _)⟩
  | _ => exact h.elim⟩
theorem oq_notN : OpQ X K (compareOp .IsNot) (gIsN true) := ⟨_, op_notN, fun W κ H L x y u v σ Q rl rx ry h => by
  cases y with
  | non => cases ry; exact ⟨rfl, by rw [← isNon_ok rx]; exact h.now rl (.bl _)⟩
  | _ => exact h.elim⟩
/-! ### == of data -/
mutual
def toD : LV → Option PyData
  | .non => some .none
  | .bl b => some (.bool b)
  | .int i => some (.int i)
  | .str x => some (.str x)
  | .tup xs => (toDs xs).map .tuple
  | .st xs => (toDs xs).map .tuple
  | .fl xs => (toDs xs).map .list
  | .sl xs => (toDs xs).map .list
  | _ => none
def toDs : List LV → Option (List PyData)
  | [] => some []
  | x :: xs => match toD x, toDs xs with
    | some d, some ds => some (d :: ds)
    | _, _ => none
end
mutual
theorem toD_ok : ∀ {x : LV} {u : V} {d : PyData}, RV K κ H x u → toD x = some d → Dp K.K H u d
  | _, _, _, .non, e => by simp [toD] at e; subst e; exact .non
  | _, _, _, .bl b, e => by simp [toD] at e; subst e; exact .bl b
  | _, _, _, .int i, e => by simp [toD] at e; subst e; exact .int i
  | _, _, _, .str z, e => by simp [toD] at e; subst e; exact .str z
  | _, _, _, .ref _, e => by simp [toD] at e
  | _, _, _, .adr _, e => by simp [toD] at e
  | _, _, _, .ty _, e => by simp [toD] at e
  | _, _, _, .tup h r, e => by
    simp only [toD, Option.map_eq_some_iff] at e
    obtain ⟨ds, e1, rfl⟩ := e
    exact .tup (SqT.of h.2) (toDs_ok r e1)
  | _, _, _, .st h r, e => by
    simp only [toD, Option.map_eq_some_iff] at e
    obtain ⟨ds, e1, rfl⟩ := e
    exact .tup h.sq (toDs_ok r e1)
  | _, _, _, .fl h r, e => by
    simp only [toD, Option.map_eq_some_iff] at e
    obtain ⟨ds, e1, rfl⟩ := e
    exact .lst (SqL.of h.2) (toDs_ok r e1)
  | _, _, _, .sl h r, e => by
    simp only [toD, Option.map_eq_some_iff] at e
    obtain ⟨ds, e1, rfl⟩ := e
    exact .lst (h.elim (fun z => .inl z.2) fun z => z.sq) (toDs_ok r e1)
theorem toDs_ok : ∀ {x : List LV} {u : List V} {d : List PyData}, RVs K κ H x u → toDs x = some d → DpAll K.K H u d
  | _, _, _, .nil, e => by simp [toDs] at e; subst e; exact .nil
  | x :: xs, _, d, .cons h r, e => by
    unfold toDs at e
    cases e1 : toD x with
    | none => rw [e1] at e; cases e
    | some d1 =>
      cases e2 : toDs xs with
      | none => rw [e1, e2] at e; cases e
      | some ds =>
        rw [e1, e2] at e
        cases e
        exact .cons (toD_ok h e1) (toDs_ok r e2)
end
/-- a list with a number, as it stands -/
def vw (L : LH) (x : LV) : LV := match lview L x with
  | some xs => .fl xs
  | none => x
theorem vw_ok {d : PyData} (rl : RL K κ H L) (rx : RV K κ H x u) (h : toD (vw L x) = some d) : Dp K.K H u d := by
  unfold vw at h
  cases e : lview L x with
  | none => rw [e] at h; exact toD_ok rx h
  | some xs =>
    rw [e] at h
    obtain ⟨a, us, rfl, h1, h2⟩ := lview_ok rl rx e
    simp only [toD, Option.map_eq_some_iff] at h
    obtain ⟨ds, e1, rfl⟩ := h
    exact .lst (SqL.of h1) (toDs_ok h2 e1)
def gEq (neg : Bool) : LV → LV → M LV := fun x y L => match x, y with
  | .int i, .int j => .ok (.bl (if neg then !decide (i = j) else decide (i = j))) L
  | .str i, .str j => .ok (.bl (if neg then !decide (i = j) else decide (i = j))) L
  | .bl i, .bl j => .ok (.bl (if neg then !decide (i = j) else decide (i = j))) L
  | .non, .int _ => .ok (.bl neg) L
  | .int _, .non => .ok (.bl neg) L
  | .non, .str _ => .ok (.bl neg) L
  | .str _, .non => .ok (.bl neg) L
  | .non, .non => .ok (.bl (!neg)) L
  | x, y => match toD (vw L x), toD (vw L y) with
    | some d, some e => if SeqAt.shaped d = true ∧ SeqAt.shaped e = true then .ok (.bl (if neg then !PyData.eqv d e else PyData.eqv d e)) L else .no
    | _, _ => .no
theorem gEq_ok {neg : Bool} (h : HV K W σ κ H (RV K) (gEq neg x y L) Q) (rl : RL K κ H L) (rx : RV K κ H x u) (ry : RV K κ H y v) :
    (scal u v = true ∧ Q (.bl (if neg then !decide (u = v) else decide (u = v))) H) ∨ ∃ d e, Dp K.K H u d ∧ Dp K.K H v e ∧ SeqAt.shaped d = true ∧ SeqAt.shaped e = true ∧ Q (.bl (if neg then !PyData.eqv d e else PyData.eqv d e)) H := by
  unfold gEq at h
  have iI : ∀ i j : Int, decide (V.int i = V.int j) = decide (i = j) := fun i j => by simp
  have iS : ∀ i j : Str, decide (V.str i = V.str j) = decide (i = j) := fun i j => by simp
  have iB : ∀ i j : Bool, decide (V.bl i = V.bl j) = decide (i = j) := fun i j => by simp
  split at h
  · cases rx; cases ry; exact .inl ⟨rfl, by rw [iI]; exact h.now rl (.bl _)⟩
  · cases rx; cases ry; exact .inl ⟨rfl, by rw [iS]; exact h.now rl (.bl _)⟩
  · cases rx; cases ry; exact .inl ⟨rfl, by rw [iB]; exact h.now rl (.bl _)⟩
  · cases rx; cases ry; exact .inl ⟨rfl, by have := h.now rl (.bl _); cases neg <;> exact this⟩
  · cases rx; cases ry; exact .inl ⟨rfl, by have := h.now rl (.bl _); cases neg <;> exact this⟩
  · cases rx; cases ry; exact .inl ⟨rfl, by have := h.now rl (.bl _); cases neg <;> exact this⟩
  · cases rx; cases ry; exact .inl ⟨rfl, by have := h.now rl (.bl _); cases neg <;> exact this⟩
  · cases rx; cases ry; exact .inl ⟨rfl, by have := h.now rl (.bl _); cases neg <;> exact this⟩
  · split at h
    · rename_i d e hd he
      split at h
      · rename_i hs
        exact .inr ⟨d, e, vw_ok rl rx hd, vw_ok rl ry he, hs.1, hs.2, h.now rl (.bl _)⟩
      · exact h.elim
    · exact h.elim
theorem oq_eq (hK : X.K = K.K) (hu : X.A.units + 64 < cLine) : OpQ X K (compareOp .Eq) (gEq false) :=
  ⟨_, OpR.or op_eq (op_eqD hu), fun W κ H L x y u v σ Q rl rx ry h => by
    rcases gEq_ok h rl rx ry with z | z
    · exact .inl z
    · refine .inr ?_
      rw [hK]
      exact z⟩
theorem oq_ne (hK : X.K = K.K) (hu : X.A.units + 64 < cLine) : OpQ X K (compareOp .NotEq) (gEq true) :=
  ⟨_, OpR.or op_ne (op_neD hu), fun W κ H L x y u v σ Q rl rx ry h => by
    rcases gEq_ok h rl rx ry with z | z
    · exact .inl z
    · refine .inr ?_
      rw [hK]
      exact z⟩
end
end Q
end
section
set_option Elab.async false
set_option linter.all false
set_option maxRecDepth 100000
set_option maxHeartbeats 4000000
namespace Q
open PySem PySem.Spec L2
section
variable {X : Cx} {K : Kt} {κ : Kp} {H : Hp} {L : LH} {W : WX} {σ : St} {x y : LV} {u v : V} {xs : List LV} {us : List V} {e e2 o i value : Expr} {es : List Expr} {pos p apos tpos cpos pos' : Pos} {f : Str} {fo fa fb fc : Sl → M LV} {fs : Sl → M (List LV)} {c n : Nat}
/-! ### the attributes of instances -/
def fldOf (c : Nat) (f : Str) (L : LH) (x : LV) : Option LV := match x with
  | .ref n => match L[n]? with
    | some (.ins c' fs) => if c' = c then fs.lookup f else none
    | _ => none
  | _ => none
def mFld (c : Nat) (f : Str) (fo : Sl → M LV) : Sl → M LV := fun s L => (fo s L).bind fun x L1 => match fldOf c f L1 x with
  | some v => .ok v L1
  | none => .no
theorem Keyed.look {T : Type} [BEq T] {f : T} : ∀ {fs : List (T × LV)} {us : List (T × V)}, Keyed K κ H fs us → (∀ v, fs.lookup f = some v → ∃ u, us.lookup f = some u ∧ RV K κ H v u) ∧ (fs.lookup f = none → us.lookup f = none)
  | _, _, .nil => ⟨fun v h => (by cases h), fun _ => rfl⟩
  | _, _, .cons (a := p) (b := q) h r => by
    obtain ⟨h1, h2⟩ := Keyed.look (f := f) r
    have e : q.1 = p.1 := h.1.symm
    rw [List.lookup_cons, List.lookup_cons, e]
    cases f == p.1 with
    | true => exact ⟨fun v hv => ⟨q.2, rfl, by cases hv; exact h.2⟩, fun z => (by cases z)⟩
    | false => exact ⟨h1, h2⟩
theorem fldOf_ok (rl : RL K κ H L) (rx : RV K κ H x u) (h : fldOf c f L x = some y) : ∃ a dx fv v, u = .ref a ∧ H a = some (.ins (K.cl c) dx fv) ∧ fv.lookup f = some v ∧ RV K κ H y v := by
  unfold fldOf at h
  cases x with
  | ref n =>
    simp only [] at h
    cases e : L[n]? with
    | none => rw [e] at h; cases h
    | some ob =>
      rw [e] at h
      cases ob with
      | ins c' fs =>
        simp only [] at h
        split at h
        · rename_i hc
          subst hc
          obtain ⟨a, rfl, ha, _, dx, us, h1, h2⟩ := rl.at e rx (fun z => nomatch z)
          obtain ⟨w, h3, h4⟩ := (Keyed.look h2).1 _ h
          exact ⟨a, dx, us, w, rfl, h1, h3, h4⟩
        · cases h
      | _ => cases h
  | _ => cases h
theorem qe_fld (hK : X.K = K.K) (he : QE X K W e fo) (hc : Cls K.K (K.cl c)) (hn : NoAttr K.K (K.cl c) f) (hb : attributeBase e f X.env (eval e X.env) = eval e X.env := by rfl) : QE X K W (.Attribute e f pos) (mFld c f fo) :=
  PE.weak (pe_fld he hb) fun σ H Q ⟨κ, s, L, rs, rl, h⟩ => ⟨κ, s, L, rs, rl, (HV.bind (R := RV K) h).imp fun u H1 ⟨κ1, L1, x, up, rl1, rx, q⟩ => by
    cases e : fldOf c f L1 x with
    | none => rw [e] at q; exact q.elim
    | some y =>
      rw [e] at q
      obtain ⟨a, dx, fv, v, rfl, h1, h2, h3⟩ := fldOf_ok rl1 rx e
      exact ⟨a, _, dx, fv, v, rfl, h1, by rw [hK]; exact hc, by rw [hK]; exact hn, h2, q.now rl1 h3⟩⟩
def putL (f : Str) (v : LV) : List (Str × LV) → List (Str × LV)
  | [] => [(f, v)]
  | (g, w) :: r => if g = f then (g, v) :: r else (g, w) :: putL f v r
theorem Keyed.put {v : LV} {u : V} (r : RV K κ H v u) : ∀ {fs : List (Str × LV)} {us : List (Str × V)}, Keyed K κ H fs us → Keyed K κ H (putL f v fs) (putF f u us)
  | _, _, .nil => .cons ⟨rfl, r⟩ .nil
  | (g, w) :: fs, (g', w') :: us, .cons h t => by
    have e : g = g' := h.1
    subst e
    unfold putL putF
    split
    · exact .cons ⟨rfl, r⟩ t
    · exact .cons ⟨rfl, h.2⟩ (Keyed.put r t)
theorem Keyed.length {T : Type} : ∀ {fs : List (T × LV)} {us : List (T × V)}, Keyed K κ H fs us → fs.length = us.length
  | _, _, .nil => rfl
  | _, _, .cons _ t => by rw [List.length_cons, List.length_cons, Keyed.length t]
/-- the objects behind x.f = v -/
def setFld (c : Nat) (f : Str) (v : LV) (L : LH) (x : LV) : Option LH := match x with
  | .ref n => match L[n]? with
    | some (.ins c' fs) => if c' = c ∧ fs.length < 1000 then some (L.set n (.ins c (putL f v fs))) else none
    | _ => none
  | _ => none
theorem setFld_ok {L' : LH} {v : LV} {w : V} (rl : RL K κ H L) (rx : RV K κ H x u) (rv : RV K κ H v w) (h : setFld c f v L x = some L') :
    ∃ a dx fv, u = .ref a ∧ H a = some (.ins (K.cl c) dx fv) ∧ fv.length < 1000 ∧ Up K κ H κ (upd H a (.ins (K.cl c) dx (putF f w fv))) ∧ RL K κ (upd H a (.ins (K.cl c) dx (putF f w fv))) L' := by
  unfold setFld at h
  cases x with
  | ref n =>
    simp only [] at h
    cases e : L[n]? with
    | none => rw [e] at h; cases h
    | some ob =>
      rw [e] at h
      cases ob with
      | ins c' fs =>
        simp only [] at h
        split at h
        · rename_i hc
          obtain ⟨rfl, hl⟩ := hc
          cases h
          obtain ⟨a, rfl, ha, _, dx, us, h1, h2⟩ := rl.at e rx (fun z => nomatch z)
          have up := Up.chg (ho := .ins (K.cl c') dx (putF f w us)) rl e (fun z => nomatch z) ha
          exact ⟨a, dx, us, rfl, h1, by rw [← Keyed.length h2]; exact hl, up, rl.chg e (fun z => nomatch z) ha ⟨dx, _, upd_same, (Keyed.put rv h2).up up⟩⟩
        · cases h
      | _ => cases h
  | _ => cases h
def mSetFld (c : Nat) (f : Str) (fo fv : Sl → M LV) : MS := fun s L => lift s (fun v L1 => lift s (fun x L2 => match setFld c f v L2 x with
  | some L3 => .next s L3
  | none => .no) (fo s L1)) (fv s L)
theorem qs_fld (hK : X.K = K.K) (ha : QE X K W o fo) (hv : QE X K W value fb) (hc : Cls K.K (K.cl c)) (hn : NoAttr K.K (K.cl c) f) (hs : swapsWith value (some (.Attribute o f pos')) pos.line X.env = pure false := by rfl) :
    QS X K W (.Assign [.Attribute o f pos'] value pos) (mSetFld c f fo fb) :=
  PS.weak (ps_fld ha hv hs) fun D σ H ⟨κ, s, L, rs, rl, h⟩ => ⟨κ, s, L, rs, rl, (HS.lift (R := RV K) rs h).imp fun u H1 ⟨κ1, L1, v, up, rl1, rv, q⟩ => ⟨κ1, s, L1, rs.up up, rl1, (HS.lift (R := RV K) (rs.up up) q).imp fun w H2 ⟨κ2, L2, x, up2, rl2, rx, q2⟩ => by
    cases e : setFld c f v L2 x with
    | none => rw [e] at q2; exact q2.elim
    | some L3 =>
      rw [e] at q2
      obtain ⟨a, dx, fv, rfl, h1, h2, h3, h4⟩ := setFld_ok rl2 rx (rv.up up2) e
      exact ⟨a, _, dx, fv, rfl, h1, by rw [hK]; exact hc, by rw [hK]; exact hn, h2, q2 κ2 _ σ h3 h4 (((rs.up up).up up2).up h3)⟩⟩⟩
/-- an operator in place -/
def IpQ (X : Cx) (K : Kt) (op : Operator) (g : LV → LV → M LV) : Prop :=
  ∃ r : V → V → Hp → VK → Prop, PIp X op r ∧ ∀ (W : WX) (κ : Kp) (H : Hp) (L : LH) (x y : LV) (u v : V) (σ : St) (Q : VK), RL K κ H L → RV K κ H x u → RV K κ H y v → HV K W σ κ H (RV K) (g x y L) Q → r u v H Q
theorem iq_add : IpQ X K .Add (gI fun i j => .int (i + j)) := ⟨_, ip_add, fun W κ H L x y u v σ Q rl rx ry h => let ⟨i, j, e1, e2, q⟩ := gI_ok h rl rx ry; ⟨i, j, e1, e2, q.now rl (.int _)⟩⟩
theorem iq_sub : IpQ X K .Sub (gI fun i j => .int (i - j)) := ⟨_, ip_sub, fun W κ H L x y u v σ Q rl rx ry h => let ⟨i, j, e1, e2, q⟩ := gI_ok h rl rx ry; ⟨i, j, e1, e2, q.now rl (.int _)⟩⟩
def mAug (k : Nat) (g : LV → LV → M LV) (fe : Sl → M LV) : MS := fun s L => match s[k]? with
  | some (some x) => lift s (fun y L1 => lift s (fun z L2 => .next (s.set k (some z)) L2) (g x y L1)) (fe s L)
  | _ => .no
theorem qs_aug {k : Nat} {z : Str} {op : Operator} {g : LV → LV → M LV} (hN : X.N.Nodup) (hi : X.N[k]? = some z) (hx : Loc X.env.scope z) (he : QE X K W e fo) (ho : IpQ X K op g) (hf : X.fn z = true ∨ X.env.scope.names.lookup z = some .local := by first | exact .inl rfl | exact .inr rfl | assumption) :
    QS X K W (.AugAssign (.Name z pos') op e pos) (mAug k g fo) := by
  obtain ⟨r, h1, h2⟩ := ho
  refine PS.weak (ps_aug hN hi hx he h1 hf) fun D σ H ⟨κ, s, L, rs, rl, h⟩ => ?_
  unfold mAug at h
  cases e : s[k]? with
  | none => rw [e] at h; exact h.elim
  | some ov =>
    cases ov with
    | none => rw [e] at h; exact h.elim
    | some x =>
      rw [e] at h
      obtain ⟨u, h3, h4⟩ := rs.2 k x e
      refine ⟨u, h3, κ, s, L, rs, rl, (HS.lift (R := RV K) rs h).imp fun v H1 ⟨κ1, L1, y, up, rl1, ry, q⟩ => h2 W κ1 H1 L1 x y u v σ _ rl1 (h4.up up) ry ?_⟩
      exact (HS.lift (R := RV K) (rs.up up) q).imp fun w H2 ⟨κ2, L2, z, up2, rl2, rz, q2⟩ => q2 κ2 H2 _ Up.refl rl2 (((rs.up up).up up2).set rz k)
/-- o.f op= e -/
def mAugFld (c : Nat) (f : Str) (g : LV → LV → M LV) (fo fe : Sl → M LV) : MS := fun s L => lift s (fun x L1 => match fldOf c f L1 x with
  | none => .no
  | some w => lift s (fun y L2 => lift s (fun z L3 => match setFld c f z L3 x with
    | some L4 => .next s L4
    | none => .no) (g w y L2)) (fe s L1)) (fo s L)
theorem qs_augFld {op : Operator} {g : LV → LV → M LV} (hK : X.K = K.K) (ha : QE X K W o fo) (hv : QE X K W value fb) (ho : IpQ X K op g) (hc : Cls K.K (K.cl c)) (hn : NoAttr K.K (K.cl c) f) : QS X K W (.AugAssign (.Attribute o f tpos) op value pos) (mAugFld c f g fo fb) := by
  obtain ⟨r, h1, h2⟩ := ho
  refine PS.weak (ps_fldaug ha hv (rd := r) h1) fun D σ H ⟨κ, s, L, rs, rl, h⟩ => ⟨κ, s, L, rs, rl, (HS.lift (R := RV K) rs h).imp fun u H1 ⟨κ1, L1, x, up, rl1, rx, q⟩ => ?_⟩
  cases e : fldOf c f L1 x with
  | none => rw [e] at q; exact q.elim
  | some w =>
    rw [e] at q
    obtain ⟨a, dx, fv, w', rfl, h3, h4, h5⟩ := fldOf_ok rl1 rx e
    refine ⟨a, _, dx, fv, w', rfl, h3, by rw [hK]; exact hc, by rw [hK]; exact hn, h4, κ1, s, L1, rs.up up, rl1, (HS.lift (R := RV K) (rs.up up) q).imp fun v H2 ⟨κ2, L2, y, up2, rl2, ry, q2⟩ => h2 W κ2 H2 L2 w y w' v σ _ rl2 (h5.up up2) ry ?_⟩
    refine (HS.lift (R := RV K) ((rs.up up).up up2) q2).imp fun zv H3 ⟨κ3, L3, z, up3, rl3, rz, q3⟩ => ?_
    cases e2 : setFld c f z L3 x with
    | none => rw [e2] at q3; exact q3.elim
    | some L4 =>
      rw [e2] at q3
      obtain ⟨a', dx', fv', ea, h6, h7, h8, h9⟩ := setFld_ok rl3 ((rx.up up2).up up3) rz e2
      cases ea
      exact ⟨dx', fv', h6, h7, q3 κ3 _ σ h8 h9 ((((rs.up up).up up2).up up3).up h8)⟩
/-! ### items -/
def gIx : LV → LV → M LV := fun x y L => match y with
  | .int i => match x with
    | .str z => if z.length ≤ 16777216 then (match atI z.cps.toList i with
      | some c => .ok (.str ⟨#[c]⟩) L
      | none => .no) else .no
    | _ => match tview x with
      | some xs => (match atI xs i with
        | some v => .ok v L
        | none => .no)
      | none => match lviewR L x with
        | some xs => (match atI xs i with
          | some v => .ok v L
          | none => .no)
        | none => .no
  | _ => .no
theorem RVs.at {i : Int} (r : RVs K κ H xs us) (h : atI xs i = some y) : ∃ u, atI us i = some u ∧ RV K κ H y u := by
  unfold atI at h ⊢
  rw [← r.length]
  cases e : ixN xs.length i with
  | none => rw [e] at h; cases h
  | some j => rw [e] at h; exact r.get h
theorem iq_ix (hK : X.K = K.K) : ∃ r, IxR X r ∧ ∀ (W : WX) (κ : Kp) (H : Hp) (L : LH) (x y : LV) (u v : V) (σ : St) (Q : VK), RL K κ H L → RV K κ H x u → RV K κ H y v → HV K W σ κ H (RV K) (gIx x y L) Q → r u v H Q := by
  refine ⟨_, ix_seq, fun W κ H L x y u v σ Q rl rx ry h => ?_⟩
  unfold gIx at h
  split at h
  · cases ry
    split at h
    · cases rx
      split at h
      · rename_i hz
        split at h
        · rename_i hc
          exact .inr (.inr ⟨_, _, _, rfl, rfl, by rw [sizeLine_eq]; exact hz, hc, h.now rl (.str _)⟩)
        · exact h.elim
      · exact h.elim
    · split at h
      · rename_i ys hx
        obtain ⟨a, us, rfl, h1, h2⟩ := tview_ok rx hx
        split at h
        · rename_i hv
          obtain ⟨w, h3, h4⟩ := h2.at hv
          exact .inr (.inl ⟨a, us, _, w, rfl, rfl, by rw [hK]; exact h1, h3, h.now rl h4⟩)
        · exact h.elim
      · split at h
        · rename_i ys hx
          obtain ⟨a, us, rfl, h1, h2⟩ := lviewR_ok rl rx hx
          split at h
          · rename_i hv
            obtain ⟨w, h3, h4⟩ := h2.at hv
            exact .inl ⟨a, us, _, w, rfl, rfl, by rw [hK]; exact h1, h3, h.now rl h4⟩
          · exact h.elim
        · exact h.elim
  · exact h.elim
theorem qe_ix (hK : X.K = K.K) (ha : QE X K W e fa) (hb : QE X K W i fb) (hs : PlainIx i := by intro _ _; rfl) : QE X K W (.Subscript e i pos) (mOp gIx fa fb) := by
  obtain ⟨r, h1, h2⟩ := iq_ix (X := X) hK
  exact PE.weak (pe_ix h1 ha hb hs) fun σ H Q ⟨κ, s, L, rs, rl, h⟩ => ⟨κ, s, L, rs, rl, (HV.bind (R := RV K) h).imp fun u H1 ⟨κ1, L1, x, up, rl1, rx, q⟩ => ⟨κ1, s, L1, rs.up up, rl1, (HV.bind (R := RV K) q).imp fun v H2 ⟨κ2, L2, y, up2, rl2, ry, q2⟩ => h2 W κ2 H2 L2 x y u v σ Q rl2 (rx.up up2) ry q2⟩⟩
/-- xs[i] = v -/
def setIx (L : LH) (x y v : LV) : Option LH := match x, y with
  | .ref n, .int i => match L[n]? with
    | some (.lst xs) => (match ixN xs.length i with
      | some j => some (L.set n (.lst (xs.set j v)))
      | none => none)
    | _ => none
  | _, _ => none
def mSetIx (fo fi fv : Sl → M LV) : MS := fun s L => lift s (fun v L1 => lift s (fun x L2 => lift s (fun y L3 => match setIx L3 x y v with
  | some L4 => .next s L4
  | none => .no) (fi s L2)) (fo s L1)) (fv s L)
theorem setIx_ok {L' : LH} {z : LV} {w : V} (rl : RL K κ H L) (rx : RV K κ H x u) (ry : RV K κ H y v) (rz : RV K κ H z w) (h : setIx L x y z = some L') :
    ∃ a xs k j, u = .ref a ∧ v = .int k ∧ H a = some (.lst xs) ∧ ixN xs.length k = some j ∧ Up K κ H κ (upd H a (.lst (xs.set j w))) ∧ RL K κ (upd H a (.lst (xs.set j w))) L' := by
  unfold setIx at h
  split at h
  · cases ry
    rename_i n i
    cases e : L[n]? with
    | none => rw [e] at h; cases h
    | some ob =>
      rw [e] at h
      cases ob with
      | lst xs =>
        simp only [] at h
        split at h
        · rename_i j hj
          cases h
          obtain ⟨a, rfl, ha, _, us, h1, h2⟩ := rl.at e rx (fun z => nomatch z)
          have up := Up.chg (ho := .lst (us.set j w)) rl e (fun z => nomatch z) ha
          exact ⟨a, us, i, j, rfl, rfl, h1, by rw [← h2.length]; exact hj, up, rl.chg e (fun z => nomatch z) ha ⟨_, upd_same, (RVs.set rz j h2).up up⟩⟩
        · cases h
      | _ => cases h
  · cases h
theorem qs_setIx (hv : QE X K W value fc) (ho : QE X K W o fo) (hi : QE X K W i fb)
    (ha : ∀ v, assign (.Subscript o i pos') X.env v = (do
      let ov ← holding [v] (eval o X.env)
      let iv ← holding [v, ov] (eval i X.env)
      standAt pos'
      holding [v, ov, iv] (setItem ov iv v)
      release [v, ov, iv] []) := by intro _; rfl)
    (hs : swapsWithSole [.Subscript o i pos'] value pos.line X.env = pure false := by rfl) (hw : swappedStores [.Subscript o i pos'] value X.env = pure none := by rfl)
    (h1 : (assignEach [.Subscript o i pos'] X.env).map (·.2) = [assign (.Subscript o i pos') X.env] := by rfl) : QS X K W (.Assign [.Subscript o i pos'] value pos) (mSetIx fo fb fc) :=
  PS.weak (ps_asg hv (pg_sub ho hi set_list ha) hs hw h1) fun D σ H ⟨κ, s, L, rs, rl, h⟩ => ⟨κ, s, L, rs, rl, (HS.lift (R := RV K) rs h).imp fun w H1 ⟨κ1, L1, z, up, rl1, rz, q⟩ => ⟨κ1, s, L1, rs.up up, rl1, (HS.lift (R := RV K) (rs.up up) q).imp fun u H2 ⟨κ2, L2, x, up2, rl2, rx, q2⟩ =>
    ⟨κ2, s, L2, (rs.up up).up up2, rl2, (HS.lift (R := RV K) ((rs.up up).up up2) q2).imp fun v H3 ⟨κ3, L3, y, up3, rl3, ry, q3⟩ => by
      cases e : setIx L3 x y z with
      | none => rw [e] at q3; exact q3.elim
      | some L4 =>
        rw [e] at q3
        obtain ⟨a, xs, k, j, rfl, rfl, h3, h4, h5, h6⟩ := setIx_ok rl3 (rx.up up3) ry ((rz.up up2).up up3) e
        exact ⟨a, xs, k, j, rfl, rfl, h3, h4, q3 κ3 _ σ h5 h6 ((((rs.up up).up up2).up up3).up h5)⟩⟩⟩⟩
/-! ### calls of built-ins -/
def CallQ (X : Cx) (K : Kt) (F : Value) (g : List LV → M LV) : Prop :=
  ∃ r, CallR X F r ∧ ∀ (W : WX) (κ : Kp) (H : Hp) (L : LH) (xs : List LV) (us : List V) (σ : St) (Q : VK), RL K κ H L → RVs K κ H xs us → HV K W σ κ H (RV K) (g xs L) Q → r us H Q
def mBlt (g : List LV → M LV) (fs : Sl → M (List LV)) : Sl → M LV := fun s L => (fs s L).bind fun xs L1 => g xs L1
theorem qe_callB {id : String} {nm : Str} {g : List LV → M LV} (hc : CallQ X K (.builtin id) g) (hg : Gl X nm) (hm : X.mg nm = none) (hv : bootBuiltins nm = some (.builtin id)) (ha : QA X K W (e :: es) fs) (hn : nm ≠ "__name__" := by decide) (hdb : (nm == ("__debug__" : Str)) = false := by decide)
    (he : starEach (e :: es) X.env = (false, eval e X.env) :: starEach es X.env := by rfl) (hpl : (backTo pos (starEach es X.env)).any (·.1) = false := by rfl) : QE X K W (.Call (.Name nm p) (e :: es) [] pos) (mBlt g fs) := by
  obtain ⟨r, h1, h2⟩ := hc
  exact PE.weak (pe_callB h1 hg hm hv ha hn hdb he hpl) fun σ H Q ⟨κ, s, L, rs, rl, h⟩ => ⟨κ, s, L, rs, rl, (HV.bind (R := RVs K) h).imp fun us H1 ⟨κ1, L1, xs, up, rl1, rx, q⟩ => h2 W κ1 H1 L1 xs us σ Q rl1 rx q⟩
theorem qe_callTy {T : String} {nm : Str} {g : List LV → M LV} (hc : CallQ X K (.type T) g) (hg : Gl X nm) (hm : X.mg nm = none) (hv : bootBuiltins nm = some (.type T)) (ha : QA X K W (e :: es) fs) (hn : nm ≠ "__name__" := by decide) (hdb : (nm == ("__debug__" : Str)) = false := by decide)
    (he : starEach (e :: es) X.env = (false, eval e X.env) :: starEach es X.env := by rfl) (hpl : (backTo pos (starEach es X.env)).any (·.1) = false := by rfl) : QE X K W (.Call (.Name nm p) (e :: es) [] pos) (mBlt g fs) := by
  obtain ⟨r, h1, h2⟩ := hc
  exact PE.weak (pe_callTy h1 hg hm hv ha hn hdb he hpl) fun σ H Q ⟨κ, s, L, rs, rl, h⟩ => ⟨κ, s, L, rs, rl, (HV.bind (R := RVs K) h).imp fun us H1 ⟨κ1, L1, xs, up, rl1, rx, q⟩ => h2 W κ1 H1 L1 xs us σ Q rl1 rx q⟩
def fAbs : List LV → M LV := fun xs L => match xs with
  | [.int i] => .ok (.int (if i < 0 then -i else i)) L
  | _ => .no
theorem RVs.one {x : LV} (r : RVs K κ H [x] us) : ∃ u, us = [u] ∧ RV K κ H x u := by
  cases r with
  | cons a b => cases b; exact ⟨_, rfl, a⟩
theorem RVs.two {x y : LV} (r : RVs K κ H [x, y] us) : ∃ u v, us = [u, v] ∧ RV K κ H x u ∧ RV K κ H y v := by
  cases r with
  | cons a b =>
    obtain ⟨v, rfl, h⟩ := b.one
    exact ⟨_, v, rfl, a, h⟩
theorem cq_abs : CallQ X K (.builtin "abs") fAbs := ⟨_, call_abs, fun W κ H L xs us σ Q rl rv h => by
  unfold fAbs at h
  split at h
  · obtain ⟨u, rfl, ru⟩ := rv.one
    cases ru
    exact ⟨_, rfl, h.now rl (.int _)⟩
  · exact h.elim⟩
def fMax : List LV → M LV := fun xs L => match xs with
  | [.int i, .int j] => .ok (.int (if j > i then j else i)) L
  | _ => .no
def fMin : List LV → M LV := fun xs L => match xs with
  | [.int i, .int j] => .ok (.int (if j < i then j else i)) L
  | _ => .no
theorem cq_max (hc : X.calm = true) : CallQ X K (.builtin "max") fMax := ⟨_, call_max2 hc, fun W κ H L xs us σ Q rl rv h => by
  unfold fMax at h
  split at h
  · obtain ⟨u, v, rfl, r1, r2⟩ := rv.two
    cases r1; cases r2
    exact ⟨_, _, rfl, h.now rl (.int _)⟩
  · exact h.elim⟩
theorem cq_min (hc : X.calm = true) : CallQ X K (.builtin "min") fMin := ⟨_, call_min2 hc, fun W κ H L xs us σ Q rl rv h => by
  unfold fMin at h
  split at h
  · obtain ⟨u, v, rfl, r1, r2⟩ := rv.two
    cases r1; cases r2
    exact ⟨_, _, rfl, h.now rl (.int _)⟩
  · exact h.elim⟩
def fInt : List LV → M LV := fun xs L => match xs with
  | [.int i] => .ok (.int i) L
  | [.bl b] => .ok (.int (if b = true then 1 else 0)) L
  | _ => .no
theorem cq_int : CallQ X K (.type "int") fInt := ⟨_, call_int1, fun W κ H L xs us σ Q rl rv h => by
  unfold fInt at h
  split at h
  · obtain ⟨u, rfl, ru⟩ := rv.one
    cases ru
    exact .inl ⟨_, rfl, h.now rl (.int _)⟩
  · obtain ⟨u, rfl, ru⟩ := rv.one
    cases ru
    exact .inr ⟨_, rfl, h.now rl (.int _)⟩
  · exact h.elim⟩
def fLen : List LV → M LV := fun xs L => match xs with
  | [.str z] => if z.length ≤ 16777216 then .ok (.int z.length) L else .no
  | [x] => match tview x with
    | some ys => .ok (.int ys.length) L
    | none => match lviewR L x with
      | some ys => .ok (.int ys.length) L
      | none => .no
  | _ => .no
theorem cq_len (hK : X.K = K.K) : CallQ X K (.builtin "len") fLen := ⟨_, call_len, fun W κ H L xs us σ Q rl rv h => by
  unfold fLen at h
  split at h
  · obtain ⟨u, rfl, ru⟩ := rv.one
    cases ru
    split at h
    · exact ⟨_, _, rfl, ⟨by rw [sizeLine_eq]; assumption, rfl⟩, h.now rl (.int _)⟩
    · exact h.elim
  · obtain ⟨u, rfl, ru⟩ := rv.one
    split at h
    · rename_i ys hx
      obtain ⟨a, vs, rfl, h1, h2⟩ := tview_ok ru hx
      exact ⟨_, _, rfl, .inr ⟨vs, by rw [hK]; exact h1, rfl⟩, by rw [← h2.length]; exact h.now rl (.int _)⟩
    · split at h
      · rename_i ys hx
        obtain ⟨a, vs, rfl, h1, h2⟩ := lviewR_ok rl ru hx
        exact ⟨_, _, rfl, .inl ⟨vs, by rw [hK]; exact h1, rfl⟩, by rw [← h2.length]; exact h.now rl (.int _)⟩
      · exact h.elim
  · exact h.elim⟩
def fList : List LV → M LV := fun xs L => match xs with
  | [x] => match tview x with
    | some ys => .ok (.fl ys) L
    | none => match lviewR L x with
      | some ys => .ok (.fl ys) L
      | none => .no
  | _ => .no
theorem cq_list (hK : X.K = K.K) : CallQ X K (.type "list") fList := ⟨_, call_list_of, fun W κ H L xs us σ Q rl rv h => by
  unfold fList at h
  split at h
  · obtain ⟨u, rfl, ru⟩ := rv.one
    split at h
    · rename_i ys hx
      obtain ⟨a, vs, rfl, h1, h2⟩ := tview_ok ru hx
      exact ⟨_, vs, rfl, .inr (by rw [hK]; exact h1), fun p hp => h (κ.more p) _ _ (Up.froz rl hp) (rl.froz hp) (new_fl rl hp h2)⟩
    · split at h
      · rename_i ys hx
        obtain ⟨a, vs, rfl, h1, h2⟩ := lviewR_ok rl ru hx
        exact ⟨_, vs, rfl, .inl (by rw [hK]; exact h1), fun p hp => h (κ.more p) _ _ (Up.froz rl hp) (rl.froz hp) (new_fl rl hp h2)⟩
      · exact h.elim
  · exact h.elim⟩
def fTuple : List LV → M LV := fun xs L => match xs with
  | [x] => match tview x with
    | some _ => .ok x L
    | none => match lviewR L x with
      | some ys => .ok (.tup ys) L
      | none => .no
  | _ => .no
theorem cq_tuple (hK : X.K = K.K) : CallQ X K (.type "tuple") fTuple := ⟨_, call_tuple_of, fun W κ H L xs us σ Q rl rv h => by
  unfold fTuple at h
  split at h
  · obtain ⟨u, rfl, ru⟩ := rv.one
    split at h
    · rename_i ys hx
      obtain ⟨a, vs, rfl, h1, h2⟩ := tview_ok ru hx
      exact ⟨_, vs, rfl, .inr ⟨by rw [hK]; exact h1, h.now rl ru⟩⟩
    · split at h
      · rename_i ys hx
        obtain ⟨a, vs, rfl, h1, h2⟩ := lviewR_ok rl ru hx
        exact ⟨_, vs, rfl, .inl ⟨by rw [hK]; exact h1, fun p hp => h (κ.more p) _ _ (Up.froz rl hp) (rl.froz hp) (new_tup rl hp h2)⟩⟩
      · exact h.elim
  · exact h.elim⟩
/-! ### methods of built-in kinds -/
def tyL (T : String) (x : LV) (L : LH) : Bool := match x with
  | .str _ => T == "str"
  | .int _ => T == "int"
  | x => T == "list" && (lviewR L x).isSome
def MtQ (X : Cx) (K : Kt) (id : String) (g : LV → List LV → M LV) : Prop :=
  ∃ r, MtR X id r ∧ ∀ (W : WX) (κ : Kp) (H : Hp) (L : LH) (x : LV) (xs : List LV) (u : V) (us : List V) (σ : St) (Q : VK), RL K κ H L → RV K κ H x u → RVs K κ H xs us → HV K W σ κ H (RV K) (g x xs L) Q → r u us H Q
theorem tyL_ok {T : String} (rl : RL K κ H L) (rx : RV K κ H x u) (h : tyL T x L = true) : tyV K.K T u H := by
  have main : (T == "list" && (lviewR L x).isSome) = true → tyV K.K T u H := fun h => by
    rw [Bool.and_eq_true] at h
    obtain ⟨ys, hy⟩ := Option.isSome_iff_exists.mp h.2
    obtain ⟨a, vs, rfl, h1, h2⟩ := lviewR_ok rl rx hy
    exact .inl ⟨by simpa using h.1, vs, h1⟩
  cases x with
  | str z => cases rx; exact (by simpa [tyL] using h : T = "str")
  | int z => cases rx; exact (by simpa [tyL] using h : T = "int")
  | _ => exact main h
def mBM (T : String) (g : LV → List LV → M LV) (fo : Sl → M LV) (fs : Sl → M (List LV)) : Sl → M LV := fun s L => (fo s L).bind fun x L1 => if tyL T x L1 = true then (fs s L1).bind fun xs L2 => g x xs L2 else .no
theorem qe_bm {T id : String} {name : Str} {g : LV → List LV → M LV} (hK : X.K = K.K) (pa : PlainAttrs T) (slot : Slot T name id) (hty : typeOf (.builtin id) = pure (.type "method_descriptor")) (hm : MtQ X K id g) (ho : QE X K W o fo) (ha : QA X K W (e :: es) fs)
    (hbase : attributeBase o name X.env (eval o X.env) = eval o X.env := by rfl)
    (hfew : ((backTo cpos (starEach (e :: es) X.env)).all (fun x => !x.1) && (backToKw cpos (keywordEach [] X.env)).all (fun x => x.1.isSome)
      && decide ((e :: es).length + ([] : List Keyword).length + (if ([] : List Keyword).isEmpty then 0 else 1) < 30)) = true := by rfl)
    (hline : (apos.endLine == cpos.line) = true := by rfl) (hs : starEach (e :: es) X.env = (false, eval e X.env) :: starEach es X.env := by rfl) (hplain : (backTo cpos (starEach es X.env)).any (·.1) = false := by rfl) :
    QE X K W (.Call (.Attribute o name apos) (e :: es) [] cpos) (mBM T g fo fs) := by
  obtain ⟨r, h1, h2⟩ := hm
  exact PE.weak (pe_bm pa slot hty h1 ho ha hbase hfew hline hs hplain) fun σ H Q ⟨κ, s, L, rs, rl, h⟩ => ⟨κ, s, L, rs, rl, (HV.bind (R := RV K) h).imp fun u H1 ⟨κ1, L1, x, up, rl1, rx, q⟩ => by
    split at q
    · rename_i ht
      exact ⟨by rw [hK]; exact tyL_ok rl1 rx ht, κ1, s, L1, rs.up up, rl1, (HV.bind (R := RVs K) q).imp fun us H2 ⟨κ2, L2, xs, up2, rl2, rxs, q2⟩ => h2 W κ2 H2 L2 x xs u us σ Q rl2 (rx.up up2) rxs q2⟩
    · exact q.elim⟩
theorem qe_bm0 {T id : String} {name : Str} {g : LV → List LV → M LV} (hK : X.K = K.K) (pa : PlainAttrs T) (slot : Slot T name id) (hty : typeOf (.builtin id) = pure (.type "method_descriptor")) (hm : MtQ X K id g) (ho : QE X K W o fo)
    (hbase : attributeBase o name X.env (eval o X.env) = eval o X.env := by rfl) (hline : (apos.endLine == cpos.line) = true := by rfl) : QE X K W (.Call (.Attribute o name apos) [] [] cpos) (mBM T g fo mNil) := by
  obtain ⟨r, h1, h2⟩ := hm
  exact PE.weak (pe_bm0 pa slot hty h1 ho hbase hline) fun σ H Q ⟨κ, s, L, rs, rl, h⟩ => ⟨κ, s, L, rs, rl, (HV.bind (R := RV K) h).imp fun u H1 ⟨κ1, L1, x, up, rl1, rx, q⟩ => by
    split at q
    · rename_i ht
      exact ⟨by rw [hK]; exact tyL_ok rl1 rx ht, h2 W κ1 H1 L1 x [] u [] σ Q rl1 rx .nil q⟩
    · exact q.elim⟩
/-- what a change of a list with a number does -/
def chgL (L : LH) (x : LV) (k : List LV → Option (LV × List LV)) : Res LV := match x with
  | .ref n => match L[n]? with
    | some (.lst xs) => (match k xs with
      | some (v, ys) => .ok v (L.set n (.lst ys))
      | none => .no)
    | _ => .no
  | _ => .no
theorem chgL_ok {k : List LV → Option (LV × List LV)} {Q : VK} (h : HV K W σ κ H (RV K) (chgL L x k) Q) (rl : RL K κ H L) (rx : RV K κ H x u) :
    ∃ a xs us v ys, u = .ref a ∧ H a = some (.lst us) ∧ RVs K κ H xs us ∧ k xs = some (v, ys) ∧ ∀ w ws, RV K κ H v w → RVs K κ H ys ws → Q w (upd H a (.lst ws)) := by
  unfold chgL at h
  cases x with
  | ref n =>
    simp only [] at h
    cases e : L[n]? with
    | none => rw [e] at h; exact h.elim
    | some ob =>
      rw [e] at h
      cases ob with
      | lst xs =>
        simp only [] at h
        split at h
        · rename_i v ys hk
          obtain ⟨a, rfl, ha, _, us, h1, h2⟩ := rl.at e rx (fun z => nomatch z)
          refine ⟨a, xs, us, v, ys, rfl, h1, h2, hk, fun w ws rw rws => ?_⟩
          have up := Up.chg (ho := .lst ws) rl e (fun z => nomatch z) ha
          exact h κ _ w up (rl.chg e (fun z => nomatch z) ha ⟨_, upd_same, rws.up up⟩) (rw.up up)
        · exact h.elim
      | _ => exact h.elim
  | _ => exact h.elim
def gAppend : LV → List LV → M LV := fun x vs L => match vs with
  | [y] => chgL L x fun xs => if xs.length < 1000000 then some (.non, xs ++ [y]) else none
  | _ => .no
theorem mq_append : MtQ X K "list.append" gAppend := ⟨_, mt_append, fun W κ H L x vs u us σ Q rl rx rv h => by
  unfold gAppend at h
  split at h
  · obtain ⟨v, rfl, r1⟩ := rv.one
    obtain ⟨a, xs, us, w, ys, rfl, h1, h2, h3, h4⟩ := chgL_ok h rl rx
    split at h3
    · rename_i hl
      cases h3
      exact ⟨a, us, v, rfl, rfl, h1, by rw [← h2.length, sizeLine_eq]; omega, h4 _ _ .non (h2.append (.cons r1 .nil))⟩
    · cases h3
  · exact h.elim⟩
def gExtend : LV → List LV → M LV := fun x vs L => match vs with
  | [y] => match lview L y with
    | some ys => chgL L x fun xs => if xs.length + ys.length < 1000000 then some (.non, xs ++ ys) else none
    | none => .no
  | _ => .no
theorem mq_extend : MtQ X K "list.extend" gExtend := ⟨_, mt_extend, fun W κ H L x vs u us σ Q rl rx rv h => by
  unfold gExtend at h
  split at h
  · obtain ⟨v, rfl, r1⟩ := rv.one
    split at h
    · rename_i ys hy
      obtain ⟨b, zs, rfl, g1, g2⟩ := lview_ok rl r1 hy
      obtain ⟨a, xs, us, w, ws, rfl, h1, h2, h3, h4⟩ := chgL_ok h rl rx
      split at h3
      · rename_i hl
        cases h3
        exact ⟨a, b, us, zs, rfl, rfl, h1, g1, by rw [← h2.length, ← g2.length, sizeLine_eq]; omega, h4 _ _ .non (h2.append g2)⟩
      · cases h3
    · exact h.elim
  · exact h.elim⟩
def gPop : LV → List LV → M LV := fun x vs L => match vs with
  | [] => chgL L x fun xs => match xs[xs.length - 1]? with
    | some y => some (y, xs.dropLast)
    | none => none
  | _ => .no
theorem RVs.dropLast (r : RVs K κ H xs us) : RVs K κ H xs.dropLast us.dropLast := by
  rw [List.dropLast_eq_take, List.dropLast_eq_take, r.length]
  exact r.take _
theorem mq_pop : MtQ X K "list.pop" gPop := ⟨_, mt_pop, fun W κ H L x vs u us σ Q rl rx rv h => by
  unfold gPop at h
  split at h
  · cases rv
    obtain ⟨a, xs, us, w, ws, rfl, h1, h2, h3, h4⟩ := chgL_ok h rl rx
    split at h3
    · rename_i y hy
      cases h3
      obtain ⟨z, h5, h6⟩ := h2.get hy
      exact ⟨a, us, z, rfl, rfl, h1, by rw [← h2.length]; exact h5, h4 _ _ h6 h2.dropLast⟩
    · cases h3
  · exact h.elim⟩
end
end Q
end
section
set_option Elab.async false
set_option linter.all false
set_option maxRecDepth 100000
set_option maxHeartbeats 4000000
namespace Q
open PySem PySem.Spec L2
section
variable {X : Cx} {K : Kt} {κ κ1 κ2 : Kp} {H H1 H2 : Hp} {L : LH} {W : WX} {σ : St} {x y : LV} {u v : V} {xs : List LV} {us : List V} {e e2 o i value tg iter elt : Expr} {es ifs : List Expr} {pos p apos tpos cpos pos' : Pos} {f : Str} {fo fa fb fc fe : Sl → M LV} {fs : Sl → M (List LV)} {ft : Sl → M Bool} {fi : Sl → M IT} {c n : Nat} {gg : LV → Sl → Option Sl} {ix : List Nat}
/-! ### what is walked -/
def itV (xs : List LV) : IT := fun i _ => some xs[i]?
def itL (n : Nat) : IT := fun i L => match L[n]? with
  | some (.lst xs) => some xs[i]?
  | _ => none
def itR (lo : Int) (n : Nat) : IT := fun i _ => some (if i < n then some (.int (lo + i)) else none)
def itS (z : Str) : IT := fun i _ => some ((z.cps[i]?).map fun c => .str ⟨#[c]⟩)
theorem PI.or {w1 w2 : TI} (h1 : PI X tg e w1) (h2 : PI X tg e w2) : PI X tg e (fun σ H R => w1 σ H R ∨ w2 σ H R) :=
  ⟨fun pins s σ H R I h => h.elim (fun h => h1.run pins s σ H R I h) (fun h => h2.run pins s σ H R I h)⟩
theorem itOk_list {a : Addr} (hs : ∀ κ' H', Up K κ H κ' H' → SqL K.K H' a us ∧ RVs K κ' H' xs us) : ItOk K (Itl K.K a) κ H (itV xs) := fun κ' H' L' i u rl => by
  obtain ⟨h1, h2⟩ := hs κ' H' u
  unfold itV
  cases e : xs[i]? with
  | none => exact ⟨us, h1, by rw [← h2.length]; exact List.getElem?_eq_none_iff.mp e⟩
  | some v =>
    obtain ⟨w, h3, h4⟩ := h2.get e
    refine ⟨⟨us, w, h1, h3⟩, fun x H2 ⟨hH, hx⟩ => ?_⟩
    subst hH
    have := hx us h1
    rw [h3] at this
    cases this
    exact ⟨κ', Up.refl, rl, h4⟩
theorem itOk_tup {a : Addr} (hs : ∀ κ' H', Up K κ H κ' H' → SqT K.K H' a us ∧ RVs K κ' H' xs us) : ItOk K (Itt K.K a) κ H (itV xs) := fun κ' H' L' i u rl => by
  obtain ⟨h1, h2⟩ := hs κ' H' u
  unfold itV
  cases e : xs[i]? with
  | none => exact ⟨us, h1, by rw [← h2.length]; exact List.getElem?_eq_none_iff.mp e⟩
  | some v =>
    obtain ⟨w, h3, h4⟩ := h2.get e
    refine ⟨⟨us, w, h1, h3⟩, fun x H2 ⟨hH, hx⟩ => ?_⟩
    subst hH
    have := hx us h1
    rw [h3] at this
    cases this
    exact ⟨κ', Up.refl, rl, h4⟩
theorem itOk_ref {n : Nat} {a : Addr} (ha : κ.ρ[n]? = some a) : ItOk K (Itl K.K a) κ H (itL n) := fun κ' H' L' i u rl => by
  unfold itL
  cases e : L'[n]? with
  | none => trivial
  | some ob =>
    cases ob with
    | lst xs =>
      obtain ⟨b, hb, ha', _, us, h1, h2⟩ := rl.at e (.ref (u.get ha)) (fun z => nomatch z)
      cases hb
      have hq : SqL K.K H' a us := SqL.of h1
      simp only []
      cases e2 : xs[i]? with
      | none => exact ⟨us, hq, by rw [← h2.length]; exact List.getElem?_eq_none_iff.mp e2⟩
      | some v =>
        obtain ⟨w, h3, h4⟩ := h2.get e2
        refine ⟨⟨us, w, hq, h3⟩, fun x H2 ⟨hH, hx⟩ => ?_⟩
        subst hH
        have := hx us hq
        rw [h3] at this
        cases this
        exact ⟨κ', Up.refl, rl, h4⟩
    | _ => trivial
theorem itOk_range {lo : Int} {n : Nat} : ItOk K (Itr lo n) κ H (itR lo n) := fun κ' H' L' i u rl => by
  unfold itR
  by_cases h : i < n
  · rw [if_pos h]
    exact ⟨h, fun x H2 ⟨hH, hx⟩ => by subst hH hx; exact ⟨κ', Up.refl, rl, .int _⟩⟩
  · rw [if_neg h]
    exact Nat.le_of_not_lt h
/-- the items of a value -/
def itOf (x : LV) (L : LH) : Res IT := match x with
  | .tup xs => .ok (itV xs) L
  | .st xs => .ok (itV xs) L
  | .fl xs => .ok (itV xs) L
  | .sl xs => .ok (itV xs) L
  | .ref n => (match L[n]? with
    | some (.lst _) => .ok (itL n) L
    | _ => .no)
  | .str z => .ok (itS z) L
  | _ => .no
def mIt (fo : Sl → M LV) : Sl → M IT := fun s L => (fo s L).bind itOf
theorem rd_up {a : Addr} {o : HO} (u : Up K κ H κ2 H2) (h : κ.F a ∧ Rd H a o) : Rd H2 a o := Rd.same h.2 (u.frz a h.1).2
theorem itOk_str {z : Str} : ItOk K (Its z) κ H (itS z) := fun κ' H' L' i u rl => by
  unfold itS
  cases e : z.cps[i]? with
  | none =>
    show z.cps.size ≤ i
    exact Array.getElem?_eq_none_iff.mp e
  | some c =>
    have hl : i < z.cps.size := by
      obtain ⟨h, _⟩ := Array.getElem?_eq_some_iff.mp e
      exact h
    refine ⟨hl, fun x H2 y => ?_⟩
    have y' : H2 = H' ∧ ∃ c, z.cps[i]? = some c ∧ x = .str ⟨#[c]⟩ := y
    obtain ⟨rfl, c', h1, rfl⟩ := y'
    rw [e] at h1
    cases h1
    exact ⟨κ', Up.refl, rl, .str _⟩
theorem qi_val (hK : X.K = K.K) (he : QE X K W e fo) : QI X K W tg e (mIt fo) := by
  refine PI.weak (PI.or (pi_list he) (PI.or (pi_tup he) (pi_str he))) fun σ H R ⟨κ, s, L, rs, rl, h⟩ => ?_
  unfold mIt at h
  cases q : fo s L with
  | no => rw [q] at h; exact h.elim
  | exc c L1 => rw [q] at h; exact .inl ⟨κ, s, L, rs, rl, by rw [q]; exact h⟩
  | ok x L1 =>
    rw [q] at h
    have h : HV K W σ κ H (fun κ' H' it J => ItOk K J κ' H' it) (itOf x L1) R := h
    have hh : ∀ {Z : VK}, (∀ κ1 H1 u, Up K κ H κ1 H1 → RL K κ1 H1 L1 → RV K κ1 H1 x u → Z u H1) → tE K W fo σ H Z := fun {Z} k => ⟨κ, s, L, rs, rl, by rw [q]; exact k⟩
    cases x with
    | tup xs =>
      refine .inr (.inl (hh fun κ1 H1 u up rl1 rx => ?_))
      cases rx with
      | tup g1 g2 => exact ⟨_, rfl, ⟨_, SqT.of g1.2⟩, by rw [hK]; exact h κ1 H1 _ up rl1 (itOk_tup fun κ' H' u' => ⟨SqT.of ((u'.frz _ g1.1).2.trans g1.2), g2.up u'⟩)⟩
    | st xs =>
      refine .inr (.inl (hh fun κ1 H1 u up rl1 rx => ?_))
      cases rx with
      | st g1 g2 => exact ⟨_, rfl, ⟨_, by rw [hK]; exact g1.sq⟩, by rw [hK]; exact h κ1 H1 _ up rl1 (itOk_tup fun κ' H' u' => ⟨g1.sq, g2.up u'⟩)⟩
    | fl xs =>
      refine .inl (hh fun κ1 H1 u up rl1 rx => ?_)
      cases rx with
      | fl g1 g2 => exact ⟨_, rfl, ⟨_, SqL.of g1.2⟩, by rw [hK]; exact h κ1 H1 _ up rl1 (itOk_list fun κ' H' u' => ⟨SqL.of ((u'.frz _ g1.1).2.trans g1.2), g2.up u'⟩)⟩
    | sl xs =>
      refine .inl (hh fun κ1 H1 u up rl1 rx => ?_)
      cases rx with
      | sl g1 g2 =>
        have all : ∀ κ' H', Up K κ1 H1 κ' H' → SqL K.K H' _ _ := fun κ' H' u' => g1.elim (fun z => .inl (rd_up u' z)) fun z => z.sq
        exact ⟨_, rfl, ⟨_, by rw [hK]; exact all κ1 H1 Up.refl⟩, by rw [hK]; exact h κ1 H1 _ up rl1 (itOk_list fun κ' H' u' => ⟨all κ' H' u', g2.up u'⟩)⟩
    | ref n =>
      have h : HV K W σ κ H (fun κ' H' it J => ItOk K J κ' H' it) (match L1[n]? with
        | some (.lst _) => .ok (itL n) L1
        | _ => .no) R := h
      cases e : L1[n]? with
      | none => rw [e] at h; exact h.elim
      | some ob =>
        rw [e] at h
        cases ob with
        | lst zs =>
          refine .inl (hh fun κ1 H1 u up rl1 rx => ?_)
          obtain ⟨a, rfl, ha, _, us, h1, h2⟩ := rl1.at e rx (fun z => nomatch z)
          exact ⟨_, rfl, ⟨us, SqL.of h1⟩, by rw [hK]; exact h κ1 H1 _ up rl1 (itOk_ref ha)⟩
        | _ => exact h.elim
    | str z =>
      refine .inr (.inr (hh fun κ1 H1 u up rl1 rx => ?_))
      cases rx
      exact ⟨z, rfl, h κ1 H1 _ up rl1 itOk_str⟩
    | _ => exact h.elim
/-! ### range, enumerate, zip -/
def range1 : List LV → LH → Res IT := fun xs L => match xs with
  | [.int j] => if -1000000000 < j ∧ j < 1000000000 then .ok (itR 0 j.toNat) L else .no
  | _ => .no
def range2 : List LV → LH → Res IT := fun xs L => match xs with
  | [.int i, .int j] => if -1000000000 < i ∧ i < 1000000000 ∧ -1000000000 < j ∧ j < 1000000000 then .ok (itR i (j - i).toNat) L else .no
  | _ => .no
def mI (g : List LV → LH → Res IT) (fs : Sl → M (List LV)) : Sl → M IT := fun s L => (fs s L).bind g
theorem qi_range1 (hg : Gl X "range") (hm : X.mg "range" = none) (ha : QA X K W [e] fs) (hs : starEach [e] X.env = [(false, eval e X.env)] := by rfl) : QI X K W tg (.Call (.Name "range" p) [e] [] pos) (mI range1 fs) :=
  PI.weak (pi_range1 hg hm ha hs) fun σ H R ⟨κ, s, L, rs, rl, h⟩ => ⟨κ, s, L, rs, rl, (HV.bind (R := RVs K) h).imp fun us H1 ⟨κ1, L1, xs, up, rl1, rx, q⟩ => by
    unfold range1 at q
    split at q
    · obtain ⟨u, rfl, r⟩ := rx.one
      cases r
      split at q
      · exact ⟨_, rfl, by omega, by omega, q κ1 H1 _ Up.refl rl1 itOk_range⟩
      · exact q.elim
    · exact q.elim⟩
theorem qi_range2 (hg : Gl X "range") (hm : X.mg "range" = none) (ha : QA X K W [e, e2] fs) (hs : starEach [e, e2] X.env = [(false, eval e X.env), (false, eval e2 X.env)] := by rfl) (hs2 : starEach [e2] X.env = [(false, eval e2 X.env)] := by rfl) : QI X K W tg (.Call (.Name "range" p) [e, e2] [] pos) (mI range2 fs) :=
  PI.weak (pi_range2 hg hm ha hs hs2) fun σ H R ⟨κ, s, L, rs, rl, h⟩ => ⟨κ, s, L, rs, rl, (HV.bind (R := RVs K) h).imp fun us H1 ⟨κ1, L1, xs, up, rl1, rx, q⟩ => by
    unfold range2 at q
    split at q
    · obtain ⟨u, v, rfl, r1, r2⟩ := rx.two
      cases r1; cases r2
      split at q
      · exact ⟨_, _, rfl, ⟨by omega, by omega, by omega, by omega⟩, q κ1 H1 _ Up.refl rl1 itOk_range⟩
      · exact q.elim
    · exact q.elim⟩
/-- pairs of the place and the item -/
def itEn (xs : List LV) : IT := fun i _ => some ((xs[i]?).map fun v => .tup [.int (i : Nat), v])
theorem itOk_en {a : Addr} (hs : ∀ κ' H', Up K κ H κ' H' → SqL K.K H' a us ∧ RVs K κ' H' xs us) : ItOk K (Ite K.K a) κ H (itEn xs) := fun κ' H' L' i u rl => by
  obtain ⟨h1, h2⟩ := hs κ' H' u
  unfold itEn
  cases e : xs[i]? with
  | none => exact ⟨us, h1, by rw [← h2.length]; exact List.getElem?_eq_none_iff.mp e⟩
  | some v =>
    obtain ⟨w, h3, h4⟩ := h2.get e
    refine ⟨⟨us, w, h1, h3⟩, fun x H2 ⟨T, y, ex, hT, eH, hx⟩ => ?_⟩
    subst ex eH
    have := hx us h1
    rw [h3] at this
    cases this
    exact ⟨κ'.more T, Up.froz rl hT, rl.froz hT, new_tup rl hT (.cons (.int _) (.cons h4 .nil))⟩
def enum1 : List LV → LH → Res IT := fun xs L => match xs with
  | [.fl ys] => .ok (itEn ys) L
  | _ => .no
theorem qi_enum {elts : List Expr} {kk : Nat} (hK : X.K = K.K) (hg : Gl X "enumerate") (hm : X.mg "enumerate" = none) (ha : QA X K W [e] fs) (hs : starEach [e] X.env = [(false, eval e X.env)] := by rfl) :
    QI X K W (.Tuple elts kk tpos) (.Call (.Name "enumerate" p) [e] [] pos) (mI enum1 fs) :=
  PI.weak (pi_enum hg hm ha hs) fun σ H R ⟨κ, s, L, rs, rl, h⟩ => ⟨κ, s, L, rs, rl, (HV.bind (R := RVs K) h).imp fun us H1 ⟨κ1, L1, xs, up, rl1, rx, q⟩ => by
    unfold enum1 at q
    split at q
    · obtain ⟨u, rfl, r⟩ := rx.one
      cases r with
      | fl g1 g2 => exact ⟨_, _, rfl, SqL.of g1.2, by rw [hK]; exact q κ1 H1 _ Up.refl rl1 (itOk_en fun κ' H' u' => ⟨SqL.of ((u'.frz _ g1.1).2.trans g1.2), g2.up u'⟩)⟩
    · exact q.elim⟩
def itEnS (z : Str) : IT := fun i _ => some ((z.cps[i]?).map fun c => .tup [.int (i : Nat), .str ⟨#[c]⟩])
theorem itOk_enS {z : Str} : ItOk K (My.IteS z) κ H (itEnS z) := fun κ' H' L' i u rl => by
  unfold itEnS
  cases e : z.cps[i]? with
  | none =>
    show z.cps.size ≤ i
    exact Array.getElem?_eq_none_iff.mp e
  | some c =>
    have hl : i < z.cps.size := by
      obtain ⟨h, _⟩ := Array.getElem?_eq_some_iff.mp e
      exact h
    refine ⟨hl, fun x H2 ⟨T, c', ex, hT, eH, hc⟩ => ?_⟩
    subst ex eH
    rw [e] at hc
    cases hc
    exact ⟨κ'.more T, Up.froz rl hT, rl.froz hT, new_tup rl hT (.cons (.int _) (.cons (.str _) .nil))⟩
def enumS : List LV → LH → Res IT := fun xs L => match xs with
  | [.str z] => .ok (itEnS z) L
  | _ => .no
theorem qi_enumS {elts : List Expr} {kk : Nat} (hg : Gl X "enumerate") (hm : X.mg "enumerate" = none) (ha : QA X K W [e] fs) (hs : starEach [e] X.env = [(false, eval e X.env)] := by rfl) :
    QI X K W (.Tuple elts kk tpos) (.Call (.Name "enumerate" p) [e] [] pos) (mI enumS fs) :=
  PI.weak (My.pi_enumS hg hm ha hs) fun σ H R ⟨κ, s, L, rs, rl, h⟩ => ⟨κ, s, L, rs, rl, (HV.bind (R := RVs K) h).imp fun us H1 ⟨κ1, L1, xs, up, rl1, rx, q⟩ => by
    unfold enumS at q
    split at q
    · obtain ⟨u, rfl, r⟩ := rx.one
      cases r
      exact ⟨_, rfl, q κ1 H1 _ Up.refl rl1 itOk_enS⟩
    · exact q.elim⟩
def itZip (xs ys : List LV) : IT := fun i _ => some (match xs[i]?, ys[i]? with
  | some v, some w => some (.tup [v, w])
  | _, _ => none)
theorem itOk_zip {a b : Addr} {ys : List LV} {vs : List V} (hs : ∀ κ' H', Up K κ H κ' H' → (SqL K.K H' a us ∧ RVs K κ' H' xs us) ∧ SqL K.K H' b vs ∧ RVs K κ' H' ys vs) : ItOk K (Itz K.K a b) κ H (itZip xs ys) := fun κ' H' L' i u rl => by
  obtain ⟨⟨h1, h2⟩, g1, g2⟩ := hs κ' H' u
  unfold itZip
  cases e : xs[i]? with
  | none => exact ⟨us, vs, h1, g1, .inl (by rw [← h2.length]; exact List.getElem?_eq_none_iff.mp e)⟩
  | some v =>
    cases e2 : ys[i]? with
    | none => exact ⟨us, vs, h1, g1, .inr (by rw [← g2.length]; exact List.getElem?_eq_none_iff.mp e2)⟩
    | some w =>
      obtain ⟨v', h3, h4⟩ := h2.get e
      obtain ⟨w', g3, g4⟩ := g2.get e2
      refine ⟨⟨us, vs, v', w', h1, g1, h3, g3⟩, fun x H2 ⟨T, y, z, ex, hT, eH, hx, hz⟩ => ?_⟩
      subst ex eH
      have := hx us h1
      rw [h3] at this
      cases this
      have := hz vs g1
      rw [g3] at this
      cases this
      exact ⟨κ'.more T, Up.froz rl hT, rl.froz hT, new_tup rl hT (.cons h4 (.cons g4 .nil))⟩
def zip2 : List LV → LH → Res IT := fun xs L => match xs with
  | [.fl ys, .fl zs] => .ok (itZip ys zs) L
  | _ => .no
theorem qi_zip {elts : List Expr} {kk : Nat} (hK : X.K = K.K) (hg : Gl X "zip") (hm : X.mg "zip" = none) (ha : QA X K W [e, e2] fs) (hs : starEach [e, e2] X.env = (false, eval e X.env) :: starEach [e2] X.env := by rfl) (hpl : (backTo pos (starEach [e2] X.env)).any (·.1) = false := by rfl) :
    QI X K W (.Tuple elts kk tpos) (.Call (.Name "zip" p) [e, e2] [] pos) (mI zip2 fs) :=
  PI.weak (pi_zip hg hm ha hs hpl) fun σ H R ⟨κ, s, L, rs, rl, h⟩ => ⟨κ, s, L, rs, rl, (HV.bind (R := RVs K) h).imp fun us H1 ⟨κ1, L1, xs, up, rl1, rx, q⟩ => by
    unfold zip2 at q
    split at q
    · obtain ⟨u, v, rfl, r1, r2⟩ := rx.two
      cases r1 with
      | fl g1 g2 =>
        cases r2 with
        | fl k1 k2 => exact ⟨_, _, _, _, rfl, SqL.of g1.2, SqL.of k1.2, by rw [hK]; exact q κ1 H1 _ Up.refl rl1 (itOk_zip fun κ' H' u' => ⟨⟨SqL.of ((u'.frz _ g1.1).2.trans g1.2), g2.up u'⟩, SqL.of ((u'.frz _ k1.1).2.trans k1.2), k2.up u'⟩)⟩
    · exact q.elim⟩
/-! ### comprehensions -/
def wipeL (s : Sl) : List Nat → Sl
  | [] => s
  | v :: vs => (wipeL s vs).set v none
def lcGo (it : IT) (g : LV → Sl → Option Sl) (tt : Sl → M Bool) (fe : Sl → M LV) (s0 : Sl) : Nat → Nat → List LV → M LV
  | 0, _, _ => fun _ => .no
  | n + 1, i, acc => fun L => match it i L with
    | none => .no
    | some none => .ok (.fl acc) L
    | some (some v) => match g v s0 with
      | none => .no
      | some s1 => match tt s1 L with
        | .ok b L2 => if b = true then (match fe s1 L2 with
          | .ok y L3 => if acc.length < 1000000 then lcGo it g tt fe s0 n (i + 1) (acc ++ [y]) L3 else .no
          | _ => .no) else lcGo it g tt fe s0 n (i + 1) acc L2
        | _ => .no
def mLc (fi : Sl → M IT) (g : LV → Sl → Option Sl) (tt : Sl → M Bool) (fe : Sl → M LV) (vs : List Nat) : Sl → M LV := fun s L => (fi s L).bind fun it L1 => lcGo it g tt fe (wipeL s vs) FUEL 0 [] L1
theorem RS.wipe {s : Sl} (r : RS K κ H s σ) : ∀ vs : List Nat, RS K κ H (wipeL s vs) (wipe σ vs)
  | [] => r
  | v :: vs => by
    have h := RS.wipe r vs
    refine ⟨by unfold wipeL L2.wipe; rw [List.length_set, List.length_set]; exact h.1, fun j w hj => ?_⟩
    unfold wipeL at hj
    unfold L2.wipe
    by_cases e : j = v
    · subst e
      have hl : j < (wipeL s vs).length := by
        have := (List.getElem?_eq_some_iff.mp hj).1
        rwa [List.length_set] at this
      rw [List.getElem?_set_self hl] at hj
      cases hj
    · rw [List.getElem?_set_ne (Ne.symm e)] at hj ⊢
      exact h.2 j w hj
theorem wipe_get {σ : St} {j : Nat} : ∀ {vs : List Nat}, j ∉ vs → (wipe σ vs)[j]? = σ[j]?
  | [], _ => rfl
  | v :: vs, h => by
    unfold wipe
    rw [List.getElem?_set_ne (fun z => h (by simp [z])), wipe_get fun z => h (List.mem_cons_of_mem _ z)]
theorem wipe_at {σ : St} {j : Nat} : ∀ {vs : List Nat}, j ∈ vs → j < σ.length → (wipe σ vs)[j]? = some none
  | v :: vs, h, hl => by
    unfold wipe
    by_cases e : j = v
    · subst e
      exact List.getElem?_set_self (by rw [wipe_length]; exact hl)
    · rw [List.getElem?_set_ne (Ne.symm e)]
      exact wipe_at ((List.mem_cons.mp h).resolve_left e) hl
theorem wipe_eq {σ σ' : St} {vs ix : List Nat} (hl : σ'.length = σ.length) (hx : ∀ j, j ∈ ix → j ∈ vs) (hk : ∀ j, j ∉ ix → σ'[j]? = (wipe σ vs)[j]?) : wipe σ' vs = wipe σ vs := by
  apply List.ext_getElem?
  intro j
  by_cases h : j ∈ vs
  · by_cases h2 : j < σ.length
    · rw [wipe_at h h2, wipe_at h (by rw [hl]; exact h2)]
    · rw [List.getElem?_eq_none (by rw [wipe_length]; omega), List.getElem?_eq_none (by rw [wipe_length]; omega)]
  · rw [wipe_get h, hk j fun z => h (hx j z)]
abbrev W0 : WX := fun _ _ _ _ => False
theorem HV.w0 {α β : Type} {R : Kp → Hp → α → β → Prop} {a : α} {L1 : LH} {Z : β → Hp → Prop} (h : ∀ κ' H' u, Up K κ H κ' H' → RL K κ' H' L1 → R κ' H' a u → Z u H') : HV K W0 σ κ H R (.ok a L1) Z := h
def QTs (X : Cx) (K : Kt) (W : WX) (ifs : List Expr) (f : Sl → M Bool) : Prop := PTs X ifs (tT K W f)
theorem PTs.weak {t u : TT} (h : PTs X ifs t) (k : ∀ σ H Q, u σ H Q → t σ H Q) : PTs X ifs u := ⟨fun pins s σ H Q I q => h.run pins s σ H Q I (k _ _ _ q)⟩
def mYes : Sl → M Bool := fun _ L => .ok true L
theorem qts_nil : QTs X K W [] mYes := PTs.weak pts_nil fun σ H Q ⟨κ, s, L, rs, rl, h⟩ => h κ H true Up.refl rl rfl
theorem qts_one (h : QT X K W e ft) : QTs X K W [e] ft := pts_one h
mutual
theorem RV.more {D : Addr} : ∀ {v : LV} {w : V}, RV K κ H v w → RV K (κ.more D) H v w
  | _, _, .non => .non
  | _, _, .bl b => .bl b
  | _, _, .int i => .int i
  | _, _, .str x => .str x
  | _, _, .ref h => .ref h
  | _, _, .tup h r => .tup ⟨.inl h.1, h.2⟩ (RVs.more r)
  | _, _, .st h r => .st h (RVs.more r)
  | _, _, .fl h r => .fl ⟨.inl h.1, h.2⟩ (RVs.more r)
  | _, _, .sl h r => .sl (h.imp (fun ⟨a, b⟩ => ⟨.inl a, b⟩) id) (RVs.more r)
  | _, _, .adr a => .adr a
  | _, _, .ty n => .ty n
theorem RVs.more {D : Addr} : ∀ {v : List LV} {w : List V}, RVs K κ H v w → RVs K (κ.more D) H v w
  | _, _, .nil => .nil
  | _, _, .cons h r => .cons (RV.more h) (RVs.more r)
end
theorem Keyed.more {T : Type} {D : Addr} : ∀ {a : List (T × LV)} {b : List (T × V)}, Keyed K κ H a b → Keyed K (κ.more D) H a b
  | _, _, .nil => .nil
  | _, _, .cons h r => .cons ⟨h.1, h.2.more⟩ (Keyed.more r)
theorem RL.more {D : Addr} (r : RL K κ H L) (hD : H D ≠ none) (nρ : D ∉ κ.ρ) (nT : ∀ ps, H D ≠ some (.tbl ps)) : RL K (κ.more D) H L where
  len := r.len
  nd := r.nd
  liv := r.liv
  fz := fun b hb => hb.elim (r.fz b) fun (z : b = D) => by rw [z]; exact hD
  obj := fun n o a h1 h2 => by
    rcases r.obj n o a h1 h2 with z | ⟨z1, z2⟩
    · exact .inl z
    · refine .inr ⟨fun w => w.elim z1 fun (z : a = D) => nρ (by rw [← z]; exact List.mem_of_getElem? h2), ?_⟩
      cases o with
      | lst xs => obtain ⟨us, q1, q2⟩ := z2; exact ⟨us, q1, q2.more⟩
      | dK kvs => obtain ⟨us, q1, q2⟩ := z2; exact ⟨us, q1, q2.more⟩
      | dT kvs => obtain ⟨us, q1, q2⟩ := z2; exact ⟨us, q1, q2.more⟩
      | ins C fs => obtain ⟨dx, us, q1, q2⟩ := z2; exact ⟨dx, us, q1, q2.more⟩
      | dead => trivial
  tab := fun P hP => by
    obtain ⟨⟨ps, e, t⟩, n1, n2⟩ := r.tab P hP
    exact ⟨⟨ps, e, t⟩, fun z => z.elim n1 fun (z : P = D) => nT ps (by rw [← z]; exact e), n2⟩
  tls := fun p hp => by
    obtain ⟨⟨ps, e, t⟩, n1, n2, n3⟩ := r.tls p hp
    exact ⟨⟨ps, e, t⟩, fun z => z.elim n1 fun (z : p.1 = D) => nT ps (by rw [← z]; exact e), n2, n3⟩
theorem Up.more {D : Addr} (u : Up K κ H κ2 H2) (hD : H D = none) : Up K κ H (κ2.more D) H2 :=
  ⟨u.pre, u.new, fun a ha => ⟨.inl (u.frz a ha).1, (u.frz a ha).2⟩, u.oth, u.tbl, fun a ha => ha.elim (u.fnew a) fun (z : a = D) => .inr (.inl (by rw [z]; exact hD)), u.lam⟩
theorem Up.notρ {D : Addr} (u : Up K κ H κ2 H2) (hD : H D ≠ none) (n : D ∉ κ.ρ) : D ∉ κ2.ρ := fun h => (u.new D h).elim n hD
theorem Up.notF {D : Addr} (u : Up K κ H κ2 H2) (hD : H D ≠ none) (n : D ∉ κ.ρ) (f : ¬ κ.F D) : ¬ κ2.F D := fun h => (u.fnew D h).elim f fun z => z.elim hD n
theorem Up.lst {D : Addr} {l : List V} (u : Up K κ H κ2 H2) (hD : H D = some (.lst l)) (n : D ∉ κ.ρ) : H2 D = some (.lst l) := by
  rcases u.oth D _ hD n with ⟨ps, z⟩ | z
  · cases z
  · exact z
theorem lc_ok {J : It} {it : IT} {s : Sl} {vs : List Nat} {Z : VK} (ok : ItOk K J κ H it) (rs : RS K κ H s σ) (rl : RL K κ H L) (hv : ∀ j, j ∈ ix → j ∈ vs) (h : HV K W σ κ H (RV K) (lcGo it gg ft fe (wipeL s vs) FUEL 0 [] L) Z) (D : Addr) (hD : H D = none) :
    ∃ Wi : Nat → Nat → Hp → Prop, (∃ m, Wi 0 m (upd H D (.lst []))) ∧ ∀ i m H, Wi i m H → (J.stop i H ∧ Z (.ref D) H) ∨ (J.go i H ∧ ∃ Nx : Hp → Prop, (∀ H', Nx H' → ∃ m', m' < m ∧ Wi (i + 1) m' H') ∧ ∀ x H', J.yld i H x H' →
      tG K gg ix x (wipe σ vs) H' fun σ2 H2 => wipe σ2 vs = wipe σ vs ∧ tT K W0 ft σ2 H2 fun b H3 => if b = true then tE K W0 fe σ2 H3 fun y H4 => ∃ acc, H4 D = some (.lst acc) ∧ acc.length < sizeLine ∧ Nx (upd H4 D (.lst (acc ++ [y]))) else Nx H3) := by
  refine ⟨fun i m H2 => ∃ κ2 L2 acc accv, H2 D = some (.lst accv) ∧ RVs K κ2 H2 acc accv ∧ RL K κ2 H2 L2 ∧ Up K κ H κ2 H2 ∧ D ∉ κ2.ρ ∧ ¬ κ2.F D ∧ HV K W σ κ H (RV K) (lcGo it gg ft fe (wipeL s vs) m i acc L2) Z,
    ⟨FUEL, κ, L, [], [], upd_same, .nil, rl.junk hD, Up.junk rl hD, rl.notρ hD, rl.notF hD, h⟩, ?_⟩
  rintro i m H2 ⟨κ2, L2, acc, accv, hacc, racc, rl2, up2, nρ, nF, q⟩
  cases m with
  | zero => exact q.elim
  | succ m =>
    have o := ok κ2 H2 L2 i up2 rl2
    unfold lcGo at q
    have ne : H2 D ≠ none := by rw [hacc]; exact fun z => nomatch z
    cases e : it i L2 with
    | none => rw [e] at q; exact q.elim
    | some r =>
      rw [e] at q o
      cases r with
      | none => exact .inl ⟨o, q (κ2.more D) H2 _ (up2.more hD) (rl2.more ne nρ fun ps z => by rw [hacc] at z; cases z) (.fl ⟨.inr rfl, hacc⟩ racc.more)⟩
      | some v =>
        simp only [] at q
        obtain ⟨o1, o2⟩ := o
        refine .inr ⟨o1, fun H3 => ∃ κ2 L2 acc accv, H3 D = some (.lst accv) ∧ RVs K κ2 H3 acc accv ∧ RL K κ2 H3 L2 ∧ Up K κ H κ2 H3 ∧ D ∉ κ2.ρ ∧ ¬ κ2.F D ∧ HV K W σ κ H (RV K) (lcGo it gg ft fe (wipeL s vs) m (i + 1) acc L2) Z, fun H3 z => ⟨m, Nat.lt_succ_self m, z⟩, fun x H3 y => ?_⟩
        obtain ⟨κ3, up3, rl3, rx⟩ := o2 x H3 y
        cases eg : gg v (wipeL s vs) with
        | none => rw [eg] at q; exact q.elim
        | some s1 =>
          rw [eg] at q
          simp only [] at q
          refine ⟨κ3, wipeL s vs, v, s1, (rs.wipe vs).up (up2.trans up3), rx, eg, fun σ3 rs3 l3 k3 => ⟨?_, ?_⟩⟩
          · exact wipe_eq (by rw [l3, wipe_length]) hv k3
          · cases et : ft s1 L2 with
            | no => rw [et] at q; exact q.elim
            | exc c L3 => rw [et] at q; exact q.elim
            | ok b L3 =>
              rw [et] at q
              simp only [] at q
              refine ⟨κ3, s1, L2, rs3, rl3, ?_⟩
              rw [et]
              refine HV.w0 fun κ4 H4 b' up4 rl4 eb => ?_
              have eb : b = b' := eb
              subst eb
              have n3 := up3.notρ ne nρ
              have d3 := up3.lst hacc nρ
              have ne3 : H3 D ≠ none := by rw [d3]; exact fun z => nomatch z
              have n4 := up4.notρ ne3 n3
              have d4 := up4.lst d3 n3
              have f3 := up3.notF ne nρ nF
              have f4 := up4.notF ne3 n3 f3
              have ne4 : H4 D ≠ none := by rw [d4]; exact fun z => nomatch z
              cases b with
              | false =>
                rw [if_neg (by decide)]
                rw [if_neg (by decide)] at q
                exact ⟨κ4, L3, acc, accv, d4, (racc.up up3).up up4, rl4, (up2.trans up3).trans up4, n4, f4, q⟩
              | true =>
                rw [if_pos rfl]
                rw [if_pos rfl] at q
                refine ⟨κ4, s1, L3, rs3.up up4, rl4, ?_⟩
                cases ee : fe s1 L3 with
                | no => rw [ee] at q; exact q.elim
                | exc c L4 => rw [ee] at q; exact q.elim
                | ok z L4 =>
                  rw [ee] at q
                  simp only [] at q
                  refine HV.w0 fun κ5 H5 w up5 rl5 rw' => ?_
                  split at q
                  · rename_i hl
                    have n5 := up5.notρ ne4 n4
                    have d5 := up5.lst d4 n4
                    have f5 := up5.notF ne4 n4 f4
                    have k5 : ∀ a, κ5.F a → upd H5 D (.lst (accv ++ [w])) a = H5 a := fun a ha => upd_ne fun z => f5 (z ▸ ha)
                    have racc5 : RVs K κ5 H5 acc accv := ((racc.up up3).up up4).up up5
                    refine ⟨accv, d5, by rw [← racc.length, sizeLine_eq]; omega, κ5, L4, acc ++ [z], accv ++ [w], upd_same, (racc5.append (.cons rw' .nil)).off k5, rl5.off (fun a ha => upd_ne fun z => ?_) (fun _ _ t => TabS.at t fun v e => by rw [d5] at e; cases e; exact ⟨fun _ q => (nomatch q), fun _ q => (nomatch q)⟩), Up.fill rl (((up2.trans up3).trans up4).trans up5) hD d5, n5, f5, q⟩
                    subst z
                    rcases ha with z | z | z
                    · exact f5 z
                    · exact n5 z
                    · obtain ⟨⟨ps, e, _⟩, _⟩ := rl5.tab _ z
                      rw [d5] at e
                      cases e
                  · exact q.elim
theorem qe_lc {scope : Scope} {own : List (Str × Nat)} (hc : X.calm = true) (hN : X.N.Nodup) (hi : QI X K W tg iter fi) (ok : BlkOk X.N X.env.scope scope own) (hv : ∀ j, j ∈ ix → j ∈ own.map (·.2))
    (hg : ∀ (s : Shared) (H : Hp) (C : Addr) (cl : List (Str × Addr)) (fp : List Addr), QG (X.blk s H scope (compEnvC scope cl C X.env) fp) K tg gg ix) (ht : ∀ (s : Shared) (H : Hp) (C : Addr) (cl : List (Str × Addr)) (fp : List Addr), QTs (X.blk s H scope (compEnvC scope cl C X.env) fp) K W0 ifs ft)
    (he : ∀ (s : Shared) (H : Hp) (C : Addr) (cl : List (Str × Addr)) (fp : List Addr), QE (X.blk s H scope (compEnvC scope cl C X.env) fp) K W0 elt fe) (hs : ∀ x, foldedSetIterable iter X.env x = pure x := by intro _; rfl) :
    QE X K W (.ListComp elt [⟨tg, iter, ifs, 0⟩] scope pos) (mLc fi gg ft fe (own.map (·.2))) :=
  PE.weak (pe_lc hc hN hi ok hg ht he hs) fun σ H Q ⟨κ, s, L, rs, rl, h⟩ => ⟨κ, s, L, rs, rl, (HV.bind (R := fun κ' H' it J => ItOk K J κ' H' it) h).imp fun J H1 ⟨κ1, L1, it, up, rl1, oki, q⟩ D hD => lc_ok oki (rs.up up) rl1 hv q D hD⟩
end
end Q
end
section
set_option Elab.async false
set_option linter.all false
set_option maxRecDepth 100000
set_option maxHeartbeats 4000000
namespace Q
open PySem PySem.Spec L2
section
variable {X : Cx} {K : Kt} {κ κ1 κ2 : Kp} {H H1 H2 : Hp} {L : LH} {W : WX} {σ : St} {x y : LV} {u v : V} {xs : List LV} {us : List V} {a b c' e e2 o i value tg iter elt : Expr} {es ifs : List Expr} {pos p apos tpos cpos pos' : Pos} {f : Str} {fo fa fb fc fe : Sl → M LV} {fs : Sl → M (List LV)} {ft : Sl → M Bool} {fi : Sl → M IT} {c n : Nat} {gg : LV → Sl → Option Sl} {ix : List Nat}
/-- name = [..] -/
theorem qs_setLc {k : Nat} {z : Str} {py spos : Pos} {scope : Scope} {own : List (Str × Nat)} (hc : X.calm = true) (hN : X.N.Nodup) (hy : X.N[k]? = some z) (hyl : X.env.scope.names.lookup z = some .local)
    (hsw : swapsWith (.ListComp elt [⟨tg, iter, ifs, 0⟩] scope pos) (some (.Name z py)) spos.line X.env = pure true) (hi : QI X K W tg iter fi) (ok : BlkOk X.N X.env.scope scope own) (hv : ∀ j, j ∈ ix → j ∈ own.map (·.2))
    (hg : ∀ (s : Shared) (H : Hp) (C : Addr) (cl : List (Str × Addr)) (fp : List Addr), QG (X.blk s H scope (compEnvC scope cl C X.env) fp) K tg gg ix) (ht : ∀ (s : Shared) (H : Hp) (C : Addr) (cl : List (Str × Addr)) (fp : List Addr), QTs (X.blk s H scope (compEnvC scope cl C X.env) fp) K W0 ifs ft)
    (he : ∀ (s : Shared) (H : Hp) (C : Addr) (cl : List (Str × Addr)) (fp : List Addr), QE (X.blk s H scope (compEnvC scope cl C X.env) fp) K W0 elt fe) (hs : ∀ x, foldedSetIterable iter X.env x = pure x := by intro _; rfl) :
    QS X K W (.Assign [.Name z py] (.ListComp elt [⟨tg, iter, ifs, 0⟩] scope pos) spos) (mAsg (mLc fi gg ft fe (own.map (·.2))) (gN k)) :=
  PS.weak (ps_setLc hc hN hy hyl hsw hi ok hg ht he hs) fun D σ H ⟨κ, s, L, rs, rl, h⟩ => by
    have h' : HV K W σ κ H (RV K) (mLc fi gg ft fe (own.map (·.2)) s L) fun u H1 => D.nx (σ.set k (some u)) H1 := by
      refine (HS.lift (R := RV K) rs h).imp fun u H1 ⟨κ1, L1, x, up, rl1, rx, q⟩ => ?_
      exact q κ1 H1 _ Up.refl rl1 ((rs.up up).set rx k)
    exact ⟨κ, s, L, rs, rl, (HV.bind (R := fun κ' H' it J => ItOk K J κ' H' it) h').imp fun J H1 ⟨κ1, L1, it, up, rl1, oki, q⟩ D hD => lc_ok oki (rs.up up) rl1 hv q D hD⟩
/-! ### slices -/
def tO (K : Kt) (W : WX) (f : Sl → M (Option Int)) : TO := fun σ H Q => ∃ κ s L, RS K κ H s σ ∧ RL K κ H L ∧ HV K W σ κ H (fun _ _ a b => a = b) (f s L) Q
def QO (X : Cx) (K : Kt) (W : WX) (e : Option Expr) (f : Sl → M (Option Int)) : Prop := PO X e (tO K W f)
theorem PO.weak {e : Option Expr} {t u : TO} (h : PO X e t) (k : ∀ σ H Q, u σ H Q → t σ H Q) : PO X e u := ⟨fun pins s σ H Q I q => h.run pins s σ H Q I (k _ _ _ q)⟩
def mNoP : Sl → M (Option Int) := fun _ L => .ok none L
def mPart (f : Sl → M LV) : Sl → M (Option Int) := fun s L => (f s L).bind fun x L1 => match x with
  | .int i => .ok (some i) L1
  | _ => .no
theorem qo_none : QO X K W none mNoP := PO.weak po_none fun σ H Q ⟨κ, s, L, rs, rl, h⟩ => h κ H none Up.refl rl rfl
theorem qo_some (he : QE X K W e fo) : QO X K W (some e) (mPart fo) := PO.weak (po_some he) fun σ H Q ⟨κ, s, L, rs, rl, h⟩ => ⟨κ, s, L, rs, rl, (HV.bind (R := RV K) h).imp fun u H1 ⟨κ1, L1, x, up, rl1, rx, q⟩ => by
  cases x with
  | int i => cases rx; exact ⟨i, rfl, q κ1 H1 _ Up.refl rl1 rfl⟩
  | _ => exact q.elim⟩
def cutL (xs : List LV) (lo hi : Option Int) : List LV := (xs.drop (HT.sIx xs.length 0 lo)).take (HT.sIx xs.length xs.length hi - HT.sIx xs.length 0 lo)
theorem RVs.cut {lo hi : Option Int} (r : RVs K κ H xs us) : RVs K κ H (cutL xs lo hi) (cutV us lo hi) := by
  unfold cutL cutV
  rw [← r.length]
  exact (r.drop _).take _
def gSl : LV → Option Int → Option Int → M LV := fun x lo hi L => match x with
  | .str z => if z.length ≤ 16777216 then .ok (.str (cutS z lo hi)) L else .no
  | .tup xs => if HT.sIx xs.length 0 lo = 0 ∧ HT.sIx xs.length xs.length hi = xs.length then .ok (.tup xs) L else .ok (.tup (cutL xs lo hi)) L
  | .st xs => if HT.sIx xs.length 0 lo = 0 ∧ HT.sIx xs.length xs.length hi = xs.length then .ok (.st xs) L else .ok (.tup (cutL xs lo hi)) L
  | x => match lviewR L x with
    | some xs => .ok (.fl (cutL xs lo hi)) L
    | none => .no
def mSl (fe : Sl → M LV) (fl fh : Sl → M (Option Int)) : Sl → M LV := fun s L => (fe s L).bind fun x L1 => (fl s L1).bind fun lo L2 => (fh s L2).bind fun hi L3 => gSl x lo hi L3
theorem qe_slice {lo hi : Option Expr} {fl fh : Sl → M (Option Int)} {p2 : Pos} (hK : X.K = K.K) (he : QE X K W e fo) (hl : QO X K W lo fl) (hh : QO X K W hi fh) : QE X K W (.Subscript e (.Slice lo hi none p2) pos) (mSl fo fl fh) := by
  refine PE.weak (pe_slice (SlR.or sl_str (SlR.or sl_tupA sl_list)) he hl hh) fun σ H Q ⟨κ, s, L, rs, rl, h⟩ => ⟨κ, s, L, rs, rl, (HV.bind (R := RV K) h).imp fun u H1 ⟨κ1, L1, x, up, rl1, rx, q⟩ => ⟨κ1, s, L1, rs.up up, rl1, (HV.bind (R := fun _ _ a b => a = b) q).imp fun lo H2 ⟨κ2, L2, lo', up2, rl2, e1, q2⟩ =>
    ⟨κ2, s, L2, (rs.up up).up up2, rl2, (HV.bind (R := fun _ _ a b => a = b) q2).imp fun hi H3 ⟨κ3, L3, hi', up3, rl3, e2, q3⟩ => ?_⟩⟩⟩
  have e1 : lo' = lo := e1
  have e2 : hi' = hi := e2
  subst e1 e2
  have rx := (rx.up up2).up up3
  clear q q2 h
  unfold gSl at q3
  have go : ∀ {x : LV} {u : V}, RV K κ3 H3 x u → HV K W σ κ3 H3 (RV K) (match lviewR L3 x with
    | some xs => Res.ok (.fl (cutL xs lo' hi')) L3
    | none => .no) Q → rSlL X.K u lo' hi' H3 Q := fun {x u} rx q => by
    cases e : lviewR L3 x with
    | none => rw [e] at q; exact q.elim
    | some xs =>
      rw [e] at q
      obtain ⟨a, us, rfl, h1, h2⟩ := lviewR_ok rl3 rx e
      exact ⟨a, us, rfl, by rw [hK]; exact h1, fun p hp => q (κ3.more p) _ _ (Up.froz rl3 hp) (rl3.froz hp) (new_fl rl3 hp h2.cut)⟩
  split at q3
  · cases rx
    split at q3
    · exact .inl ⟨_, rfl, by rw [sizeLine_eq]; assumption, q3.now rl3 (.str _)⟩
    · exact q3.elim
  · cases rx with
    | tup g1 g2 =>
      refine .inr (.inl ⟨_, _, rfl, SqT.of g1.2, fun hw => ?_, fun hw p hp => ?_⟩)
      · rw [← g2.length] at hw
        rw [if_pos hw] at q3
        exact q3.now rl3 (.tup g1 g2)
      · rw [← g2.length] at hw
        rw [if_neg hw] at q3
        exact q3 (κ3.more p) _ _ (Up.froz rl3 hp) (rl3.froz hp) (new_tup rl3 hp g2.cut)
  · cases rx with
    | st g1 g2 =>
      refine .inr (.inl ⟨_, _, rfl, by rw [hK]; exact g1.sq, fun hw => ?_, fun hw p hp => ?_⟩)
      · rw [← g2.length] at hw
        rw [if_pos hw] at q3
        exact q3.now rl3 (.st g1 g2)
      · rw [← g2.length] at hw
        rw [if_neg hw] at q3
        exact q3 (κ3.more p) _ _ (Up.froz rl3 hp) (rl3.froz hp) (new_tup rl3 hp g2.cut)
  · exact .inr (.inr (go rx q3))
/-! ### chains of comparisons -/
def mChain (g g' : LV → LV → M LV) (fa fb fc : Sl → M LV) : Sl → M LV := fun s L => (fa s L).bind fun x L1 => (fb s L1).bind fun y L2 => (g x y L2).bind fun z L3 => (toB z L3).bind fun k L4 => if k = true then (fc s L4).bind fun w L5 => g' y w L5 else .ok (.bl false) L4
theorem qe_chain {op op' : CmpOp} {g g' : LV → LV → M LV} (ho : OpQ X K (compareOp op) g) (ho' : OpQ X K (compareOp op') g') (ha : QE X K W a fa) (hb : QE X K W b fb) (hc : QE X K W c' fc)
    (hm : lastMarks [op, op'] [b, c'] = false := by with_unfolding_all rfl) : QE X K W (.Compare a [op, op'] [b, c'] pos) (mChain g g' fa fb fc) := by
  obtain ⟨r, h1, h2⟩ := ho
  obtain ⟨r', h1', h2'⟩ := ho'
  refine PE.weak (pe_chain h1 h1' ha hb hc hm) fun σ H Q ⟨κ, s, L, rs, rl, h⟩ => ⟨κ, s, L, rs, rl, (HV.bind (R := RV K) h).imp fun u H1 ⟨κ1, L1, x, up, rl1, rx, q⟩ => ⟨κ1, s, L1, rs.up up, rl1, (HV.bind (R := RV K) q).imp fun v H2 ⟨κ2, L2, y, up2, rl2, ry, q2⟩ => h2 W κ2 H2 L2 x y u v σ _ rl2 (rx.up up2) ry ((HV.bind (R := RV K) q2).imp fun z H3 ⟨κ3, L3, zl, up3, rl3, rz, q3⟩ => ?_)⟩⟩
  obtain ⟨k, rfl, q4⟩ := toB_bind rz q3
  refine ⟨k, rfl, ?_⟩
  cases k with
  | true =>
    rw [if_pos rfl]
    rw [if_pos rfl] at q4
    exact ⟨κ3, s, L3, ((rs.up up).up up2).up up3, rl3, (HV.bind (R := RV K) q4).imp fun w H4 ⟨κ4, L4, wl, up4, rl4, rw', q5⟩ => h2' W κ4 H4 L4 y wl v w σ Q rl4 ((ry.up up3).up up4) rw' q5⟩
  | false =>
    rw [if_neg (by decide)]
    rw [if_neg (by decide)] at q4
    exact q4.now rl3 (.bl _)
theorem qt_chain {op op' : CmpOp} {g g' : LV → LV → M LV} (ho : OpQ X K (compareOp op) g) (ho' : OpQ X K (compareOp op') g') (ha : QE X K W a fa) (hb : QE X K W b fb) (hc : QE X K W c' fc)
    (hm : lastMarks [op, op'] [b, c'] = false := by with_unfolding_all rfl) : QT X K W (.Compare a [op, op'] [b, c'] pos) (mTest (mChain g g' fa fb fc)) := by
  obtain ⟨r, h1, h2⟩ := ho
  obtain ⟨r', h1', h2'⟩ := ho'
  refine PT.weak (pt_chain h1 h1' ha hb hc hm) fun σ H Q ⟨κ, s, L, rs, rl, h⟩ => ⟨κ, s, L, rs, rl, ?_⟩
  have e : mTest (mChain g g' fa fb fc) s L = (fa s L).bind fun x L1 => (fb s L1).bind fun y L2 => (g x y L2).bind fun z L3 => (toB z L3).bind fun k L4 => if k = true then (fc s L4).bind fun w L5 => (g' y w L5).bind toB else .ok false L4 := by
    unfold mTest mChain
    cases fa s L with
    | ok x L1 =>
      show Res.bind (Res.bind (fb s L1) _) toB = Res.bind (fb s L1) _
      cases fb s L1 with
      | ok y L2 =>
        show Res.bind (Res.bind (g x y L2) _) toB = Res.bind (g x y L2) _
        cases g x y L2 with
        | ok z L3 =>
          show Res.bind (Res.bind (toB z L3) _) toB = Res.bind (toB z L3) _
          cases toB z L3 with
          | ok k L4 =>
            cases k with
            | true =>
              show Res.bind (Res.bind (fc s L4) _) toB = Res.bind (fc s L4) _
              cases fc s L4 <;> rfl
            | false => rfl
          | exc => rfl
          | no => rfl
        | exc => rfl
        | no => rfl
      | exc => rfl
      | no => rfl
    | exc => rfl
    | no => rfl
  rw [e] at h
  refine (HV.bind (R := RV K) h).imp fun u H1 ⟨κ1, L1, x, up, rl1, rx, q⟩ => ⟨κ1, s, L1, rs.up up, rl1, (HV.bind (R := RV K) q).imp fun v H2 ⟨κ2, L2, y, up2, rl2, ry, q2⟩ => h2 W κ2 H2 L2 x y u v σ _ rl2 (rx.up up2) ry ((HV.bind (R := RV K) q2).imp fun z H3 ⟨κ3, L3, zl, up3, rl3, rz, q3⟩ => ?_)⟩
  obtain ⟨k, rfl, q4⟩ := toB_bind rz q3
  refine ⟨k, rfl, ?_⟩
  cases k with
  | true =>
    rw [if_pos rfl]
    rw [if_pos rfl] at q4
    exact ⟨κ3, s, L3, ((rs.up up).up up2).up up3, rl3, (HV.bind (R := RV K) q4).imp fun w H4 ⟨κ4, L4, wl, up4, rl4, rw', q5⟩ => h2' W κ4 H4 L4 y wl v w σ _ rl4 ((ry.up up3).up up4) rw' ((HV.bind (R := RV K) q5).imp fun w H3 ⟨κ3, L3, z, up3, rl3, rz, q3⟩ => toB_ok rl3 rz q3)⟩
  | false =>
    rw [if_neg (by decide)]
    rw [if_neg (by decide)] at q4
    exact ⟨false, rfl, q4 κ3 H3 false Up.refl rl3 rfl⟩
/-! ### truth -/
def truthL (x : LV) (L : LH) : Res Bool := match x with
  | .non => .ok false L
  | .bl b => .ok b L
  | .int i => .ok (i != 0) L
  | .str z => if z.length ≤ 16777216 then .ok ((z.length : Int) != 0) L else .no
  | x => match tview x with
    | some xs => .ok (!xs.isEmpty) L
    | none => match lviewR L x with
      | some xs => .ok (!xs.isEmpty) L
      | none => .no
def mTru (f : Sl → M LV) : Sl → M Bool := fun s L => (f s L).bind truthL
theorem RVs.isEmpty (r : RVs K κ H xs us) : us.isEmpty = xs.isEmpty := by cases r <;> rfl
theorem qt_truth (hK : X.K = K.K) (ha : QE X K W a fa) (he : ∀ whole, isTrue a X.env whole = (do let v ← whole; standAt a.pos; holding [v] (truthy v)) := by intro _; rfl) : QT X K W a (mTru fa) :=
  PT.weak (pt_truth ha he) fun σ H Q ⟨κ, s, L, rs, rl, h⟩ => ⟨κ, s, L, rs, rl, (HV.bind (R := RV K) h).imp fun u H1 ⟨κ1, L1, x, up, rl1, rx, q⟩ => by
    have nw : ∀ {k : Bool}, HV K W σ κ1 H1 RB (.ok k L1) Q → Q k H1 := fun {k} h => h κ1 H1 k Up.refl rl1 rfl
    unfold truthL at q
    split at q
    · cases rx; exact ⟨_, rfl, nw q⟩
    · cases rx; exact ⟨_, rfl, nw q⟩
    · cases rx; exact ⟨_, rfl, nw q⟩
    · cases rx
      split at q
      · exact ⟨_, ⟨by rw [sizeLine_eq]; assumption, rfl⟩, nw q⟩
      · exact q.elim
    · split at q
      · rename_i xs hx
        obtain ⟨a, us, rfl, h1, h2⟩ := tview_ok rx hx
        exact ⟨_, .inr (.inl ⟨us, by rw [hK]; exact h1, rfl⟩), by rw [h2.isEmpty]; exact nw q⟩
      · split at q
        · rename_i xs hx
          obtain ⟨a, us, rfl, h1, h2⟩ := lviewR_ok rl1 rx hx
          exact ⟨_, .inl ⟨us, by rw [hK]; exact h1, rfl⟩, by rw [h2.isEmpty]; exact nw q⟩
        · exact q.elim⟩
/-! ### in -/
def flatL : LV → Bool
  | .non => true | .bl _ => true | .int _ => true | .str _ => true | _ => false
def eqL : LV → LV → Bool
  | .non, .non => true
  | .bl a, .bl b => a == b
  | .bl a, .int b => (if a then 1 else 0) == b
  | .int a, .bl b => a == (if b then 1 else 0)
  | .int a, .int b => a == b
  | .str a, .str b => a == b
  | _, _ => false
theorem flat_ok (rx : RV K κ H x u) (h : flatL x = true) : flatV u = true := by cases rx <;> first | rfl | cases h
theorem eqL_ok (rx : RV K κ H x u) (ry : RV K κ H y v) : eqV u v = eqL x y := by cases rx <;> cases ry <;> rfl
theorem all_ok : ∀ {xs : List LV} {us : List V}, RVs K κ H xs us → xs.all flatL = true → us.all flatV = true
  | _, _, .nil, _ => rfl
  | _, _, .cons h r, f => by
    rw [List.all_cons, Bool.and_eq_true] at f ⊢
    exact ⟨flat_ok h f.1, all_ok r f.2⟩
theorem any_ok (rx : RV K κ H x u) : ∀ {xs : List LV} {us : List V}, RVs K κ H xs us → inV u us = xs.any fun y => eqL y x
  | _, _, .nil => rfl
  | _, _, .cons h r => by
    have ih := any_ok rx r
    unfold inV at ih ⊢
    rw [List.any_cons, List.any_cons, ih, eqL_ok h rx]
def gIn (neg : Bool) : LV → LV → M LV := fun x y L => match x, y with
  | .str a, .str z => match a.cps.toList with
    | [c] => .ok (.bl (if neg then !decide (c ∈ z.cps.toList) else decide (c ∈ z.cps.toList))) L
    | _ => .no
  | x, y => match tview y with
    | some ys => if flatL x = true ∧ ys.all flatL = true then .ok (.bl (if neg then !(ys.any fun y => eqL y x) else ys.any fun y => eqL y x)) L else .no
    | none => match lviewR L y with
      | some ys => if flatL x = true ∧ ys.all flatL = true then .ok (.bl (if neg then !(ys.any fun y => eqL y x) else ys.any fun y => eqL y x)) L else .no
      | none => .no
theorem gIn_ok {neg : Bool} {Q : VK} (h : HV K W σ κ H (RV K) (gIn neg x y L) Q) (rl : RL K κ H L) (rx : RV K κ H x u) (ry : RV K κ H y v) :
    (∃ (c : Nat) (z : Str), u = .str ⟨#[c]⟩ ∧ v = .str z ∧ Q (.bl (if neg then !decide (c ∈ z.cps.toList) else decide (c ∈ z.cps.toList))) H) ∨ rIn K.K neg u v H Q := by
  unfold gIn at h
  split at h
  · cases rx; cases ry
    rename_i a z
    split at h
    · rename_i c hc
      have e : a = ⟨#[c]⟩ := by
        cases a with
        | mk cps =>
          have : cps.toList = [c] := hc
          rw [← Array.toArray_toList (xs := cps), this]
      exact .inl ⟨c, _, by rw [e], rfl, h.now rl (.bl _)⟩
    · exact h.elim
  · split at h
    · rename_i ys hy
      obtain ⟨a, us, rfl, h1, h2⟩ := tview_ok ry hy
      split at h
      · rename_i hf
        refine .inr ⟨a, us, rfl, .inr h1, flat_ok rx hf.1, all_ok h2 hf.2, ?_⟩
        rw [any_ok rx h2]
        exact h.now rl (.bl _)
      · exact h.elim
    · split at h
      · rename_i ys hy
        obtain ⟨a, us, rfl, h1, h2⟩ := lviewR_ok rl ry hy
        split at h
        · rename_i hf
          refine .inr ⟨a, us, rfl, .inl h1, flat_ok rx hf.1, all_ok h2 hf.2, ?_⟩
          rw [any_ok rx h2]
          exact h.now rl (.bl _)
        · exact h.elim
      · exact h.elim
theorem oq_in (hK : X.K = K.K) : OpQ X K (compareOp .In) (gIn false) := ⟨_, OpR.or op_in_sign op_in_seq, fun W κ H L x y u v σ Q rl rx ry h => (gIn_ok h rl rx ry).imp id fun z => by rw [hK]; exact z⟩
theorem oq_notIn (hK : X.K = K.K) : OpQ X K (compareOp .NotIn) (gIn true) := ⟨_, OpR.or op_notIn_sign op_notIn_seq, fun W κ H L x y u v σ Q rl rx ry h => (gIn_ok h rl rx ry).imp id fun z => by rw [hK]; exact z⟩
/-! ### dicts -/
def keyOf : LV → Option Key
  | .int i => some (.inl i)
  | .str x => some (.inr x)
  | _ => none
def keysOf : List LV → Option (List Key)
  | [] => some []
  | x :: xs => match keyOf x, keysOf xs with
    | some k, some ks => some (k :: ks)
    | _, _ => none
theorem keyOf_ok {k : Key} (rx : RV K κ H x u) (h : keyOf x = some k) : u = kV k := by cases rx <;> cases h <;> rfl
theorem keysOf_ok : ∀ {xs : List LV} {us : List V} {ks : List Key}, RVs K κ H xs us → keysOf xs = some ks → us = ks.map kV
  | _, _, _, .nil, h => by cases h; rfl
  | x :: xs, _, ks, .cons r t, h => by
    unfold keysOf at h
    cases e : keyOf x with
    | none => rw [e] at h; cases h
    | some k =>
      cases e2 : keysOf xs with
      | none => rw [e, e2] at h; cases h
      | some ks' =>
        rw [e, e2] at h
        cases h
        rw [List.map_cons, keyOf_ok r e, keysOf_ok t e2]
section
variable {T : Type} [DecidableEq T]
def lookK (kvs : List (T × LV)) (k : T) : Option LV := (kvs.find? fun kv => decide (kv.1 = k)).map (·.2)
def putKL (kvs : List (T × LV)) (k : T) (v : LV) : List (T × LV) := if (kvs.any fun kv => decide (kv.1 = k)) = true then kvs.map (fun kv => if kv.1 = k then (kv.1, v) else kv) else kvs ++ [(k, v)]
def dropKL (kvs : List (T × LV)) (k : T) : List (T × LV) := kvs.filter fun kv => decide (kv.1 ≠ k)
def OptV (K : Kt) (κ : Kp) (H : Hp) : Option LV → Option V → Prop
  | some x, some u => RV K κ H x u
  | none, none => True
  | _, _ => False
theorem Keyed.lookV {k : T} : ∀ {kvs : List (T × LV)} {us : List (T × V)}, Keyed K κ H kvs us → OptV K κ H (lookK kvs k) (valV us k)
  | _, _, .nil => trivial
  | (g, w) :: kvs, (g', w') :: us, .cons h t => by
    have e : g = g' := h.1
    subst e
    unfold lookK valV
    rw [List.find?_cons, List.find?_cons]
    by_cases hk : g = k
    · rw [decide_eq_true hk]; exact h.2
    · rw [decide_eq_false hk]; exact Keyed.lookV t
theorem Keyed.anyV {k : T} : ∀ {kvs : List (T × LV)} {us : List (T × V)}, Keyed K κ H kvs us → (kvs.any fun kv => decide (kv.1 = k)) = (us.any fun kv => decide (kv.1 = k))
  | _, _, .nil => rfl
  | (g, w) :: kvs, (g', w') :: us, .cons h t => by
    have e : g = g' := h.1
    subst e
    rw [List.any_cons, List.any_cons, Keyed.anyV t]
theorem Keyed.append {k : T} {w : LV} {w' : V} (r : RV K κ H w w') : ∀ {kvs : List (T × LV)} {us : List (T × V)}, Keyed K κ H kvs us → Keyed K κ H (kvs ++ [(k, w)]) (us ++ [(k, w')])
  | _, _, .nil => .cons ⟨rfl, r⟩ .nil
  | _, _, .cons h t => .cons h (Keyed.append r t)
theorem Keyed.mapV {k : T} {w : LV} {w' : V} (r : RV K κ H w w') : ∀ {kvs : List (T × LV)} {us : List (T × V)}, Keyed K κ H kvs us → Keyed K κ H (kvs.map fun kv => if kv.1 = k then (kv.1, w) else kv) (us.map fun kv => if kv.1 = k then (kv.1, w') else kv)
  | _, _, .nil => .nil
  | (g, z) :: kvs, (g', z') :: us, .cons h t => by
    have e : g = g' := h.1
    subst e
    rw [List.map_cons, List.map_cons]
    by_cases hk : g = k
    · rw [if_pos hk, if_pos hk]; exact .cons ⟨rfl, r⟩ (Keyed.mapV r t)
    · rw [if_neg hk, if_neg hk]; exact .cons ⟨rfl, h.2⟩ (Keyed.mapV r t)
theorem Keyed.putV {k : T} {w : LV} {w' : V} {kvs : List (T × LV)} {us : List (T × V)} (r : RV K κ H w w') (h : Keyed K κ H kvs us) : Keyed K κ H (putKL kvs k w) (putK us k w') := by
  unfold putKL putK
  rw [h.anyV]
  split
  · exact h.mapV r
  · exact h.append r
theorem Keyed.dropV {k : T} : ∀ {kvs : List (T × LV)} {us : List (T × V)}, Keyed K κ H kvs us → Keyed K κ H (dropKL kvs k) (dropK us k)
  | _, _, .nil => .nil
  | (g, z) :: kvs, (g', z') :: us, .cons h t => by
    have e : g = g' := h.1
    subst e
    unfold dropKL dropK
    rw [List.filter_cons, List.filter_cons]
    by_cases hk : g = k
    · rw [if_neg (by simp [hk]), if_neg (by simp [hk])]; exact Keyed.dropV t
    · rw [if_pos (by simp [hk]), if_pos (by simp [hk])]; exact .cons h (Keyed.dropV t)
end
/-- what the dict x has at y; none: it cannot be told -/
def dGet (L : LH) (x y : LV) : Option (Option LV) := match x with
  | .ref n => match L[n]? with
    | some (.dK kvs) => (keyOf y).map (lookK kvs)
    | some (.dT kvs) => (match y with
      | .tup ys => (keysOf ys).map (lookK kvs)
      | _ => none)
    | _ => none
  | _ => none
theorem dGet_ok {r : Option LV} (rl : RL K κ H L) (rx : RV K κ H x u) (ry : RV K κ H y v) (h : dGet L x y = some r) : ∃ a ro, u = .ref a ∧ IsD H a ∧ DGet H a v ro ∧ OptV K κ H r ro := by
  unfold dGet at h
  cases x with
  | ref n =>
    simp only [] at h
    cases e : L[n]? with
    | none => rw [e] at h; cases h
    | some ob =>
      rw [e] at h
      cases ob with
      | dK kvs =>
        simp only [Option.map_eq_some_iff] at h
        obtain ⟨k, hk, rfl⟩ := h
        obtain ⟨a, rfl, ha, _, us, h1, h2⟩ := rl.at e rx (fun z => nomatch z)
        rw [keyOf_ok ry hk]
        exact ⟨a, _, rfl, .inl ⟨us, .of h1⟩, DGet.k h1, h2.lookV⟩
      | dT kvs =>
        simp only [] at h
        cases y with
        | tup ys =>
          simp only [Option.map_eq_some_iff] at h
          obtain ⟨ks, hk, rfl⟩ := h
          obtain ⟨a, rfl, ha, _, us, h1, h2⟩ := rl.at e rx (fun z => nomatch z)
          cases ry with
          | tup g1 g2 =>
            have g3 := g1.2
            rw [keysOf_ok g2 hk] at g3
            exact ⟨a, _, rfl, .inr ⟨us, .of h1⟩, DGet.t h1 g3, h2.lookV⟩
        | _ => cases h
      | _ => cases h
  | _ => cases h
def dPut (L : LH) (x y w : LV) : Option LH := match x with
  | .ref n => match L[n]? with
    | some (.dK kvs) => if kvs.length < 1000000 then (keyOf y).map fun k => L.set n (.dK (putKL kvs k w)) else none
    | some (.dT kvs) => if kvs.length < 1000000 then (match y with
      | .tup ys => (keysOf ys).map fun k => L.set n (.dT (putKL kvs k w))
      | _ => none) else none
    | _ => none
  | _ => none
theorem dPut_ok {L' : LH} {w : LV} {w' : V} (rl : RL K κ H L) (rx : RV K κ H x u) (ry : RV K κ H y v) (rw' : RV K κ H w w') (h : dPut L x y w = some L') : ∃ a H', u = .ref a ∧ DPut H a v w' H' ∧ Up K κ H κ H' ∧ RL K κ H' L' := by
  unfold dPut at h
  cases x with
  | ref n =>
    simp only [] at h
    cases e : L[n]? with
    | none => rw [e] at h; cases h
    | some ob =>
      rw [e] at h
      cases ob with
      | dK kvs =>
        simp only [] at h
        split at h
        · rename_i hl
          simp only [Option.map_eq_some_iff] at h
          obtain ⟨k, hk, rfl⟩ := h
          obtain ⟨a, rfl, ha, _, us, h1, h2⟩ := rl.at e rx (fun z => nomatch z)
          rw [keyOf_ok ry hk]
          have up := Up.chg (ho := .dK (putK us k w')) rl e (fun z => nomatch z) ha
          exact ⟨a, _, rfl, DPut.k h1 (by rw [← Keyed.length h2, sizeLine_eq]; omega), up, rl.chg e (fun z => nomatch z) ha ⟨_, upd_same, (Keyed.putV rw' h2).up up⟩⟩
        · cases h
      | dT kvs =>
        simp only [] at h
        split at h
        · rename_i hl
          cases y with
          | tup ys =>
            simp only [Option.map_eq_some_iff] at h
            obtain ⟨ks, hk, rfl⟩ := h
            obtain ⟨a, rfl, ha, _, us, h1, h2⟩ := rl.at e rx (fun z => nomatch z)
            cases ry with
            | tup g1 g2 =>
              have g3 := g1.2
              rw [keysOf_ok g2 hk] at g3
              have up := Up.chg (ho := .dT (putK us ks w')) rl e (fun z => nomatch z) ha
              exact ⟨a, _, rfl, DPut.t h1 g3 (by rw [← Keyed.length h2, sizeLine_eq]; omega), up, rl.chg e (fun z => nomatch z) ha ⟨_, upd_same, (Keyed.putV rw' h2).up up⟩⟩
          | _ => cases h
        · cases h
      | _ => cases h
  | _ => cases h
def gDGet : LV → LV → M LV := fun x y L => match dGet L x y with
  | some (some w) => .ok w L
  | _ => .no
theorem qe_dget (hu : X.A.units + 1 < cLine) (ho : QE X K W o fo) (hi : QE X K W i fb) (hs : NoSl i := by intro _ _; rfl) : QE X K W (.Subscript o i pos) (mOp gDGet fo fb) :=
  PE.weak (pe_dget hu ho hi hs) fun σ H Q ⟨κ, s, L, rs, rl, h⟩ => ⟨κ, s, L, rs, rl, (HV.bind (R := RV K) h).imp fun u H1 ⟨κ1, L1, x, up, rl1, rx, q⟩ => ⟨κ1, s, L1, rs.up up, rl1, (HV.bind (R := RV K) q).imp fun v H2 ⟨κ2, L2, y, up2, rl2, ry, q2⟩ => by
    unfold gDGet at q2
    split at q2
    · rename_i w hw
      obtain ⟨a, ro, rfl, h1, h2, h3⟩ := dGet_ok rl2 (rx.up up2) ry hw
      cases ro with
      | none => exact h3.elim
      | some r => exact ⟨a, r, rfl, h2, q2.now rl2 h3⟩
    · exact q2.elim⟩⟩
def mDIn (neg : Bool) (fy fd : Sl → M LV) : Sl → M LV := fun s L => (fy s L).bind fun y L1 => (fd s L1).bind fun x L2 => match dGet L2 x y with
  | some r => .ok (.bl (if neg then !r.isSome else r.isSome)) L2
  | none => .no
theorem OptV.isSome {r : Option LV} {ro : Option V} (h : OptV K κ H r ro) : ro.isSome = r.isSome := by
  cases r <;> cases ro <;> first | rfl | exact h.elim
theorem dIn_ok {neg : Bool} {Q : VK} {s : Sl} (rs : RS K κ H s σ) (rl : RL K κ H L) (h : HV K W σ κ H (RV K) (mDIn neg fb fo s L) Q) :
    tE K W fb σ H fun y H1 => tE K W fo σ H1 fun x H2 => ∃ a o, x = .ref a ∧ DGet H2 a y o ∧ Q (.bl (if neg then !o.isSome else o.isSome)) H2 :=
  ⟨κ, s, L, rs, rl, (HV.bind (R := RV K) h).imp fun v H1 ⟨κ1, L1, y, up, rl1, ry, q⟩ => ⟨κ1, s, L1, rs.up up, rl1, (HV.bind (R := RV K) q).imp fun u H2 ⟨κ2, L2, x, up2, rl2, rx, q2⟩ => by
    cases e : dGet L2 x y with
    | none => rw [e] at q2; exact q2.elim
    | some r =>
      rw [e] at q2
      obtain ⟨a, ro, rfl, h1, h2, h3⟩ := dGet_ok rl2 rx (ry.up up2) e
      exact ⟨a, ro, rfl, h2, by rw [h3.isSome]; exact q2.now rl2 (.bl _)⟩⟩⟩
theorem qe_din (hu : X.A.units + 1 < cLine) (hi : QE X K W i fb) (ho : QE X K W o fo) (hm : behindInMarks .In o = false := by rfl) : QE X K W (.Compare i [.In] [o] pos) (mDIn false fb fo) :=
  PE.weak (pe_cmp (pc_din hu hi ho) hm) fun σ H Q ⟨κ, s, L, rs, rl, h⟩ => dIn_ok rs rl h
theorem qe_dnotin (hu : X.A.units + 1 < cLine) (hi : QE X K W i fb) (ho : QE X K W o fo) (hm : behindInMarks .NotIn o = false := by rfl) : QE X K W (.Compare i [.NotIn] [o] pos) (mDIn true fb fo) :=
  PE.weak (pe_cmp (pc_dnotin hu hi ho) hm) fun σ H Q ⟨κ, s, L, rs, rl, h⟩ => dIn_ok rs rl h
theorem dInT {neg : Bool} {s : Sl} {Q : Bool → Hp → Prop} (h : HV K W σ κ H RB (mTest (mDIn neg fb fo) s L) Q) : HV K W σ κ H (RV K) (mDIn neg fb fo s L) fun z H3 => ∃ k, z = .bl k ∧ Q k H3 :=
  (HV.bind (R := RV K) h).imp fun w H3 ⟨κ3, L3, z, up3, rl3, rz, q3⟩ => toB_ok rl3 rz q3
theorem qt_din (hu : X.A.units + 1 < cLine) (hi : QE X K W i fb) (ho : QE X K W o fo) (hm : behindInMarks .In o = false := by rfl) : QT X K W (.Compare i [.In] [o] pos) (mTest (mDIn false fb fo)) :=
  PT.weak (pt_cmp (pc_din hu hi ho) hm) fun σ H Q ⟨κ, s, L, rs, rl, h⟩ => dIn_ok rs rl (dInT h)
theorem qt_dnotin (hu : X.A.units + 1 < cLine) (hi : QE X K W i fb) (ho : QE X K W o fo) (hm : behindInMarks .NotIn o = false := by rfl) : QT X K W (.Compare i [.NotIn] [o] pos) (mTest (mDIn true fb fo)) :=
  PT.weak (pt_cmp (pc_dnotin hu hi ho) hm) fun σ H Q ⟨κ, s, L, rs, rl, h⟩ => dIn_ok rs rl (dInT h)
/-- d[y] = v -/
def mDPut (fd fy fv : Sl → M LV) : MS := fun s L => lift s (fun v L1 => lift s (fun x L2 => lift s (fun y L3 => match dPut L3 x y v with
  | some L4 => .next s L4
  | none => .no) (fy s L2)) (fd s L1)) (fv s L)
theorem qs_dput (hu : X.A.units + 1 < cLine) (ho : QE X K W o fo) (hi : QE X K W i fb) (hv : QE X K W value fc) (hs : swapsWith value (some (.Subscript o i pos')) pos.line X.env = pure false := by rfl) : QS X K W (.Assign [.Subscript o i pos'] value pos) (mDPut fo fb fc) :=
  PS.weak (ps_dput hu ho hi hv hs) fun D σ H ⟨κ, s, L, rs, rl, h⟩ => ⟨κ, s, L, rs, rl, (HS.lift (R := RV K) rs h).imp fun w H1 ⟨κ1, L1, z, up, rl1, rz, q⟩ => ⟨κ1, s, L1, rs.up up, rl1, (HS.lift (R := RV K) (rs.up up) q).imp fun u H2 ⟨κ2, L2, x, up2, rl2, rx, q2⟩ =>
    ⟨κ2, s, L2, (rs.up up).up up2, rl2, (HS.lift (R := RV K) ((rs.up up).up up2) q2).imp fun v H3 ⟨κ3, L3, y, up3, rl3, ry, q3⟩ => by
      cases e : dPut L3 x y z with
      | none => rw [e] at q3; exact q3.elim
      | some L4 =>
        rw [e] at q3
        obtain ⟨a, H4, rfl, h3, h5, h6⟩ := dPut_ok rl3 (rx.up up3) ry ((rz.up up2).up up3) e
        exact ⟨a, H4, rfl, h3, q3 κ3 _ σ h5 h6 ((((rs.up up).up up2).up up3).up h5)⟩⟩⟩⟩
def mDNew (o : LO) : Sl → M LV := fun _ L => .ok (.ref L.length) (L ++ [o])
theorem qe_dnewK : QE X K W (.Dict [] [] pos) (mDNew (.dK [])) := PE.weak pe_dnewK fun σ H Q ⟨κ, s, L, rs, rl, h⟩ p hp => h (κ.num p) _ _ (Up.numb rl hp) (rl.numb hp ⟨[], upd_same, .nil⟩) (new_ref rl)
theorem qe_dnewT : QE X K W (.Dict [] [] pos) (mDNew (.dT [])) := PE.weak pe_dnewT fun σ H Q ⟨κ, s, L, rs, rl, h⟩ p hp => h (κ.num p) _ _ (Up.numb rl hp) (rl.numb hp ⟨[], upd_same, .nil⟩) (new_ref rl)
def isDL (L : LH) (x : LV) : Bool := match x with
  | .ref n => match L[n]? with
    | some (.dK _) => true
    | some (.dT _) => true
    | _ => false
  | _ => false
theorem isDL_ok (rl : RL K κ H L) (rx : RV K κ H x u) (h : isDL L x = true) : ∃ a, u = .ref a ∧ IsD H a := by
  unfold isDL at h
  cases x with
  | ref n =>
    simp only [] at h
    cases e : L[n]? with
    | none => rw [e] at h; cases h
    | some ob =>
      rw [e] at h
      cases ob with
      | dK kvs =>
        obtain ⟨a, rfl, ha, _, us, h1, h2⟩ := rl.at e rx (fun z => nomatch z)
        exact ⟨a, rfl, .inl ⟨us, .of h1⟩⟩
      | dT kvs =>
        obtain ⟨a, rfl, ha, _, us, h1, h2⟩ := rl.at e rx (fun z => nomatch z)
        exact ⟨a, rfl, .inr ⟨us, .of h1⟩⟩
      | _ => cases h
  | _ => cases h
/-- d.get(y), d.get(y, z) -/
def mDGet1 (fd fy : Sl → M LV) : Sl → M LV := fun s L => (fd s L).bind fun x L1 => if isDL L1 x = true then (fy s L1).bind fun y L2 => (match dGet L2 x y with
  | some r => .ok (r.getD .non) L2
  | none => .no) else .no
def mDGet2 (fd fy fz : Sl → M LV) : Sl → M LV := fun s L => (fd s L).bind fun x L1 => if isDL L1 x = true then (fy s L1).bind fun y L2 => (fz s L2).bind fun z L3 => (match dGet L3 x y with
  | some r => .ok (r.getD z) L3
  | none => .no) else .no
theorem OptV.getD {r : Option LV} {ro : Option V} (h : OptV K κ H r ro) (rx : RV K κ H x u) : RV K κ H (r.getD x) (ro.getD u) := by
  cases r <;> cases ro <;> first | exact rx | exact h | exact h.elim
theorem qe_dget1 (hu : X.A.units + 1 < cLine) (ho : QE X K W o fo) (he : QE X K W e fb) (m : M1 X o "get" apos e cpos := by exact ⟨by rfl, by rfl, by rfl, by rfl⟩) : QE X K W (.Call (.Attribute o "get" apos) [e] [] cpos) (mDGet1 fo fb) :=
  PE.weak (pe_dget1 hu ho he m) fun σ H Q ⟨κ, s, L, rs, rl, h⟩ => ⟨κ, s, L, rs, rl, (HV.bind (R := RV K) h).imp fun u H1 ⟨κ1, L1, x, up, rl1, rx, q⟩ => by
    split at q
    · rename_i hi
      obtain ⟨a, rfl, hd⟩ := isDL_ok rl1 rx hi
      refine ⟨a, rfl, hd, κ1, s, L1, rs.up up, rl1, (HV.bind (R := RV K) q).imp fun v H2 ⟨κ2, L2, y, up2, rl2, ry, q2⟩ => ?_⟩
      cases e : dGet L2 x y with
      | none => rw [e] at q2; exact q2.elim
      | some r =>
        rw [e] at q2
        obtain ⟨a', ro, ea, h1, h2, h3⟩ := dGet_ok rl2 (rx.up up2) ry e
        cases ea
        exact ⟨ro, h2, q2.now rl2 (h3.getD .non)⟩
    · exact q.elim⟩
theorem qe_dget2 (hu : X.A.units + 1 < cLine) (ho : QE X K W o fo) (he : QE X K W e fb) (hf : QE X K W e2 fc) (m : M2 X o "get" apos e e2 cpos := by exact ⟨by rfl, by rfl, by rfl, by rfl⟩) : QE X K W (.Call (.Attribute o "get" apos) [e, e2] [] cpos) (mDGet2 fo fb fc) :=
  PE.weak (pe_dget2 hu ho he hf m) fun σ H Q ⟨κ, s, L, rs, rl, h⟩ => ⟨κ, s, L, rs, rl, (HV.bind (R := RV K) h).imp fun u H1 ⟨κ1, L1, x, up, rl1, rx, q⟩ => by
    split at q
    · rename_i hi
      obtain ⟨a, rfl, hd⟩ := isDL_ok rl1 rx hi
      refine ⟨a, rfl, hd, κ1, s, L1, rs.up up, rl1, (HV.bind (R := RV K) q).imp fun v H2 ⟨κ2, L2, y, up2, rl2, ry, q2⟩ => ⟨κ2, s, L2, (rs.up up).up up2, rl2, (HV.bind (R := RV K) q2).imp fun w H3 ⟨κ3, L3, z, up3, rl3, rz, q3⟩ => ?_⟩⟩
      cases e : dGet L3 x y with
      | none => rw [e] at q3; exact q3.elim
      | some r =>
        rw [e] at q3
        obtain ⟨a', ro, ea, h1, h2, h3⟩ := dGet_ok rl3 ((rx.up up2).up up3) (ry.up up3) e
        cases ea
        exact ⟨ro, h2, q3.now rl3 (h3.getD rz)⟩
    · exact q.elim⟩
/-! ### exceptions -/
def mRaise (c : Nat) : MS := fun s L => .exc c s L
theorem qs_raise {ex : Expr} (hc : X.calm = true) (tk : Takes X W) (he : PMk X ex (fun _ H Q => Q (.ref (K.cl c)) none H)) : QS X K W (.Raise (some ex) none pos) (mRaise c) :=
  PS.weak (ps_raise hc tk he) fun D σ H ⟨κ, s, L, rs, rl, h⟩ => h κ H σ none Up.refl rl rs
/-- try: .. except X: .. ; m tells which class is caught, none for one that is not asked for -/
def mTry (f : MS) (m : Nat → Option Bool) (g : MS) : MS := fun s L => match f s L with
  | .exc c s1 L1 => (match m c with
    | some true => (match g s1 L1 with
      | .exc _ _ _ => .no
      | r => r)
    | some false => .exc c s1 L1
    | none => .no)
  | r => r
theorem qs_try {z : Str} {cc : Value} {body suite : List Stmt} {b₀ : Stmt} {np : Pos} {f g : MS} {m : Nat → Option Bool} (hK : X.K = K.K) (hs : X.stack = X.env :: X.outer) (hf : X.env.frame = some X.env.locals) (hc : Names X z cc) (tk : Takes X W)
    (hm : ∀ c b, m c = some b → PySem.W.exmOne K.K (.ref (K.cl c)) cc = some b)
    (hb : ∀ (W' : WX) (pn : List (Addr × Obj)) (xe : Value → Shared → Prop), Takes (X.tr pn xe) W' → PassesOwn (model X.prog X.w) X.A X.env xe → QSs (X.tr pn xe) K W' body f)
    (hsu : ∀ (a : Addr) (pn : List (Addr × Obj)), QSs (X.suite a pn) K W0 (b₀ :: suite) g) : QS X K W (.Try body [.ExceptHandler (some (.Name z np)) none (b₀ :: suite) pos'] [] [] pos) (mTry f m g) := by
  refine PS.weak (ps_try_only (tb := fun W' => tS K W' f) (ts := fun _ _ _ => tS K W0 g) (Wout := W) hs hf hc tk hb fun a oe cls d pn _ _ => hsu a _) fun D σ H ⟨κ, s, L, rs, rl, h⟩ => ⟨κ, s, L, rs, rl, ?_⟩
  unfold mTry at h
  cases e : f s L with
  | next s1 L1 => rw [e] at h; exact h
  | ret v L1 => rw [e] at h; exact h
  | brk s1 L1 => rw [e] at h; exact h
  | cont s1 L1 => rw [e] at h; exact h
  | no => rw [e] at h; exact h
  | exc c s1 L1 =>
    rw [e] at h
    simp only [] at h
    intro κ' H' σ' d up rl' rs'
    cases em : m c with
    | none => rw [em] at h; exact h.elim
    | some b =>
      rw [em] at h
      cases b with
      | false => exact ⟨false, by rw [hK]; exact hm c false em, fun (z : false = true) => Bool.noConfusion z, fun _ => h κ' H' σ' d up rl' rs'⟩
      | true =>
        refine ⟨true, by rw [hK]; exact hm c true em, fun _ a _ => ⟨κ', s1, L1, rs', rl', ?_⟩, fun (z : true = false) => Bool.noConfusion z⟩
        simp only [] at h
        cases eg : g s1 L1 with
        | exc c2 s2 L2 => rw [eg] at h; exact h.elim
        | next s2 L2 => rw [eg] at h; exact HS.up (W := W0) (r := .next s2 L2) h up
        | ret v L2 => rw [eg] at h; exact HS.up (W := W0) (r := .ret v L2) h up
        | brk s2 L2 => rw [eg] at h; exact HS.up (W := W0) (r := .brk s2 L2) h up
        | cont s2 L2 => rw [eg] at h; exact HS.up (W := W0) (r := .cont s2 L2) h up
        | no => rw [eg] at h; exact h.elim
/-! ### what stands in the module -/
theorem qe_st {z : Str} {ad : Addr} {zs : List LV} {ws : List V} (hK : X.K = K.K) (hg : Gl X z) (hm : X.mg z = some (.ref ad)) (ht : StT K ad ws) (hv : ∀ κ H, RVs K κ H zs ws) (hd : (z == ("__debug__" : Str)) = false := by decide) : QE X K W (.Name z pos) (mC (.st zs)) :=
  qe_c (pe_glob (v := .ref ad) hg hm rfl hd) fun κ H => .st ht (hv κ H)
theorem qe_gl {z : Str} {v : LV} {w : V} {u : Value} (hg : Gl X z) (hm : X.mg z = some u) (r : RelV w u) (hv : ∀ κ H, RV K κ H v w) (hd : (z == ("__debug__" : Str)) = false := by decide) : QE X K W (.Name z pos) (mC v) :=
  qe_c (pe_glob hg hm r hd) hv
end
end Q
end
section
set_option Elab.async false
set_option linter.all false
set_option maxRecDepth 100000
set_option maxHeartbeats 4000000
/-! Qi: generator expressions whose elements may call and make: walked whole by their consumer -/
namespace Q
open PySem PySem.Spec L2
open PyProof.Rows (AllBare)
open GenW

/-- a generator expression's code -/
abbrev gxCode (elt tg iter : Expr) (ifs : List Expr) (scope : Scope) (pos : Pos) (it : Addr) (env : Env) : Code := .compLoop (.GeneratorExp elt [⟨tg, iter, ifs, 0⟩] scope pos) 0 (.ref it) .none env
theorem gx_frames {A : Around} {outer : List Env} {elt tg iter : Expr} {ifs : List Expr} {scope : Scope} {pos : Pos} {it : Addr} {env : Env} (h : A.frames = some outer) : (A.over (gxCode elt tg iter ifs scope pos it env) []).frames = some (env :: outer) := by
  obtain ⟨hd, d, fr, gs, u⟩ := A
  have h : fr = some outer := h
  subst h
  rfl
theorem gx_room {A : Around} {k : Nat} {elt tg iter : Expr} {ifs : List Expr} {scope : Scope} {pos : Pos} {it : Addr} {env : Env} (r : Room (k + 1) A) : Room k (A.over (gxCode elt tg iter ifs scope pos it env) []) :=
  ⟨r.hd, by have := r.dp; show A.depth + 1 + 3 * k + 5 < _; omega, by have := r.un; show A.units + 3 + 16 * k + 200 < _; omega⟩
/-- the context of its frame -/
abbrev gxc (X : Cx) (A : Around) (s : Shared) (H : Hp) (env : Env) (fp : List Addr) : Cx :=
  { X with A := A, s_0 := s, H_0 := H, env := env, outer := X.stack, stack := env :: X.stack, ex := fp, fn := fun _ => false, calm := true, pn := [], xe := fun _ _ => False }
abbrev gxe (X : Cx) (scope : Scope) (C : Addr) (code : Value) : Env := genEnv scope (cloFrom X.env.cells scope.names []) C code builtinsNs X.env
section
variable {X : Cx} {pins : List (Addr × Obj)} {σ : St} {H H' : Hp} {s s1 s2 : Shared}
theorem gx_start {scope : Scope} {own : List (Str × Nat)} {fp : List Addr} {A : Around} {code itv : Value} (I : Inv X pins σ H s) (ok : BlkOk X.N X.env.scope scope own) (hN : X.N.Nodup) (hcell : ∀ y ∈ scope.names, y.2 ≠ .cell) (hfp : ∀ b ∈ fp, FpOk X pins H b ∧ b < s.heap.objs.size)
    (hA : A.handled = none) (hAf : A.frames = some (gxe X scope s.heap.objs.size code :: X.stack)) (os : s2.os = s.os) (bare : AllBare s2.gens) (kp : ∀ b o, s.heap.get? b = some o → s2.heap.get? b = some o) {m : Str → Option Value} (hn : s2.heap.Ns s.heap.objs.size m) :
    Inv (gxc X A s H (gxe X scope s.heap.objs.size code) fp) [] (wipe σ (own.map (·.2))) H s2 := by
  have has_free : ∀ y ∈ scope.names, y.2 = .free → ∃ c, X.env.cells.lookup y.1 = some c := fun y hy e => by
    rcases ok.free y hy e with k | k
    · exact I.ok.has _ (.inl k)
    · exact I.ok.has _ (.inr k)
  have of_clo : ∀ {y c}, (y, c) ∈ cloFrom X.env.cells scope.names [] → X.env.cells.lookup y = some c ∧ c < s.heap.objs.size := fun {y c} hm => by
    rcases cloFrom_mem hm with hm | ⟨h1, rfl⟩
    · cases hm
    · obtain ⟨c, hc⟩ := has_free _ h1 rfl
      rw [hc]
      obtain ⟨w, z⟩ := I.cell _ _ hc
      exact ⟨rfl, z.lt⟩
  have mem : ∀ {y c}, (cloFrom X.env.cells scope.names []).lookup y = some c → X.env.cells.lookup y = some c ∧ c < s.heap.objs.size := fun {y c} e => of_clo (PySem.mem_of_lookup e)
  have look : ∀ {y}, scope.names.lookup y = some .free → ∃ c, (cloFrom X.env.cells scope.names []).lookup y = some c ∧ X.env.cells.lookup y = some c := fun {y} hl => by
    have hy : (y, NameKind.free) ∈ scope.names := PySem.mem_of_lookup hl
    obtain ⟨c', e'⟩ := mem_lookup (cloFrom_has (cells := X.env.cells) (acc := []) hy)
    exact ⟨c', e', (mem e').1⟩
  have nocell : ∀ {y}, scope.names.lookup y = some .cell → False := fun {y} h => hcell _ (PySem.mem_of_lookup h) rfl
  have ok_frame : (gxc X A s H (gxe X scope s.heap.objs.size code) fp).Ok := by
    refine ⟨I.ok.mod, ok.kind, I.ok.glob, rfl, Nat.le_refl _, fun y z c e1 e2 => I.ok.inj y z c (mem e1).1 (mem e2).1, fun y hy => ?_, fun y c z e => absurd (show false = true from z) (by decide), fun _ => hA, hAf, .inr ⟨rfl, rfl⟩, fun b hb => ⟨Nat.ne_of_lt (hfp b hb).2, fun y c e z => (hfp b hb).1.2.2.2.2.1 y c (mem e).1 z⟩,
      I.bs, Nat.le_trans I.ok.bsz I.sz, fun b o e hb => ?_, fun b hb z => ?_, I.stack, I.stkFree⟩
    · rcases hy with hy | hy
      · exact (nocell hy).elim
      · obtain ⟨c, h1, _⟩ := look hy
        exact ⟨c, h1⟩
    · rcases (hfp b hb).1.2.2.2.1 with z | z
      · exact I.ok.noex b o e z
      · exact absurd (Nat.lt_of_lt_of_le (Heap.lt_size e) (Nat.le_trans I.ok.bsz z)) (Nat.lt_irrefl _)
    · rcases List.mem_cons.mp (I.stkSub b z) with z | z
      · exact (hfp b hb).1.2.1 z
      · exact (hfp b hb).1.2.2.1 z
  refine ⟨ok_frame, os, bare, Un.kept kp, ⟨m, hn, fun i y av e1 e2 e3 => ?_⟩, fun y c e => ?_, I.hok.fresh (Nat.le_refl _), fun y c e => I.freeC y c (mem e).1, fun p hp => absurd (show p ∈ ([] : List (Addr × Obj)) ++ [] from hp) (by simp), I.hok.kept kp, by rw [wipe_length]; exact I.len⟩
  · obtain ⟨e2, not_own⟩ := wipe_some e2
    have no : ∀ k, scope.names.lookup y = some k → ¬ (k = .local ∨ k = .cell) := fun k e hh => by
      rcases ok.own _ (PySem.mem_of_lookup e) hh with e' | e'
      · obtain ⟨p, hp, hpy⟩ := List.mem_map.mp e'
        have e3 := ok.ix p hp
        have : p.1 = y := hpy
        rw [this] at e3
        exact not_own (List.mem_map.mpr ⟨p, hp, nodup_ix hN e3 e1⟩)
      · exact e' (List.mem_of_getElem? e1)
    have e3 : Vis scope y := e3
    have is_free : scope.names.lookup y = some .free := by
      rcases e3 with e3 | e3 | e3
      · exact (no _ e3 (.inl rfl)).elim
      · exact (no _ e3 (.inr rfl)).elim
      · exact e3
    obtain ⟨m', hn', hl⟩ := I.loc
    have seen_out : Vis X.env.scope y := (ok.free _ (PySem.mem_of_lookup is_free) rfl).elim (fun k => .inr (.inl k)) (fun k => .inr (.inr k))
    obtain ⟨w, r, q⟩ := hl i y av e1 e2 seen_out
    refine ⟨w, r, .inr ⟨.inr is_free, ?_⟩⟩
    obtain ⟨c, h1, h2⟩ := look is_free
    rcases q with ⟨k, _⟩ | ⟨_, c', e', z⟩
    · have k : X.env.scope.names.lookup y = some .local := k
      rcases ok.free _ (PySem.mem_of_lookup is_free) rfl with k' | k' <;> rw [show X.env.scope.names.lookup y = _ from k'] at k <;> cases k
    · rw [h2] at e'; cases e'
      exact ⟨c, h1, z.keeps kp⟩
  · obtain ⟨w, z⟩ := I.cell y c (mem e).1
    exact ⟨w, z.keeps kp⟩

def tGx (P : Addr) (wi : TI) (g : TG) (tt : TT) (te : TE) (vs : List Nat) : TGen := fun σ H cont => wi σ H fun J H1 => GxR.TabG H1 P ∧ ∀ H1', Tb P H1 H1' → ∃ W : Nat → Nat → List V → Hp → Prop, (∃ m, W 0 m [] H1') ∧ ∀ i m ys H, W i m ys H →
  (J.stop i H ∧ cont ys H) ∨ (J.go i H ∧ ∃ Nx : List V → Hp → Prop, (∀ ys' H', Nx ys' H' → ∃ m', m' < m ∧ W (i + 1) m' ys' H') ∧ ∀ x H', J.yld i H x H' → g x (wipe σ vs) H' fun σ2 H2 => wipe σ2 vs = wipe σ vs ∧ tt σ2 H2 fun b H3 =>
    if b = true then te σ2 H3 fun y H4 => ys.length < sizeLine ∧ Nx (ys ++ [y]) H4 else Nx ys H3)

/-- the loop -/
theorem gx_loop {elt tg iter : Expr} {ifs : List Expr} {scope : Scope} {gpos : Pos} {it a S : Addr} {go : Obj} {gn : Nat} {genv : Env} {fp : List Addr} {Aw : Around} {g : TG} {tt : TT} {te : TE} {vs : List Nat} {sc : Shared} {Hc : Hp} {J : It} {tn : Nat → Heap → Prop} {cont : List V → Hp → Prop} {W : Nat → Nat → List V → Hp → Prop}
    (hco : scope.isCoroutine = false) (hsc : genv.scope = scope) (T : Turn X.prog X.w X.K tg J fp it tn) (hgo : ∀ h : Heap, h.get? a = some go → h.IsGen a gn) (hgd : ∀ v, go.data ≠ .cell v) (haS : a ≠ S)
    (hX : gxc X (Aw.over (gxCode elt tg iter ifs scope gpos it genv) []) sc Hc genv fp = X') (hA : Apart X' S) (hfS : ∀ b ∈ fp, b ≠ S ∧ b ≠ a)
    (hg : PG X' tg g) (ht : PTs X' ifs tt) (he : PE X' elt te)
    (turn : ∀ i m ys H, W i m ys H → (J.stop i H ∧ cont ys H) ∨ (J.go i H ∧ ∃ Nx : List V → Hp → Prop, (∀ ys' H', Nx ys' H' → ∃ m', m' < m ∧ W (i + 1) m' ys' H') ∧ ∀ x H', J.yld i H x H' → g x (wipe σ vs) H' fun σ2 H2 => wipe σ2 vs = wipe σ vs ∧ tt σ2 H2 fun b H3 =>
      if b = true then te σ2 H3 fun y H4 => ys.length < sizeLine ∧ Nx (ys ++ [y]) H4 else Nx ys H3)) :
    ∀ (m n i : Nat) (ys : List V) (s₀ s : Shared) (H : Hp), n + ys.length = sizeLine → W i m ys H → GI X' S [(a, go)] ys (wipe σ vs) H s → tn i s.heap → (∀ b ∈ fp, H b = none) →
      Seg (model X.prog X.w) Aw (REnd X.prog X.w X.stack Hc sc fp S a gn cont fun _ _ _ => False) (YItem sc S a gn) n s₀ (gxCode elt tg iter ifs scope gpos it genv) ((model X.prog X.w).den (gxCode elt tg iter ifs scope gpos it genv)) [] s := by
  subst hX
  intro m
  induction m using Nat.strongRecOn with
  | ind m ih =>
    intro n i ys s₀ s H hn w hI st nf
    have stat : ∀ {pins' : List (Addr × Obj)} {σ' : St} {H' : Hp} {s' : Shared}, Inv (gxc X (Aw.over (gxCode elt tg iter ifs scope gpos it genv) []) sc Hc genv fp) pins' σ' H' s' → (∀ p ∈ pins', p.1 ∉ fp) → (∀ b ∈ fp, H' b = none) → ∀ b ∈ fp, FpOk (gxc X (Aw.over (gxCode elt tg iter ifs scope gpos it genv) []) sc Hc genv fp) pins' H' b := fun {pins' σ' H' s'} I' hp hn b hb =>
      ⟨hn b hb, (I'.ok.exf b hb).1, I'.ok.exfs b hb, .inl hb, fun x c e => (I'.ok.exf b hb).2 x c e, fun p hp' z => hp p (by simpa using hp') (z ▸ hb)⟩
    obtain ⟨acc, cc, racc, I⟩ := hI
    have np : ∀ p ∈ ((S, lstObj acc cc) :: [(a, go)] : List (Addr × Obj)), p.1 ∉ fp := fun p hp z => by
      rcases List.mem_cons.mp hp with e | e
      · subst e; exact (hfS _ z).1 rfl
      · rw [List.mem_singleton.mp e] at z; exact (hfS _ z).2 rfl
    show Seg _ Aw _ _ _ s₀ _ ((compTurn (.GeneratorExp elt [⟨tg, iter, ifs, 0⟩] scope gpos) 0 (.ref it) .none genv).onRaise (leaving genv)) [] s
    rw [compTurn_gen, Sem.onRaise_eq_wrap]
    refine seg_bind_wrap (wpAny_standAt ?_)
    rcases turn i m ys H w with ⟨stop, qq⟩ | ⟨go', Nx, hNx, step⟩
    · have td := T.done (gxc X (Aw.over (gxCode elt tg iter ifs scope gpos it genv) []) sc Hc genv fp) rfl rfl rfl rfl i _ s _ H (fun _ _ => False) I (stat I np nf) st stop
      refine seg_bind_wrap (thnF td fun r s6 ⟨hr, I6⟩ => ?_)
      subst hr
      refine seg_end (.ok .next) (.inl ⟨.inr rfl, H, ys, acc, cc, I6.os, I6.bare, I6.base, I6.hok, ?_, ?_, racc, by omega, qq⟩)
      · exact (I6.pin (S, lstObj acc cc) (List.mem_append_right _ List.mem_cons_self)).2.1
      · exact (I6.pin (S, lstObj acc cc) (List.mem_append_right _ List.mem_cons_self)).1
    · have ti := T.item (gxc X (Aw.over (gxCode elt tg iter ifs scope gpos it genv) []) sc Hc genv fp) rfl rfl rfl rfl i _ s _ H (fun _ _ => False) I (stat I np nf) st go'
      refine seg_bind_wrap (thnF ti fun r s6 ⟨u, hr, h6⟩ => ?_)
      subst hr
      refine seg_bind_wrap (thnF h6 fun _ s7 ⟨x, H7, I7, r7, y7, st7, n7⟩ => ?_)
      have I7' := I7.pinned (stat I7 np n7) (T.obj _ _ st7)
      refine seg_bind_wrap (thnF (hg.run _ s7 _ H7 x u _ I7' r7 (step x H7 y7)) fun _ s8 ⟨σ8, H8, I8, hw8, q8⟩ => ?_)
      refine seg_bind_wrap (thnF (ht.run _ s8 σ8 H8 _ I8 q8) fun b s9 ⟨H9, I9, q9⟩ => ?_)
      have hl : (wipe σ vs).length = σ8.length := by rw [← hw8, wipe_length]
      -- the turn's end
      have fin : ∀ {ip : List (Addr × Obj)} {acc' : List V} {s' : Shared} {H' : Hp}, GI (gxc X (Aw.over (gxCode elt tg iter ifs scope gpos it genv) []) sc Hc genv fp) S ((a, go) :: pinsAt fp s7.heap) acc' σ8 H' s' →
          GI (gxc X (Aw.over (gxCode elt tg iter ifs scope gpos it genv) []) sc Hc genv fp) S [(a, go)] acc' (wipe σ vs) H' s' ∧ tn (i + 1) s'.heap ∧ (∀ b ∈ fp, H' b = none) := fun {ip acc' s' H'} I' => by
        obtain ⟨ac, c', r', I'⟩ := I'
        have pin' : ∀ b ∈ fp, ∀ o, s7.heap.get? b = some o → s'.heap.get? b = some o ∧ H' b = none := fun b hb o e =>
          let z := I'.pin (b, o) (List.mem_append_right _ (List.mem_cons_of_mem _ (List.mem_cons_of_mem _ (mem_pinsAt hb e))))
          ⟨z.1, z.2.1⟩
        refine ⟨⟨ac, c', r', (I'.pins_of fun p hp => I'.pin p (List.mem_append_right _ ?_)).weak hl fun j v e => ?_⟩, T.keep _ _ _ st7 fun b hb o e => (pin' b hb o e).1, fun b hb => ?_⟩
        · rcases List.mem_cons.mp hp with z | z
          · rw [z]; exact List.mem_cons_self
          · rw [List.mem_singleton.mp z]; exact List.mem_cons_of_mem _ List.mem_cons_self
        · rw [← hw8] at e
          exact (wipe_some e).1
        · obtain ⟨o, e, _⟩ := T.obj _ _ st7 b hb
          exact (pin' b hb o e).2
      cases b with
      | false =>
        simp only [Bool.false_eq_true, if_false] at q9 ⊢
        obtain ⟨m', hm, w'⟩ := hNx ys H9 q9
        obtain ⟨G1, t1, n1⟩ := fin (ip := []) ⟨acc, cc, racc, I9⟩
        exact seg_again rfl (ih m' hm n (i + 1) ys s₀ s9 H9 hn w' G1 t1 n1)
      | true =>
        simp only [if_true] at q9 ⊢
        have hy : ∀ v, yieldOut genv v = yieldValue v := fun v => by simp only [yieldOut, hsc, hco, Bool.false_eq_true, if_false]
        simp only [hy]
        rw [Sem.bind_eq_wrap', Sem.bind_eq_wrap', Sem.wrap_wrap, Sem.wrap_wrap]
        refine seg_wrap (thnF (he.run _ s9 σ8 H9 _ I9 q9) fun v s10 ⟨y, H10, I10, r10, hlt, nx⟩ => ?_)
        obtain ⟨n, rfl⟩ : ∃ n', n = n' + 1 := ⟨n - 1, by omega⟩
        obtain ⟨m', hm, w'⟩ := hNx _ H10 nx
        have G10 : GI (gxc X (Aw.over (gxCode elt tg iter ifs scope gpos it genv) []) sc Hc genv fp) S ((a, go) :: pinsAt fp s7.heap) ys σ8 H10 s10 := ⟨acc, cc, racc, I10⟩
        have size_acc : acc.size = ys.length := by
          have e1 := racc.length
          have e2 : acc.toList.length = acc.size := by simp
          omega
        refine seg_at (seg_yield rfl rfl rfl ⟨I10.os, I10.bare, I10.nolimit, hgo _ (I10.pin (a, go) (List.mem_append_right _ (List.mem_cons_of_mem _ List.mem_cons_self))).1, ⟨acc, cc, (I10.pin (S, lstObj acc cc) (List.mem_append_right _ List.mem_cons_self)).1, by rw [size_acc]; exact hn⟩, fun s' z => ?_⟩)
        have G11 := G10.woken (fun p hp => absurd (show p ∈ ([] : List (Addr × Obj)) from hp) (by simp)) (fun p hp => ?_) hA r10 z
        · obtain ⟨G1, t1, n1⟩ := fin (ip := []) G11
          exact seg_again rfl (ih m' hm n (i + 1) _ s' s' H10 (by rw [List.length_append, List.length_singleton]; omega) w' G1 t1 n1)
        · rcases List.mem_cons.mp hp with e | e
          · rw [e]; exact haS
          · exact (hfS _ (of_pinsAt e).1).1

/-- a generator expression is a generator that has not begun -/
theorem pgen_gx {c P : Addr} {elt tg iter : Expr} {ifs : List Expr} {scope : Scope} {own : List (Str × Nat)} {gpos : Pos} {wi : TI} {g : TG} {tt : TT} {te : TE} {k : Nat}
    (hN : X.N.Nodup) (hdep : X.A.depth < recursionLimit) (TB : GxR.TabB X.base X.mg c P) (hcode : X.env.code = .ref c) (ok : BlkOk X.N X.env.scope scope own) (hcell : ∀ y ∈ scope.names, y.2 ≠ .cell) (hco : scope.isCoroutine = false) (h0 : scope.names.lookup (".0" : Str) = some NameKind.local)
    (hi : PI X tg iter wi)
    (hg : ∀ (A : Around) (s : Shared) (H : Hp) (C : Addr) (code : Value) (fp : List Addr), Room k A → PG (gxc X A s H (gxe X scope C code) fp) tg g)
    (ht : ∀ (A : Around) (s : Shared) (H : Hp) (C : Addr) (code : Value) (fp : List Addr), Room k A → PTs (gxc X A s H (gxe X scope C code) fp) ifs tt)
    (he : ∀ (A : Around) (s : Shared) (H : Hp) (C : Addr) (code : Value) (fp : List Addr), Room k A → PE (gxc X A s H (gxe X scope C code) fp) elt te)
    (hs : ∀ v, genFold iter X.env v = pure v) :
    PGen X (k + 1) (.GeneratorExp elt [⟨tg, iter, ifs, 0⟩] scope gpos) (tGx P wi g tt te (own.map (·.2))) (fun _ _ _ => False) := by
  refine ⟨fun pins s σ H cont I h => ?_⟩
  have has_free : ∀ y ∈ scope.names, y.2 = .free → ∃ c, X.env.cells.lookup y.1 = some c := fun y hy e => by
    rcases ok.free y hy e with k | k
    · exact I.ok.has _ (.inl k)
    · exact I.ok.has _ (.inr k)
  refine wpAny_GeneratorExp_make hco (closure_ok has_free) hcell h0 ok.kind hdep ?_ hs
  refine thn (hi.run pins s σ H _ I h) fun xv s1 hx => thn hx fun itv s2 h2 => ?_
  obtain ⟨it, fp, tn, J, H2, e, I2, T, st2, f2, ⟨ps, hP, ht3⟩, q⟩ := h2
  subst e
  have hPs : s2.heap.get? P = some { cls := .none, data := .fields ps } := I2.hok P _ hP
  have cd : PySem.W.CodeHd s2.heap c P := TB.code.keeps fun b u e => I2.bk b u e
  have fin : ∀ (code : Value) (h3 : Heap) (tk : Nat) (ps' : Array Value), Heap.ExtBut P s2.heap h3 → s2.heap.objs.size ≤ h3.objs.size → h3.get? P = some { cls := .none, data := .fields ps' } → (∃ more, ps' = ps ++ more) → TriplesOk ps'.toList →
      wpAny (model X.prog X.w) X.A (builtinsFor X.env.globals X.env.builtins) (fun bi s₄ =>
        ∀ h', h'.Ns s₄.heap.objs.size (fun y => if y = (".0" : Str) then some (.ref it) else none) → Heap.SameBut s₄.heap.objs.size (s₄.heap.push { cls := .type "frame", data := .dict #[] }) h' →
          (fun u s' => ∃ H1 sc ex, Inv X pins σ H1 sc ∧ ExOk X pins ex ∧ GMade X.prog X.w (k + 1) X.stack H1 sc ex cont (fun _ _ _ => False) u s') (.ref h'.objs.size) { s₄ with
            gens := s₄.gens.push (.fresh (.compStart (.GeneratorExp elt [⟨tg, iter, ifs, 0⟩] scope gpos) 0 (.ref it) .none (genEnv scope (cloFrom X.env.cells scope.names []) s₄.heap.objs.size code bi X.env))),
            toks := s₄.toks + 1 + 1 + 1,
            heap := h'.push { cls := .type "generator", data := .fields #[.int s₄.gens.size 0, .str "<genexpr>" (s₄.toks + 1), .str (X.env.qual ++ "<genexpr>") (s₄.toks + 1 + 1)] } }) X.xe { s2 with heap := h3, toks := tk } := by
    intro code h3 tk ps' hx hsz3 hP3 ⟨more, em⟩ htr
    obtain ⟨bm, ob, e1, e2, e3, e4, e5, e6, e7, e8⟩ := TB.bm
    have keep3 : ∀ b u, b ≠ P → s2.heap.get? b = some u → h3.get? b = some u := fun b u hb e => hx b u hb e
    refine wpAny_builtinsFor (m := X.mg) (by rw [I2.ok.glob]; exact (I2.mod.glob.keeps I2.bk).extBut hx TB.gP) e1 e2 (keep3 _ _ e4 (I2.bk _ _ e5)) e6 e7 e8 ?_
    generalize hs4 : ({ s2 with heap := h3, toks := tk } : Shared) = s4
    have I4 : Inv X pins σ (upd H2 P (.tbl (ps ++ more))) s4 := by
      have J := GxR.inv_tab (more := more) (h' := h3) (g' := s2.gens) (d' := s2.drawn) (t' := tk) I2 hP keep3 (by rw [← em]; exact hP3) I2.bare
      rw [← hs4]
      exact J
    have h34 : s4.heap = h3 := by rw [← hs4]
    have g34 : s4.gens = s2.gens := by rw [← hs4]
    have nP : ∀ b ∈ fp, b ≠ P := fun b hb z => by
      have := (f2 b hb).1
      rw [z, hP] at this
      cases this
    have nf : ∀ b ∈ fp, (upd H2 P (.tbl (ps ++ more))) b = none := fun b hb => by rw [upd_ne (nP b hb)]; exact (f2 b hb).1
    have st4 : tn 0 s4.heap := T.keep _ _ _ st2 fun b hb o e => by rw [h34]; exact keep3 b o (nP b hb) e
    have lt4 : ∀ b ∈ fp, b < s4.heap.objs.size := fun b hb => by
      obtain ⟨o, e, _⟩ := T.obj _ _ st4 b hb
      exact Heap.lt_size e
    obtain ⟨W, ⟨m0, w0⟩, turn⟩ := q (upd H2 P (.tbl (ps ++ more))) ⟨ps, more, hP, by rw [← em]; exact htr, rfl⟩
    generalize hH4 : upd H2 P (.tbl (ps ++ more)) = H4 at I4 nf w0
    intro h' hn' hs'
    have size_acc : h'.objs.size = s4.heap.objs.size + 1 := by rw [hs'.1, Heap.size_push]
    have keep' : ∀ b o, s4.heap.get? b = some o → h'.get? b = some o := fun b o e => hs'.extBut b o (Nat.ne_of_lt (Heap.lt_size e)) (Heap.get?_push_of_some _ e)
    have sg : s4.gens.size = s4.gens.size := rfl
    generalize hgo : ({ cls := .type "generator", data := .fields #[.int s4.gens.size 0, .str "<genexpr>" (s4.toks + 1), .str (X.env.qual ++ "<genexpr>") (s4.toks + 1 + 1)] } : Obj) = go
    have isg : ∀ h : Heap, h.get? h'.objs.size = some go → h.IsGen h'.objs.size s4.gens.size := fun h e => by
      subst hgo
      exact ⟨_, _, _, e, rfl, rfl, rfl⟩
    have god : ∀ v, go.data ≠ .cell v := fun v z => by subst hgo; cases z
    have hpushed : (h'.push go).get? h'.objs.size = some go := by subst hgo; exact Heap.get?_push_size _ rfl
    have keep5 : ∀ b o, s4.heap.get? b = some o → (h'.push go).get? b = some o := fun b o e => Heap.get?_push_of_some _ (keep' b o e)
    refine ⟨H4, s4, fp, I4, fun b hb => ⟨(f2 b hb).2.2.2.1, (f2 b hb).2.1, (f2 b hb).2.2.2.2.1, (f2 b hb).2.2.2.2.2⟩, h'.objs.size, s4.gens.size, _, rfl, by omega, ?_, isg _ hpushed, Array.getElem?_push_size .., rfl, AllBare.push I4.bare rfl, I4.nolimit.keeps keep5, keep5, ?_⟩
    · show _ < (h'.push go).objs.size
      rw [Heap.size_push]; exact Nat.lt_succ_self _
    intro Aw S sw hrw is_free hSx hk2 hSo hos hba
    have hSx' : (h'.push go).objs.size ≤ S := hSx
    rw [Heap.size_push] at hSx'
    have hS1 : s4.heap.objs.size < h'.objs.size := by omega
    have hS2 : h'.objs.size < S := hSx'
    have hS3 : s4.heap.objs.size < S := Nat.lt_trans hS1 hS2
    have kpw : ∀ b o, s4.heap.get? b = some o → sw.heap.get? b = some o := fun b o e => hk2 b o (keep5 b o e)
    have hos' : sw.os = s4.os := hos
    have I5 := gx_start (A := Aw.over (gxCode elt tg iter ifs scope gpos it (gxe X scope s4.heap.objs.size code)) []) (code := code) (itv := .ref it) (s2 := sw) I4 ok hN hcell (fp := fp) (fun b hb => ⟨⟨nf b hb, (f2 b hb).2⟩, lt4 b hb⟩) hrw.hd (gx_frames is_free) hos' hba kpw ((hn'.push _).keeps hk2)
    obtain ⟨cS, heS⟩ := hSo
    have hea : sw.heap.get? h'.objs.size = some go := hk2 h'.objs.size go hpushed
    have young : ∀ b, s4.heap.objs.size < b → H4 b = none ∧ b ≠ s4.heap.objs.size ∧ b ∉ frs X.stack := fun b hb => by
      refine ⟨I4.hok.fresh (Nat.le_of_lt hb), Nat.ne_of_gt hb, fun z => ?_⟩
      rcases List.mem_cons.mp (I4.stkSub b z) with e | e
      · have := I4.lt
        rw [← e] at this
        exact absurd (Nat.lt_trans hb this) (Nat.lt_irrefl _)
      · exact I4.nofs (Nat.le_of_lt hb) e
    have hG : GI (gxc X (Aw.over (gxCode elt tg iter ifs scope gpos it (gxe X scope s4.heap.objs.size code)) []) s4 H4 (gxe X scope s4.heap.objs.size code) fp) S [(h'.objs.size, go)] [] (wipe σ (own.map (·.2))) H4 sw := by
      refine ⟨#[], cS, .nil, I5.pins_of fun p hp => ?_⟩
      rcases List.mem_cons.mp hp with z | z
      · rw [z]
        obtain ⟨y1, y2, y3⟩ := young S hS3
        exact ⟨heS, y1, y2, y3, fun v q => by cases q⟩
      · rw [List.mem_singleton.mp z]
        obtain ⟨y1, y2, y3⟩ := young h'.objs.size hS1
        exact ⟨hea, y1, y2, y3, god⟩
    have hAp : Apart (gxc X (Aw.over (gxCode elt tg iter ifs scope gpos it (gxe X scope s4.heap.objs.size code)) []) s4 H4 (gxe X scope s4.heap.objs.size code) fp) S := by
      refine ⟨Nat.le_of_lt hS3, Nat.ne_of_gt hS3, fun x c e z => ?_⟩
      obtain ⟨v, o, ho, hd⟩ := I5.cell x c e
      rw [z, heS] at ho
      cases ho
      cases hd
    have stw : tn 0 sw.heap := T.keep _ _ _ st4 fun b _ o e => kpw b o e
    have rm := gx_room (elt := elt) (tg := tg) (iter := iter) (ifs := ifs) (scope := scope) (pos := gpos) (it := it) (env := gxe X scope s4.heap.objs.size code) hrw
    have loop := gx_loop (gn := s4.gens.size) (sc := s4) (Hc := H4) hco rfl T isg god (Nat.ne_of_lt hS2) rfl hAp (fun b hb => ⟨Nat.ne_of_lt (Nat.lt_trans (lt4 b hb) hS3), Nat.ne_of_lt (Nat.lt_trans (lt4 b hb) hS1)⟩) (hg _ s4 H4 s4.heap.objs.size code fp rm) (ht _ s4 H4 s4.heap.objs.size code fp rm) (he _ s4 H4 s4.heap.objs.size code fp rm) turn
      m0 sizeLine 0 [] sw sw H4 (Nat.add_zero _) w0 hG stw nf
    show Seg _ Aw _ _ _ sw _ ((compStart (.GeneratorExp elt [⟨tg, iter, ifs, 0⟩] scope gpos) 0 (.ref it) .none (gxe X scope s4.heap.objs.size code)).onRaise (leaving (gxe X scope s4.heap.objs.size code))) [] sw
    unfold compStart
    rw [Sem.onRaise_eq_wrap]
    show Seg _ Aw _ _ _ sw _ ((ask >>= _).wrap _ _ _ _) [] sw
    refine seg_bind_wrap (wpAny_askSetting ?_)
    split
    · exact seg_again rfl loop
    · refine seg_bind_wrap (wpAny_rule ?_)
      show Seg _ Aw _ _ _ sw _ ((standAt iter.pos >>= _).wrap _ _ _ _) [] sw
      exact seg_bind_wrap (wpAny_standAt (seg_bind_wrap (T.self _ 0 sw _ _ stw (seg_again rfl loop))))
  refine ⟨I2.nolimit, ?_⟩
  cases hf : codeAmong gpos ps.toList with
  | none =>
    refine wpAny_genexprCodeX hcode (cd.code hPs ht3) (cd.tab hPs) hf fun c' h' tk hx hge hlt hco' _ htab' _ => ?_
    obtain ⟨o1, vs, f1, tf, fl, tg', inF, tx, tt', op, _, _, _, _, _, _, _, _, _, htr, _⟩ := hco'
    exact fin _ h' tk _ hx (Nat.le_trans hge (Nat.le_of_lt hlt)) htab'.2 ⟨_, rfl⟩ htr
  | some cv =>
    refine wpAny_genexprCode_hit hcode (cd.code hPs ht3) hf ?_
    exact fin cv s2.heap s2.toks ps (Heap.ExtBut.refl _ _) (Nat.le_refl _) hPs ⟨#[], by simp⟩ ht3
end
end Q
end
section
set_option Elab.async false
set_option linter.all false
set_option maxRecDepth 100000
set_option maxHeartbeats 4000000
/-! Qj: tuple(generator), list(generator) over values -/
namespace Q
open PySem PySem.Spec L2
open PyProof.Rows (AllBare)
open GenW
abbrev NoX : XK := fun _ _ _ => False
theorem noStop_none {P : Program} {w : World} {outer : List Env} {H : Hp} {sc s : Shared} {e : Value} (c : CX P w outer H sc NoX e s) : False := by
  obtain ⟨_, _, _, _, _, _, _, _, _, _, _, _, h⟩ := c
  exact h
/-- all that a generator hands out, collected -/
theorem collectG {P : Program} {w : World} {outer : List Env} {H : Hp} {sc s : Shared} {ex : List Addr} {cont : List V → Hp → Prop} {A : Around} {k : Nat} {u : Value} {Q' : List Value → Shared → Prop} {E : Value → Shared → Prop}
    (hr : Room (k + 3) A) (hfr : A.frames = some outer) (h : GMade P w k outer H sc ex cont NoX u s)
    (hQ : ∀ (s' : Shared) (acc : List Value) (H' : Hp) (ys : List V), s.heap.objs.size ≤ s'.heap.objs.size → Vals ys acc → ys.length ≤ sizeLine → s'.os = sc.os → AllBare s'.gens → Un (frs outer) ex H H' sc.heap s'.heap → HOk P w H' s'.heap → cont ys H' → Q' acc s') :
    wpAny (model P w) A (collect u) Q' E s := by
  obtain ⟨a, g, c, rfl, ge_a, lt_a, hg, at_g, hos, hb, hl, kept, wake⟩ := h
  have lst_gen : s.heap.objs.size ≠ a := Nat.ne_of_gt lt_a
  have stat_old : cStatics < s.heap.objs.size := let ⟨_, hn, _⟩ := hl; hn.lt
  have lst_stat : s.heap.objs.size ≠ cStatics := Nat.ne_of_gt stat_old
  unfold collect
  refine wpAny_bind (wpAny_runValue (codeAny_builtin F.entry_proto_collect ?_))
  rw [Around.under_plainId F.plain_proto_collect _]
  show wpAny _ A.in1 (newList [] >>= fun l => again (.builtin "list.__iadd__" ⟨[l, .ref a], []⟩)) _ _ s
  refine wpAny_bind (wpAny_newObj_type ?_)
  refine wpAny_pure ⟨plainId_quiet F.plain_list_iadd _, codeAny_builtin F.entry_list_iadd ?_⟩
  rw [Around.under_plainId F.plain_list_iadd _]
  have old1 : ∀ b o, s.heap.get? b = some o → (s.heap.push { cls := .type "list", data := .seq ([] : List Value).toArray }).get? b = some o := fun b o e => Heap.get?_push_of_some _ e
  have old_upd : ∀ (h : Heap) (f : Obj → Obj), (∀ b o, s.heap.get? b = some o → h.get? b = some o) → ∀ b o, s.heap.get? b = some o → (h.update s.heap.objs.size f).get? b = some o := fun h f q b o e =>
    (Heap.get?_update_other _ _ (Ne.symm (Nat.ne_of_lt (Heap.lt_size e)))).trans (q b o e)
  have stays_gen : ∀ {h : Heap}, (∀ b o, s.heap.get? b = some o → h.get? b = some o) → h.IsGen a g := fun {h} q => hg.keeps q
  show wpAny _ A.in1 (Builtin.List.listExtendWith (.ref s.heap.objs.size) (.ref a) (.ref s.heap.objs.size)) _ _ _
  unfold Builtin.List.listExtendWith
  refine wpAny_bind (wpAny_typeOf (Heap.IsGen.typeIs (s := { s with heap := _ }) (stays_gen old1)) ?_)
  have not_same : Builtin.List.listSameRef (.ref s.heap.objs.size) (.ref a) = false := by simp [Builtin.List.listSameRef, lst_gen]
  have no_list : (Value.type "generator" == Value.type "list") = false := by decide
  have no_tuple : (Value.type "generator" == Value.type "tuple") = false := by decide
  simp only [not_same, no_list, no_tuple, Bool.or_false, Bool.false_eq_true, if_false]
  refine wpAny_bind (wpAny_pyIter_gen (s := { s with heap := _ }) (stays_gen old1) ?_)
  refine wpAny_bind (wpAny_holding ?_)
  unfold Builtin.List.listLengthHint
  refine wpAny_bind (wpAny_specialOf (Heap.IsGen.typeIs (s := { s with heap := _ }) (stays_gen old1)) F.gen_no_len ?_)
  show wpAny _ A.in1 (specialOf (Value.ref a) (Str.ofString "__length_hint__") >>= _) _ _ _
  refine wpAny_bind (wpAny_specialOf (Heap.IsGen.typeIs (s := { s with heap := _ }) (stays_gen old1)) F.gen_no_hint ?_)
  refine wpAny_pure ?_
  show wpAny _ A.in1 (rule "list.extend.makes-room" >>= fun _ => Builtin.List.listTouch (.ref s.heap.objs.size) >>= fun _ =>
    again (.builtin "list.extend.loop" ⟨[.ref s.heap.objs.size, .ref a, .ref s.heap.objs.size], []⟩)) _ _ _
  refine wpAny_bind (wpAny_rule ?_)
  have made : (s.heap.push { cls := .type "list", data := .seq ([] : List Value).toArray }).get? s.heap.objs.size = some { cls := .type "list", data := .seq ([] : List Value).toArray } := Heap.get?_push_size _ rfl
  refine wpAny_bind ?_
  show wpAny _ A.in1 (updateSeq s.heap.objs.size (·.push .none) >>= fun _ => updateSeq s.heap.objs.size (·.pop)) _ _ _
  refine wpAny_bind (wpAny_updateSeq made rfl ?_)
  have grown := Heap.get?_update_self (Obj.mapSeq (·.push Value.none)) made rfl
  refine wpAny_updateSeq (hz := by seq_fits) grown rfl ?_
  have shrunk := Heap.get?_update_self (Obj.mapSeq (·.pop)) grown rfl
  have old4 := old_upd _ (Obj.mapSeq (·.pop)) (old_upd _ (Obj.mapSeq (·.push Value.none)) old1)
  refine wpAny_pure ⟨plainId_quiet F.plain_extend_loop _, ?_⟩
  refine drain (P := P) (w := w) (outer := outer) (H := H) (sc := sc) (ex := ex) (Q := cont) (EX := NoX) (A := A) (g := g) hr.hd (by have := hr.dp; omega) lst_gen lst_stat
    (fun s' acc c H' ys q1 q2 q3 q4 q5 q6 q7 q8 q9 => ?_) (fun e s' hc => (noStop_none hc).elim)
    sizeLine _ (stays_gen old4) (hl.keeps old4) ⟨_, at_g, rfl, ?_⟩
  · show wpAny _ A (load s.heap.objs.size >>= _) _ _ s'
    refine wpAny_bind (wpAny_load q1 ?_)
    exact wpAny_pure (hQ s' acc.toList H' ys (Nat.le_of_lt (Heap.lt_size q1)) q2 q3 q4 q5 q6 q7 q9)
  refine wake _ _ _ ⟨hr.hd, ?_, ?_⟩ hfr (Nat.le_refl _) old4 ⟨_, shrunk⟩ hos (allBare_setGen (s := { s with heap := _ }) hb rfl)
  · have := hr.dp
    show A.depth + 3 * k + 5 < _
    omega
  · have := hr.un
    show A.units + 1 + 1 + 16 * k + 200 < _
    omega
/-- tuple(g) -/
theorem callTupleG {P : Program} {w : World} {outer : List Env} {H : Hp} {sc s : Shared} {ex : List Addr} {cont : List V → Hp → Prop} {A : Around} {k : Nat} {u : Value} {Q' : Value → Shared → Prop} {E : Value → Shared → Prop}
    (hr : Room (k + 4) A) (hfr : A.frames = some outer) (h : GMade P w k outer H sc ex cont NoX u s)
    (hQ : ∀ (s' : Shared) (acc : List Value) (H' : Hp) (ys : List V), s.heap.objs.size ≤ s'.heap.objs.size → Vals ys acc → ys.length ≤ sizeLine → s'.os = sc.os → AllBare s'.gens → Un (frs outer) ex H H' sc.heap s'.heap → HOk P w H' s'.heap → cont ys H' →
      Q' (.ref s'.heap.objs.size) { s' with heap := s'.heap.push { cls := .type "tuple", data := .seq acc.toArray } }) :
    wpAny (model P w) A (call (.type "tuple") [u]) Q' E s := by
  obtain ⟨a, g, c, eu, ge_a, lt_a, hg, hrest⟩ := id h
  subst eu
  refine callType_codes (Q₁ := fun obj s₁ => s₁.TypeIs obj "tuple" ∧ Q' obj s₁) F.called_tuple (F.typeCall_tuple_1 _) F.entry_object_init ?_ fun obj s₁ h₁ =>
    ⟨h₁.1, F.args_object_init_2 obj _, object_init_meets F.called_tuple.init.lookup F.called_tuple.made (by decide) P w A.in1 _ s₁ ⟨h₁.1, rfl, h₁.2⟩⟩
  refine codeAny_of_tree ?_
  show wpAny _ A.in1.in1 (do checkBuiltinCall "tuple.__new__" ⟨[.type "tuple", .ref a], []⟩; again (.builtin "tuple.__new__" ⟨[.type "tuple", .ref a], []⟩)) _ _ s
  refine wpAny_bind (wpAny_of_eq (F.newCall_tuple_1 _) (wpAny_pure ⟨plainId_quiet F.plain_tuple_new _, codeAny_builtin F.entry_tuple_new ?_⟩))
  rw [Around.under_plainId F.plain_tuple_new _]
  have e_sub := sub_tuple_self
  have e_init := init_tuple_lookup
  have e_made := madeHere_tuple
  have is_gen : s.TypeIs (.ref a) "generator" := hg.typeIs
  have hr2 : Room (k + 3) A.in1.in1 := ⟨hr.hd, by have := hr.dp; show A.depth + 3 * (k + 3) + 5 < _; omega, by have := hr.un; show A.units + 1 + 1 + 16 * (k + 3) + 200 < _; omega⟩
  have hfr2 : A.in1.in1.frames = some outer := hfr
  wp_walk using wpAny_typeOf is_gen, collectG hr2 hfr2 h
  intro s' acc H' ys q0 q1 q2 q3 q4 q5 q6 q7
  show wpAny _ _ (Builtin.Tuple.tupleExact acc.toArray >>= fun v => ret v) _ _ _
  unfold Builtin.Tuple.tupleExact
  have hl : acc.length = ys.length := q1.length.symm
  refine wpAny_bind (wpAny_newObj_type ?_ (by show acc.toArray.size ≤ sizeLine; rw [List.size_toArray, hl]; exact q2))
  refine wpAny_pure ?_
  exact ⟨⟨_, Heap.get?_push_size _ rfl, rfl⟩, hQ s' acc H' ys q0 q1 q2 q3 q4 q5 q6 q7⟩
end Q
end
section
set_option Elab.async false
set_option linter.all false
set_option maxRecDepth 100000
set_option maxHeartbeats 4000000
/-! Qk: generator expressions as functions -/
namespace Q
open PySem PySem.Spec L2
open PyProof.Rows (AllBare)
open GenW
section
variable {X : Cx} {K : Kt} {κ κ1 κ2 : Kp} {H H1 H2 : Hp} {L : LH} {W : WX} {σ : St} {e o tg iter elt : Expr} {es ifs : List Expr} {pos p gpos : Pos} {fe : Sl → M LV} {ft : Sl → M Bool} {fi : Sl → M IT} {c n k : Nat} {gg : LV → Sl → Option Sl} {ix : List Nat}
theorem PGen.weak {t u : TGen} {E : XK} (h : PGen X k e t E) (q : ∀ σ H Q, u σ H Q → t σ H Q) : PGen X k e u E := ⟨fun pins s σ H cont I z => h.run pins s σ H cont I (q _ _ _ z)⟩
def tTupG (tg : TGen) : TE := fun σ H Q => tg σ H fun out H2 => ∀ p, H2 p = none → Q (.ref p) (upd H2 p (.tup out))
theorem pe_tupG {tg : TGen} (h : PGen X k e tg NoX) (hr : Room (k + 4) X.A) (hg : Gl X "tuple") (hm : X.mg "tuple" = none) (he : starEach [e] X.env = (false, eval e X.env) :: starEach [] X.env := by rfl) : PE X (.Call (.Name "tuple" p) [e] [] pos) (tTupG tg) := by
  refine ⟨fun pins s σ H Q I hq => ?_⟩
  refine wpAny_Call_Name_kw (ld_blt I hg hm (PyProof.Rows.boot_tuple) ?_)
  refine PyProof.Rows.callWith_type1 ?_ he rfl
  rw [he]
  show wpAny _ _ (spliced ((false, eval e X.env) :: backTo pos (starEach [] X.env))) _ _ s
  refine Calls.spliced_cons (thn (h.run pins s σ H _ I hq) fun u s1 ⟨H1, sc, ex, I1, hex, hG⟩ => ?_)
  refine Calls.spliced_nil ?_
  refine callTupleG hr I1.ok.frames hG (fun s' acc H' ys q0 q1 hl q3 q4 q5 q6 q7 => ?_)
  have I2 : Inv X pins σ H' s' := I1.call' (ch := ex) q3 q5 q6 q4 hex
  have hn : H' s'.heap.objs.size = none := I2.hok.fresh (Nat.le_refl _)
  exact ⟨.ref s'.heap.objs.size, upd H' s'.heap.objs.size (.tup ys), I2.laid (t' := s'.toks) (fun c o e => Heap.get?_push_of_some _ e) (Nat.le_refl _) (show ObjOk X.prog X.w _ _ _ (.tup ys) from ⟨hl, acc, q1, PyProof.Rows.IsTup.new _ _⟩), rfl, q7 _ hn⟩
/-- what is handed out -/
def RG (K : Kt) : Kp → Hp → LV → List V → Prop := fun κ H v us => ∃ xs, v = .fl xs ∧ RVs K κ H xs us
def tGen (K : Kt) (W : WX) (f : Sl → M LV) : TGen := fun σ H cont => ∃ κ s L, RS K κ H s σ ∧ RL K κ H L ∧ HV K W σ κ H (RG K) (f s L) cont
def QGen (X : Cx) (K : Kt) (W : WX) (k : Nat) (e : Expr) (f : Sl → M LV) : Prop := PGen X k e (tGen K W f) NoX
theorem gx_ok {J : It} {it : IT} {s : Sl} {vs : List Nat} {Z : List V → Hp → Prop} {P : Addr} (hP : P ∈ K.T) (ok : ItOk K J κ H it) (rs : RS K κ H s σ) (rl : RL K κ H L) (hv : ∀ j, j ∈ ix → j ∈ vs) (h : HV K W σ κ H (RG K) (lcGo it gg ft fe (wipeL s vs) FUEL 0 [] L) Z) :
    GxR.TabG H P ∧ ∀ H1', Tb P H H1' → ∃ Wi : Nat → Nat → List V → Hp → Prop, (∃ m, Wi 0 m [] H1') ∧ ∀ i m ys H, Wi i m ys H → (J.stop i H ∧ Z ys H) ∨ (J.go i H ∧ ∃ Nx : List V → Hp → Prop, (∀ ys' H', Nx ys' H' → ∃ m', m' < m ∧ Wi (i + 1) m' ys' H') ∧ ∀ x H', J.yld i H x H' →
      tG K gg ix x (wipe σ vs) H' fun σ2 H2 => wipe σ2 vs = wipe σ vs ∧ tT K W0 ft σ2 H2 fun b H3 => if b = true then tE K W0 fe σ2 H3 fun y H4 => ys.length < sizeLine ∧ Nx (ys ++ [y]) H4 else Nx ys H3) := by
  refine ⟨(rl.tab P hP).1, fun H1' hT => ⟨fun i m ys H2 => ∃ κ2 L2 acc, RVs K κ2 H2 acc ys ∧ RL K κ2 H2 L2 ∧ Up K κ H κ2 H2 ∧ HV K W σ κ H (RG K) (lcGo it gg ft fe (wipeL s vs) m i acc L2) Z,
    ⟨FUEL, κ, L, [], .nil, rl.tabbed hP hT, Up.tabbed rl hP hT, h⟩, ?_⟩⟩
  rintro i m ys H2 ⟨κ2, L2, acc, racc, rl2, up2, q⟩
  cases m with
  | zero => exact q.elim
  | succ m =>
    have o := ok κ2 H2 L2 i up2 rl2
    unfold lcGo at q
    cases e : it i L2 with
    | none => rw [e] at q; exact q.elim
    | some r =>
      rw [e] at q o
      cases r with
      | none => exact .inl ⟨o, q κ2 H2 ys up2 rl2 ⟨acc, rfl, racc⟩⟩
      | some v =>
        simp only [] at q
        obtain ⟨o1, o2⟩ := o
        refine .inr ⟨o1, fun ys' H3 => ∃ κ2 L2 acc, RVs K κ2 H3 acc ys' ∧ RL K κ2 H3 L2 ∧ Up K κ H κ2 H3 ∧ HV K W σ κ H (RG K) (lcGo it gg ft fe (wipeL s vs) m (i + 1) acc L2) Z, fun ys' H3 z => ⟨m, Nat.lt_succ_self m, z⟩, fun x H3 y => ?_⟩
        obtain ⟨κ3, up3, rl3, rx⟩ := o2 x H3 y
        cases eg : gg v (wipeL s vs) with
        | none => rw [eg] at q; exact q.elim
        | some s1 =>
          rw [eg] at q
          simp only [] at q
          refine ⟨κ3, wipeL s vs, v, s1, (rs.wipe vs).up (up2.trans up3), rx, eg, fun σ3 rs3 l3 k3 => ⟨?_, ?_⟩⟩
          · exact wipe_eq (by rw [l3, wipe_length]) hv k3
          · cases et : ft s1 L2 with
            | no => rw [et] at q; exact q.elim
            | exc c L3 => rw [et] at q; exact q.elim
            | ok b L3 =>
              rw [et] at q
              simp only [] at q
              refine ⟨κ3, s1, L2, rs3, rl3, ?_⟩
              rw [et]
              refine HV.w0 fun κ4 H4 b' up4 rl4 eb => ?_
              have eb : b = b' := eb
              subst eb
              cases b with
              | false =>
                rw [if_neg (by decide)]
                rw [if_neg (by decide)] at q
                exact ⟨κ4, L3, acc, (racc.up up3).up up4, rl4, (up2.trans up3).trans up4, q⟩
              | true =>
                rw [if_pos rfl]
                rw [if_pos rfl] at q
                refine ⟨κ4, s1, L3, rs3.up up4, rl4, ?_⟩
                cases ee : fe s1 L3 with
                | no => rw [ee] at q; exact q.elim
                | exc c L4 => rw [ee] at q; exact q.elim
                | ok z L4 =>
                  rw [ee] at q
                  simp only [] at q
                  refine HV.w0 fun κ5 H5 w up5 rl5 rw' => ?_
                  split at q
                  · rename_i hl
                    exact ⟨by rw [← racc.length, sizeLine_eq]; omega, κ5, L4, acc ++ [z], (((racc.up up3).up up4).up up5).append (.cons rw' .nil), rl5, ((up2.trans up3).trans up4).trans up5, q⟩
                  · exact q.elim
theorem qgen_gx {c P : Addr} {scope : Scope} {own : List (Str × Nat)} (hP : P ∈ K.T) (hN : X.N.Nodup) (hdep : X.A.depth < recursionLimit) (TB : GxR.TabB X.base X.mg c P) (hcode : X.env.code = .ref c) (ok : BlkOk X.N X.env.scope scope own) (hi : QI X K W tg iter fi) (hv : ∀ j, j ∈ ix → j ∈ own.map (·.2))
    (hg : ∀ (A : Around) (s : Shared) (H : Hp) (C : Addr) (code : Value) (fp : List Addr), Room k A → QG (gxc X A s H (gxe X scope C code) fp) K tg gg ix)
    (ht : ∀ (A : Around) (s : Shared) (H : Hp) (C : Addr) (code : Value) (fp : List Addr), Room k A → QTs (gxc X A s H (gxe X scope C code) fp) K W0 ifs ft)
    (he : ∀ (A : Around) (s : Shared) (H : Hp) (C : Addr) (code : Value) (fp : List Addr), Room k A → QE (gxc X A s H (gxe X scope C code) fp) K W0 elt fe)
    (hcell : ∀ y ∈ scope.names, y.2 ≠ .cell := by decide) (hco : scope.isCoroutine = false := by rfl) (h0 : scope.names.lookup (".0" : Str) = some NameKind.local := by decide)
    (hs : ∀ v, genFold iter X.env v = pure v := by intro _; rfl) :
    QGen X K W (k + 1) (.GeneratorExp elt [⟨tg, iter, ifs, 0⟩] scope gpos) (mLc fi gg ft fe (own.map (·.2))) :=
  PGen.weak (pgen_gx hN hdep TB hcode ok hcell hco h0 hi hg ht he hs) fun σ H Q ⟨κ, s, L, rs, rl, h⟩ => ⟨κ, s, L, rs, rl, (HV.bind (R := fun κ' H' it J => ItOk K J κ' H' it) h).imp fun J H1 ⟨κ1, L1, it, up, rl1, oki, q⟩ => gx_ok hP oki (rs.up up) rl1 hv q⟩
def gTupG : LV → LH → Res LV := fun v L => match v with
  | .fl xs => .ok (.tup xs) L
  | _ => .no
def mTupG (f : Sl → M LV) : Sl → M LV := fun s L => (f s L).bind gTupG
/-- tuple(element for ..) -/
theorem qe_tupG {f : Sl → M LV} (h : QGen X K W k e f) (hr : Room (k + 4) X.A) (hg : Gl X "tuple") (hm : X.mg "tuple" = none) (he : starEach [e] X.env = (false, eval e X.env) :: starEach [] X.env := by rfl) : QE X K W (.Call (.Name "tuple" p) [e] [] pos) (mTupG f) :=
  PE.weak (pe_tupG h hr hg hm he) fun σ H Q ⟨κ, s, L, rs, rl, h⟩ => ⟨κ, s, L, rs, rl, (HV.bind (R := RG K) h).imp fun us H1 ⟨κ1, L1, x, up, rl1, ⟨xs, ex, rx⟩, q⟩ p hp => by
    subst ex
    exact q (κ1.more p) _ _ (Up.froz rl1 hp) (rl1.froz hp) (new_tup rl1 hp rx)⟩
/-- list(element for ..) -/
theorem qe_listG {f : Sl → M LV} (h : QGen X K W k e f) (hr : Room (k + 3) X.A) (hg : Gl X "list") (hm : X.mg "list" = none) (he : starEach [e] X.env = (false, eval e X.env) :: starEach [] X.env := by rfl) : QE X K W (.Call (.Name "list" p) [e] [] pos) f :=
  PE.weak (pe_listG h (fun pins σ H s e s' I c => (noStop_none c).elim) (fun cls d H z => z.elim) hr hg hm Vc.b_list (he := he)) fun σ H Q ⟨κ, s, L, rs, rl, h⟩ => ⟨κ, s, L, rs, rl, by
    cases e : f s L with
    | no => rw [e] at h; exact h.elim
    | exc c L1 => rw [e] at h; exact h
    | ok v L1 =>
      rw [e] at h
      intro κ1 H1 us up rl1 ⟨xs, ex, rx⟩ p hp
      subst ex
      exact h (κ1.more p) _ _ (up.trans (Up.froz rl1 hp)) (rl1.froz hp) (new_fl rl1 hp rx)⟩
end
end Q
end
section
set_option Elab.async false
set_option linter.all false
set_option maxRecDepth 100000
set_option maxHeartbeats 4000000
/-! Ql: a def that is given a lambda and calls it within a try -/
namespace Q
open PySem PySem.Spec L2
section
variable {X : Cx} {K : Kt} {κ κ1 κ2 : Kp} {H H1 H2 : Hp} {L : LH} {W : WX} {σ : St} {pins : List (Addr × Obj)} {s : Shared} {e o : Expr} {pos p : Pos} {fb : Sl → M LV} {c n k : Nat} {P : Addr} {q : Str}
/-- the table of lambdas may have grown by one -/
def Lm (P : Addr) (q : Str) (H H1 : Hp) : Prop := H1 = H ∨ ∃ (ps more : Array Value) (c : Addr), H P = some (.tbl ps) ∧ H c = none ∧ TriplesOk (ps ++ more).toList ∧ LamX.TabS H1 P q ∧ H1 = upd (upd H P (.tbl (ps ++ more))) c (LamX.CodeO c q)
theorem Up.lamd (r : RL K κ H L) (hp : (P, q) ∈ K.TS) (hu : ∀ p ∈ K.TS, p.1 = P → p.2 = q) (h : Lm P q H H1) : Up K κ H κ H1 := by
  rcases h with rfl | ⟨ps, more, c, e, hc, triples, t1, rfl⟩
  · exact Up.refl
  obtain ⟨t, n1, n2, n3⟩ := r.tls _ hp
  have nPc : P ≠ c := ne_of_none e hc
  refine ⟨⟨[], by simp⟩, fun _ h => .inl h, fun a h => ⟨h, ?_⟩, fun b o h n => ?_, fun b qs h => ?_, fun _ h => .inl h, fun p hp' t => ?_⟩
  · rw [upd_ne (show a ≠ c from fun z => r.fz a h (by rw [z]; exact hc)), upd_ne (show a ≠ P from fun z => n1 (by rw [← z]; exact h))]
  · by_cases z : b = P
    · subst z; rw [e] at h; cases h; exact .inl ⟨_, rfl⟩
    · exact .inr (by rw [upd_ne (ne_of_none h hc), upd_ne z]; exact h)
  · by_cases z : b = P
    · subst z; rw [e] at h; cases h
      exact ⟨more, by rw [upd_ne nPc, upd_same], fun _ => triples⟩
    · exact ⟨#[], by rw [upd_ne (ne_of_none h hc), upd_ne z, h]; simp, by simp⟩
  · by_cases z : p.1 = P
    · rw [hu p hp' z, z]; exact t1
    · obtain ⟨qs, e1, e2, e3⟩ := t
      refine ⟨qs, by rw [upd_ne (ne_of_none e1 hc), upd_ne z]; exact e1, e2, fun pos cv hcv => ?_⟩
      obtain ⟨c0, e4, e5⟩ := e3 pos cv hcv
      exact ⟨c0, e4, by rw [upd_ne (ne_of_none e5 hc), upd_ne (show c0 ≠ P from fun z => by rw [z, e] at e5; exact LamX.codeO_ne _ (Option.some.inj e5).symm)]; exact e5⟩
theorem RL.lamd (r : RL K κ H L) (hp : (P, q) ∈ K.TS) (hu : ∀ p ∈ K.TS, p.1 = P → p.2 = q) (h : Lm P q H H1) : RL K κ H1 L := by
  have u := Up.lamd r hp hu h
  rcases h with rfl | ⟨ps, more, c, e, hc, triples, t1, rfl⟩
  · exact r
  obtain ⟨t, n1, n2, n3⟩ := r.tls _ hp
  refine r.up u rfl (fun a ha => ?_) (fun a h => .inl h) fun a h => by rw [(u.frz a h).2]; exact r.fz a h
  rw [upd_ne (show a ≠ c from fun z => r.liv a ha (by rw [z]; exact hc)), upd_ne (show a ≠ P from fun z => n2 (by rw [← z]; exact ha))]
/-- a lambda is made; what its table is then -/
theorem lam_mk {c : Addr} {params : Arguments} {body : Expr} {scope : Scope} {E : Value → Shared → Prop} {Z : Value → Shared → Prop} (I : Inv X pins σ H s) (TB : LamX.TabB X.base X.mg c P) (hcode : X.env.code = .ref c)
    (hT : LamX.TabS H P (X.env.qual ++ "<lambda>")) (hdef : defaultsOf params X.env = ([], [])) (hfree : ∀ y ∈ scope.names, y.2 = .free → ∃ c, X.env.cells.lookup y.1 = some c)
    (h : ∀ (f c' : Addr) (pm ctv : Value) (H1 : Hp) (s' : Shared), Inv X pins σ H1 s' → Lm P (X.env.qual ++ "<lambda>") H H1 →
      s'.heap.get? f = some (PySem.W.kla_obj "<lambda>" (X.env.qual ++ "<lambda>") params body scope (cloFrom X.env.cells scope.names []) pm c' ctv) → H1 f = none → f ∉ frs X.stack → H1 c' = some (LamX.CodeO c' (X.env.qual ++ "<lambda>")) → Z (.ref f) s') :
    wpAny (model X.prog X.w) X.A (eval (.Lambda params body scope pos) X.env) Z E s := by
  obtain ⟨ps, hP, ht, ha⟩ := hT
  have tab_at : s.heap.get? P = some { cls := .none, data := .fields ps } := I.hok P _ hP
  have far : ∀ f, s.heap.objs.size ≤ f → f ∉ frs X.stack := fun f hf z => (List.mem_cons.mp (I.stkSub _ z)).elim (fun e => absurd (Nat.lt_of_lt_of_le (by rw [← e] at *; exact I.lt) hf) (by rw [e]; exact Nat.lt_irrefl _)) (I.nofs hf)
  refine PySem.W.kla_eval hdef ?_
  cases hc : codeAmong pos ps.toList with
  | some cv =>
    obtain ⟨c', e, hco⟩ := ha pos cv hc
    subst e
    exact PySem.W.kla_makeFunctionHit (mg := X.mg) (c := c) (P := P) (ps := ps) (closure_ok hfree) I.ok.glob (I.mod.glob.keeps I.bk) hcode (TB.code.keeps I.bk) tab_at ht hc (TB.bm.keeps I.bk) fun ctv h' tk hx size_le =>
      h h'.objs.size c' _ ctv H _ (I.kept fun b o e => Heap.get?_push_of_some _ (hx b o e)) (.inl rfl) (Heap.get?_push_size _ rfl) (I.hok.fresh size_le) (far _ size_le) hco
  | none =>
    refine PySem.W.kla_makeFunction (mg := X.mg) (c := c) (P := P) (ps := ps) (closure_ok hfree) I.ok.glob (I.mod.glob.keeps I.bk) hcode (TB.code.keeps I.bk) tab_at ht hc TB.gP (TB.bm.keeps I.bk) fun c' ctv h' tk hx hge hlt hrec htb => ?_
    obtain ⟨c2, oc, vs, t, e2, hoc, hd, hv⟩ := hrec
    cases e2
    have size_le : s.heap.objs.size ≤ h'.objs.size := Nat.le_trans hge (Nat.le_of_lt hlt)
    have new_c : H c' = none := I.hok.fresh hge
    have e_list : (ps ++ #[rawInt pos.line, rawInt pos.col, .ref c']).toList = ps.toList ++ [rawInt pos.line, rawInt pos.col, .ref c'] := by simp
    have triples : TriplesOk (ps ++ #[rawInt pos.line, rawInt pos.col, .ref c']).toList := by rw [e_list]; exact PySem.TriplesOk_snoc _ _ _ _ ht
    refine h h'.objs.size c' _ ctv _ _ (LamX.inv_table (t' := tk) (more := #[rawInt pos.line, rawInt pos.col, .ref c']) (h' := h'.push _) I hP (fun b o hb e => Heap.get?_push_of_some _ (hx b o hb e)) (Heap.get?_push_of_some _ htb) hge ⟨oc, vs, t, Heap.get?_push_of_some _ hoc, hd, hv⟩)
      (.inr ⟨ps, _, c', hP, new_c, triples, ⟨_, by rw [upd_ne (ne_of_none hP new_c), upd_same], triples, fun p' cv hcv => ?_⟩, rfl⟩) (Heap.get?_push_size _ rfl) ?_ (far _ size_le) upd_same
    · rw [e_list] at hcv
      rcases LamX.among_app _ ht hcv with z | z
      · obtain ⟨c0, e1, e2⟩ := ha p' cv z
        exact ⟨c0, e1, by rw [upd_ne (ne_of_none e2 new_c), upd_ne (show c0 ≠ P from fun z => by rw [z, hP] at e2; exact LamX.codeO_ne _ (Option.some.inj e2).symm)]; exact e2⟩
      · exact ⟨c', z, upd_same⟩
    · rw [upd_ne (Nat.ne_of_gt hlt), upd_ne (Nat.ne_of_gt (Nat.lt_of_lt_of_le (Heap.lt_size tab_at) size_le))]
      exact I.hok.fresh size_le
def tLm (P : Addr) (q : Str) (TT : (XK → Hp → VK → Prop) → Hp → VK → Prop) (t : XK → TE) : TE := fun σ H Z => LamX.TabS H P q ∧ ∀ H1, Lm P q H H1 → TT (fun E H' Z' => t E σ H' Z') H1 Z
/-- x(lambda: body) -/
theorem pe_lmcall {TT : (XK → Hp → VK → Prop) → Hp → VK → Prop} {x a : Str} {g c : Addr} {k : Nat} {pg : Arguments} {bg : List Stmt} {sg : Scope} {dV kV doc pm cdv ct oc : Value} {an od : Option Addr} {osl : Array (Option Value)} {Ng : List Str}
    {params : Arguments} {body : Expr} {scope : Scope} {t : XK → TE} {lpos : Pos} (hg : Gl X x) (hm : X.mg x = some (.ref g)) (hk : PySem.W.keepIn X.K (.ref g) = true)
    (lk : X.K.lookup g = some ⟨oc, od, .func (PySem.W.fnOf x x pg bg sg dV kV doc pm an cdv ct), osl⟩) (hcg : PySem.W.codeIn X.K cdv x = true) (hb : L2.Binds X.K (PySem.W.fnOf x x pg bg sg dV kV doc pm an cdv ct) [a] []) (Sg : FnScope Ng [a] sg) (hNg : Ng[0]? = some a) (hva : Vis sg a)
    (hG : LamX.GivesTo X Ng x sg g cdv bg a (X.env.qual ++ "<lambda>") TT)
    (TB : LamX.TabB X.base X.mg c P) (hcode : X.env.code = .ref c) (hr : Room (k + 2) X.A) (Ls : LamX.LamS X.env.scope scope) (hdef : defaultsOf params X.env = ([], []))
    (hbind : ∀ (q : Str) (cl : List (Str × Addr)) (pm cv ctv : Value), bindArgs (PySem.W.kla_fn "<lambda>" q params body scope cl pm cv ctv) ⟨[], []⟩ = pure [])
    (hbody : ∀ (A : Around) (outer : List Env) (s : Shared) (H : Hp) (E : XK) (f c' : Addr), Room k (A.deeper (LamX.lamEnv X scope s.heap.objs.size f c')) → PE (LamX.lamCx X A outer s H E scope f c') body (t E))
    (hdb : (x == ("__debug__" : Str)) = false := by decide) (hd : (a == ("__debug__" : Str)) = false := by decide) (hcd : (a == ("__classdict__" : Str)) = false := by decide) :
    PE X (.Call (.Name x p) [.Lambda params body scope lpos] [] pos) (tLm P (X.env.qual ++ "<lambda>") TT t) := by
  refine ⟨fun pins s σ H Z I ⟨hT, h⟩ => ?_⟩
  refine wpAny_Call_Name_kw (ld_glob I hg hm ?_ hdb)
  refine PySem.W.callWith_K (h₀ := X.base) I.ok.mod.kin hk ?_ (by rfl) (by rfl)
  refine Calls.spliced_cons (lam_mk I TB hcode hT hdef (Ls.has I.ok) fun f c' pm' ctv H1 s' I1 hl hf hfn hfr hco => Calls.spliced_nil ⟨I1.kIn, ?_⟩)
  have rc : codeAny (model X.prog X.w) X.A (.call (.ref g) ⟨[.ref f], []⟩) (CR C8.CX0 X.stack X.prog X.w H1 s' Z C8.E0) s' :=
    LamX.run_ofS (N := Ng) (ps := [a]) (us := [.ref f]) (vs := [.ref f]) lk hcg Sg hr I1.env0 (hb s' [.ref f] I1.kIn rfl) (.cons rfl .nil) rfl fun hr' => by
      obtain ⟨t', ht', hq'⟩ := hG f c' s' H1 Z (fun E H' Z' => t E σ H' Z') (fun W pn xe E p1 p2 tk hW => LamX.pe_act (i := 0) I1 Ls hf hfn hfr (hbind _ _ _ _ _) tk hW hr' (fun A outer s H hr2 => hbody A outer s H E f c' hr2) hNg hva hd hcd) hco (h H1 hl)
      exact ⟨t', ht'.nox, hq'⟩
  refine wpAny_call (codeAny_mono rc fun r s2 hq => ?_)
  match r, hq with
  | .ok (.ret u), hq => exact I1.after hq
  | .ok .next, hq => exact False.elim hq
  | .ok .brk, hq => exact False.elim hq
  | .ok .cont, hq => exact False.elim hq
  | .error e, hq => exact (show False from hq).elim
/-- .. within try: return a() except CE: return ret -/
def mTold (cg : Nat → Bool) (ret : Str) (fb : Sl → M LV) : Sl → M LV := fun s L => match fb s L with
  | .ok v L1 => .ok v L1
  | .exc c L1 => if cg c = true then .ok (.str ret) L1 else .no
  | .no => .no
theorem qe_told {cg : Nat → Bool} {ret x a eN : Str} {g c CE : Addr} {k : Nat} {pg : Arguments} {sg : Scope} {dV kV doc pm cdv ct oc : Value} {an od : Option Addr} {osl : Array (Option Value)} {Ng : List Str} {j : Nat} {p1 p2 p3 p4 p5 p6 p7 p8 : Pos}
    {params : Arguments} {body : Expr} {scope : Scope} {lpos : Pos} (hg : Gl X x) (hm : X.mg x = some (.ref g)) (hk : PySem.W.keepIn X.K (.ref g) = true)
    (lk : X.K.lookup g = some ⟨oc, od, .func (PySem.W.fnOf x x pg [.Try [.Return (some (.Call (.Name a p1) [] [] p2)) p3] [.ExceptHandler (some (.Name eN p4)) none [.Return (some (.Constant (.str ret) j p5)) p6] p7] [] [] p8] sg dV kV doc pm an cdv ct), osl⟩)
    (hcg : PySem.W.codeIn X.K cdv x = true) (hb : L2.Binds X.K (PySem.W.fnOf x x pg [.Try [.Return (some (.Call (.Name a p1) [] [] p2)) p3] [.ExceptHandler (some (.Name eN p4)) none [.Return (some (.Constant (.str ret) j p5)) p6] p7] [] [] p8] sg dV kV doc pm an cdv ct) [a] []) (Sg : FnScope Ng [a] sg) (hNg : Ng[0]? = some a) (hva : Vis sg a) (h0 : ∀ f : Addr, (L2.start Ng [V.ref f])[0]? = some (some (V.ref f)))
    (hge : sg.names.lookup eN = some .globalImplicit) (hme : X.mg eN = some (.ref CE)) (hde : (eN == ("__debug__" : Str)) = false)
    (hx : ∀ c, cg c = true → PySem.W.exmOne X.K (.ref (K.cl c)) (.ref CE) = some true)
    (hp : (P, X.env.qual ++ "<lambda>") ∈ K.TS) (hu : ∀ p ∈ K.TS, p.1 = P → p.2 = X.env.qual ++ "<lambda>")
    (TB : LamX.TabB X.base X.mg c P) (hcode : X.env.code = .ref c) (hr : Room (k + 2) X.A) (Ls : LamX.LamS X.env.scope scope) (hdef : defaultsOf params X.env = ([], []))
    (hbind : ∀ (q : Str) (cl : List (Str × Addr)) (pm cv ctv : Value), bindArgs (PySem.W.kla_fn "<lambda>" q params body scope cl pm cv ctv) ⟨[], []⟩ = pure [])
    (hbody : ∀ (A : Around) (outer : List Env) (s : Shared) (H : Hp) (E : XK) (f c' : Addr), Room k (A.deeper (LamX.lamEnv X scope s.heap.objs.size f c')) → QE (LamX.lamCx X A outer s H E scope f c') K (WD E) body fb)
    (hdb : (x == ("__debug__" : Str)) = false := by decide) (hd : (a == ("__debug__" : Str)) = false := by decide) (hcd : (a == ("__classdict__" : Str)) = false := by decide) :
    QE X K W (.Call (.Name x p) [.Lambda params body scope lpos] [] pos) (mTold cg ret fb) :=
  PE.weak (pe_lmcall (TT := LamX.TTold X.K CE ret) (t := fun E => tE K (WD E) fb) hg hm hk lk hcg hb Sg hNg hva (LamX.told_gives hge hme hde h0) TB hcode hr Ls hdef hbind hbody hdb hd hcd) fun σ H Z ⟨κ, s, L, rs, rl, h⟩ => ⟨(rl.tls _ hp).1, fun H1 hl => by
    have up := Up.lamd rl hp hu hl
    refine ⟨κ, s, L, rs.up up, rl.lamd hp hu hl, ?_⟩
    unfold mTold at h
    cases e : fb s L with
    | no => rw [e] at h; exact h.elim
    | ok v L1 => rw [e] at h; exact fun κ2 H2 u u2 rl2 r2 => h κ2 H2 u (up.trans u2) rl2 r2
    | exc c L1 =>
      rw [e] at h
      simp only [] at h
      split at h
      · rename_i hc
        exact fun κ2 H2 d u2 rl2 => ⟨true, hx c hc, fun _ => h κ2 H2 _ (up.trans u2) rl2 (.str _), fun z => nomatch z⟩
      · exact h.elim⟩
end
end Q
end
section
set_option Elab.async false
set_option linter.all false
set_option maxRecDepth 100000
set_option maxHeartbeats 4000000
/-! Qm: join; a def whose code object is known; small helpers of derivations -/
namespace Q
open PySem PySem.Spec L2
open PyProof.Rows (envOfC)
section
variable {X : Cx} {K : Kt} {κ κ1 κ2 : Kp} {H H1 H2 : Hp} {L : LH} {W : WX} {σ : St} {e o : Expr} {pos p apos : Pos} {fo fe : Sl → M LV} {c n k : Nat}
def strsOf : List LV → Option (List Str)
  | [] => some []
  | .str a :: r => (strsOf r).map (a :: ·)
  | _ => none
theorem strsOf_ok : ∀ {xs : List LV} {us : List V} {ys : List Str}, RVs K κ H xs us → strsOf xs = some ys → us = ys.map V.str
  | [], _, ys, r, h => by cases r; cases h; rfl
  | .str a :: r, _, ys, rv, h => by
    cases rv with
    | cons r1 r2 =>
      cases r1
      unfold strsOf at h
      cases e : strsOf r with
      | none => rw [e] at h; cases h
      | some zs => rw [e] at h; cases h; rw [strsOf_ok r2 e]; rfl
  | .non :: _, _, _, _, h => by cases h
  | .bl _ :: _, _, _, _, h => by cases h
  | .int _ :: _, _, _, _, h => by cases h
  | .ref _ :: _, _, _, _, h => by cases h
  | .tup _ :: _, _, _, _, h => by cases h
  | .st _ :: _, _, _, _, h => by cases h
  | .fl _ :: _, _, _, _, h => by cases h
  | .sl _ :: _, _, _, _, h => by cases h
  | .adr _ :: _, _, _, _, h => by cases h
  | .ty _ :: _, _, _, _, h => by cases h
def itemsV : LV → Option (List LV)
  | .fl xs => some xs
  | .tup xs => some xs
  | _ => none
def gJoin (a : Str) (y : LV) (L : LH) : Res LV := match (itemsV y).bind strsOf with
  | some ys => if (ys.map (·.length)).sum + ys.length * a.length ≤ 16777216 then .ok (.str (Txt.join a ys)) L else .no
  | none => .no
def mJoin (fo fe : Sl → M LV) : Sl → M LV := fun s L => (fo s L).bind fun x L1 => match x with
  | .str a => (fe s L1).bind fun y L2 => gJoin a y L2
  | _ => .no
theorem qe_join (hK : X.K = K.K) (ho : QE X K W o fo) (he : QE X K W e fe) (hs : starEach [e] X.env = [(false, eval e X.env)] := by rfl) (hbase : attributeBase o "join" X.env (eval o X.env) = eval o X.env := by rfl) (hline : (apos.endLine == pos.line) = true := by rfl) :
    QE X K W (.Call (.Attribute o "join" apos) [e] [] pos) (mJoin fo fe) :=
  PE.weak (Vc.pe_joinK hK ho he hs hbase hline) fun σ H Q ⟨κ, s, L, rs, rl, h⟩ => ⟨κ, s, L, rs, rl, (HV.bind (R := RV K) h).imp fun u H1 ⟨κ1, L1, x, up, rl1, rx, q⟩ => by
    cases x with
    | str a =>
      cases rx
      refine ⟨⟨a, rfl⟩, κ1, s, L1, rs.up up, rl1, (HV.bind (R := RV K) q).imp fun v H2 ⟨κ2, L2, y, up2, rl2, ry, q2⟩ => ?_⟩
      unfold gJoin at q2
      split at q2
      · rename_i ys e
        split at q2
        · rename_i hb
          cases y with
          | fl xs =>
            cases ry with
            | fl g1 g2 =>
              have e : strsOf xs = some ys := e
              exact ⟨a, _, ys, rfl, rfl, .inl (by rw [← strsOf_ok g2 e]; exact SqL.of g1.2), hb, q2.now rl2 (.str _)⟩
          | tup xs =>
            cases ry with
            | tup g1 g2 =>
              have e : strsOf xs = some ys := e
              exact ⟨a, _, ys, rfl, rfl, .inr (by rw [← strsOf_ok g2 e]; exact SqT.of g1.2), hb, q2.now rl2 (.str _)⟩
          | _ => cases e
        · exact q2.elim
      · exact q2.elim
    | _ => exact q.elim⟩
end
section
variable {P : Program} {w : World} {K : Kt} {mg : Str → Option Value} {base : Heap}
/-- a def whose code object stands at c -/
structure FunC (K : PySem.W.Frag) (x qual : Str) (st : Stmt) (f : Addr) (fd : FuncData) (c : Addr) : Prop where
  ex : ∃ (oc : Value) (od : Option Addr) (dV kV doc pm : Value) (an : Option Addr) (ct : Value) (osl : Array (Option Value)),
    fd = PySem.W.fnOf x qual (defArgs st) (defBody st) (defScope st) dV kV doc pm an (.ref c) ct ∧ K.lookup f = some ⟨oc, od, .func fd, osl⟩ ∧ PySem.W.codeIn K (.ref c) qual = true
  kp : PySem.W.keepIn K (.ref f) = true
theorem q_fnC {x qual : Str} {st : Stmt} {f c : Addr} {fd : FuncData} {N ps : List Str} {k : Nat} {body : MS} (F : FunC K.K x qual st f fd c) (S : FnScope N ps (defScope st))
    (hb : ∀ (A : Around) (outer : List Env) (s : Shared) (H : Hp) (E : XK), Room k (A.deeper (envOfC qual (defScope st) s.heap.objs.size f (.ref c))) → QSs (cxOf (L2.CX P w) P w K.K mg base N qual (defScope st) f (.ref c) A outer s H E) K (WD E) (defBody st) body) :
    FnOk P w K.K mg base (L2.CX P w) (k + 1) f fd ps (spF K ps.length (callF N.length body)) := by
  obtain ⟨⟨oc, od, dV, kV, doc, pm, an, ct, osl, rfl, lk, hcd⟩, kp⟩ := F
  refine fn_of lk hcd S (fun vs H Q E h => h.1) fun A outer s H vs Q E hr h => ⟨_, hb A outer s H E hr, ?_⟩
  obtain ⟨_, κ, L, xs, rv, rl, h⟩ := h
  refine ⟨κ, _, L, RS.start rv N, rl, ?_⟩
  unfold callF at h
  cases e : body (xs.map some ++ List.replicate (N.length - xs.length) none) L with
  | next s L => rw [e] at h; exact fun κ' H' σ' a b c => h κ' H' _ a b .non
  | ret v L => rw [e] at h; exact fun κ' H' u a b c => h κ' H' u a b c
  | brk s L => rw [e] at h; exact h.elim
  | cont s L => rw [e] at h; exact h.elim
  | exc c s L => rw [e] at h; exact fun κ' H' σ' d a b c => h κ' H' d a b
  | no => rw [e] at h; exact h.elim
end
theorem hu64 {A : Around} {k : Nat} (hr : Room k A) : A.units + 64 < cLine := by have := hr.un; omega
theorem tkE {P : Program} {w : World} {K : PySem.W.Frag} {mg : Str → Option Value} {base : Heap} {N : List Str} {qual : Str} {scope : Scope} {f : Addr} {cd : Value} {A : Around} {outer : List Env} {s : Shared} {H : Hp} {E : XK} :
    Takes (cxOf (L2.CX P w) P w K mg base N qual scope f cd A outer s H E) (WD E) := takes_of rfl rfl rfl rfl
abbrev gSub : LV → LV → M LV := gI fun i j => .int (i - j)
abbrev gAddI : LV → LV → M LV := gI fun i j => .int (i + j)
abbrev gFdiv : LV → LV → M LV := gIc (fun _ j => decide (0 < j) && decide (j < 1073741824)) fun i j => .int (i / j)
abbrev gMod : LV → LV → M LV := gIc (fun _ j => decide (0 < j)) fun i j => .int (i % j)
abbrev gPow : LV → LV → M LV := gIc (fun i j => decide (0 ≤ j) && decide (j ≤ 1000) && decide (i.natAbs < 2 ^ 64)) fun i j => .int (i ^ j.toNat)
abbrev gNeg : LV → M LV := fun x L => match x with | .int i => .ok (.int (-i)) L | _ => .no
theorem own_def {P : Program} {w : World} {K : PySem.W.Frag} {mg : Str → Option Value} {base : Heap} {N : List Str} {qual : Str} {scope : Scope} {f : Addr} {cd : Value} {A : Around} {outer : List Env} {s : Shared} {H : Hp} {E : XK} :
    PassesOwn (model (cxOf (L2.CX P w) P w K mg base N qual scope f cd A outer s H E).prog (cxOf (L2.CX P w) P w K mg base N qual scope f cd A outer s H E).w) (cxOf (L2.CX P w) P w K mg base N qual scope f cd A outer s H E).A (cxOf (L2.CX P w) P w K mg base N qual scope f cd A outer s H E).env (cxOf (L2.CX P w) P w K mg base N qual scope f cd A outer s H E).xe := passes_of rfl
end Q
end
section
set_option Elab.async false
set_option linter.all false
set_option maxRecDepth 100000
set_option maxHeartbeats 4000000
/-! Qn: from the head's facts to what derivations ask; the end -/
namespace Q
open PySem PySem.Spec L2
theorem tls_nil {H : Hp} {P : Addr} {q : Str} (h : H P = some (.tbl #[])) : LamX.TabS H P q := LamX.TabS.nil h
/-- a def and its code object -/
theorem funC_of {K : PySem.W.Frag} {x qual : Str} {st : Stmt} {p : He.Defn} {fd : FuncData} (F : L2.FunD K x qual (L2.defArgs st) (L2.defBody st) (L2.defScope st) [] [] (He.fAd K p) fd) : FunC K x qual st (He.fAd K p) fd (He.cT K p).1 := by
  obtain ⟨oc, od, dV, kV, doc, pm, an, cdv, ct, osl, e, l, c, hd, _⟩ := F.ex
  obtain ⟨cc, e2⟩ := He.codeIn_ref c
  have e3 : (He.cT K p).1 = cc := He.codeOf_eq (fd := fd) l (by rw [e, e2])
  subst e2
  exact ⟨⟨oc, od, dV, kV, doc, pm, an, ct, osl, by rw [e3]; exact e, l, by rw [e3]; exact c⟩, F.kp⟩
/-- a tuple of the module -/
theorem stT_of {K : Kt} {x : Str} {vs : List He.Dv} (h : He.tupB K.K x vs = true) : StT K (He.ga K.K x) (vs.map (He.Dv.v K.K)) := by
  rcases He.tupB_ok h (fun _ => none) with q | q
  · rcases q with q | ⟨o, q⟩ <;> cases q
  · exact q
theorem gx_of {base : Heap} {mg : Str → Option Value} {c P : Addr} (h : LamX.TabB base mg c P) : GxR.TabB base mg c P := ⟨h.code, h.bm, h.gP⟩
theorem ints_rv {K : Kt} {κ : Kp} {H : Hp} : ∀ ns : List Int, RVs K κ H (ns.map LV.int) (ns.map V.int)
  | [] => .nil
  | n :: r => .cons (.int n) (ints_rv r)
/-- where a law begins: the script, tables that are empty -/
theorem law_starts {K : Kt} {F : List LV → M LV} {a : Addr} {ns : List Int} {H : Hp} (hT : ∀ P, P ∈ K.T → H P = some (.tbl #[])) (hS : ∀ p, p ∈ K.TS → H p.1 = some (.tbl #[]) ∧ p.1 ∉ K.T) (hs : SqL K.K H a (ns.map V.int)) (h : ∃ L, F [.sl (ns.map LV.int)] [] = .ok (.bl true) L) :
    spF K 1 F [.ref a] H (fun v _ => v = .bl true) fun _ _ _ => False := by
  obtain ⟨L, e⟩ := h
  have noT : ∀ P, H P = some (.tbl #[]) → ¬ (P = a ∧ Rd H a (.lst (ns.map V.int))) := fun P hP ⟨z, r⟩ => by
    subst z
    rcases r with r | ⟨o, r⟩ <;> (rw [hP] at r; cases r)
  refine ⟨rfl, ⟨[], fun b => b = a ∧ Rd H a (.lst (ns.map V.int))⟩, [], [.sl (ns.map LV.int)], .cons (.sl ?_ (ints_rv ns)) .nil, ⟨rfl, List.nodup_nil, fun b hb => absurd hb (by simp), fun b hb => ?_, fun n o b h1 _ => by simp at h1, fun P hP => ⟨⟨#[], hT P hP, trivial⟩, noT P (hT P hP), by simp⟩,
    fun p hp => ⟨tls_nil (hS p hp).1, noT _ (hS p hp).1, by simp, (hS p hp).2⟩⟩, ?_⟩
  · rcases hs with z | z
    · exact .inl ⟨⟨rfl, z⟩, z⟩
    · exact .inr z
  · obtain ⟨rfl, z⟩ := hb
    rcases z with z | ⟨o, z⟩ <;> (rw [z]; exact fun q => nomatch q)
  · rw [e]
    intro κ' H' u _ _ r
    cases r
    rfl
end Q
end
section
set_option Elab.async false
set_option linter.all false
set_option maxRecDepth 100000
set_option maxHeartbeats 1000000
/-! Qo: what is wanted behind a function of values, step by step -/
namespace Q
open PySem L2
def WP {α : Type} (r : Res α) (P : α → LH → Prop) : Prop := match r with
  | .ok v L => P v L
  | _ => False
/-- what is wanted behind a statement -/
structure EW where
  nx : Sl → LH → Prop
  rt : LV → LH → Prop := fun _ _ => False
  bk : Sl → LH → Prop := fun _ _ => False
  ct : Sl → LH → Prop := fun _ _ => False
def WS (r : Fl) (D : EW) : Prop := match r with
  | .next s L => D.nx s L
  | .ret v L => D.rt v L
  | .brk s L => D.bk s L
  | .cont s L => D.ct s L
  | _ => False
section
variable {α β : Type} {r : Res α} {k : α → LH → Res β} {P : β → LH → Prop} {Z : α → LH → Prop} {v : α} {L : LH} {s : Sl} {D : EW}
theorem WP_ok : WP (.ok v L) Z = Z v L := rfl
theorem WP_no : WP (.no : Res α) Z = False := rfl
theorem WP_bind : WP (r.bind k) P = WP r fun x L1 => WP (k x L1) P := by cases r <;> rfl
theorem WP_ite {b : Bool} {r1 r2 : Res α} : WP (if b = true then r1 else r2) Z = ((b = true → WP r1 Z) ∧ (b = false → WP r2 Z)) := by cases b <;> simp
theorem WP_dite {p : Prop} [Decidable p] {r1 r2 : Res α} : WP (if p then r1 else r2) Z = ((p → WP r1 Z) ∧ (¬ p → WP r2 Z)) := by
  by_cases h : p <;> simp [h]
theorem WP.imp {Z' : α → LH → Prop} (h : WP r Z) (k : ∀ v L, Z v L → Z' v L) : WP r Z' := by
  cases r with
  | ok v L => exact k v L h
  | _ => exact h
theorem WP.ex (h : WP r Z) : ∃ v L, r = .ok v L ∧ Z v L := by
  cases r with
  | ok v L => exact ⟨v, L, rfl, h⟩
  | _ => exact h.elim
theorem WS_lift {k : α → LH → Fl} : WS (lift s k r) D = WP r (fun x L1 => WS (k x L1) D) ∨ ∃ c L1, r = .exc c L1 := by cases r <;> first | exact .inl rfl | exact .inr ⟨_, _, rfl⟩
theorem WS_lift' {k : α → LH → Fl} : WS (lift s k r) D = WP r (fun x L1 => WS (k x L1) D) := by cases r <;> rfl
theorem WS_next {s : Sl} : WS (.next s L) D = D.nx s L := rfl
theorem WS_ret {v : LV} : WS (.ret v L) D = D.rt v L := rfl
theorem WS_brk {s : Sl} : WS (.brk s L) D = D.bk s L := rfl
theorem WS_cont {s : Sl} : WS (.cont s L) D = D.ct s L := rfl
theorem WS_seq {f : Fl} {g : MS} : WS (f.andThen g) D = WS f { D with nx := fun s L => WS (g s L) D } := by cases f <;> rfl
theorem WS_ite {b : Bool} {f g : Fl} : WS (if b = true then f else g) D = ((b = true → WS f D) ∧ (b = false → WS g D)) := by cases b <;> simp
theorem WS_dite {p : Prop} [Decidable p] {f g : Fl} : WS (if p then f else g) D = ((p → WS f D) ∧ (¬ p → WS g D)) := by
  by_cases h : p <;> simp [h]
theorem WS.imp {D' : EW} {f : Fl} (h : WS f D) (h1 : ∀ s L, D.nx s L → D'.nx s L) (h2 : ∀ v L, D.rt v L → D'.rt v L) (h3 : ∀ s L, D.bk s L → D'.bk s L) (h4 : ∀ s L, D.ct s L → D'.ct s L) : WS f D' := by
  cases f with
  | next s L => exact h1 _ _ h
  | ret s L => exact h2 _ _ h
  | brk s L => exact h3 _ _ h
  | cont s L => exact h4 _ _ h
  | exc c s L => exact h
  | no => exact h
theorem WP_call {N : Nat} {body : MS} {xs : List LV} {Z : LV → LH → Prop} : WP (callF N body xs L) Z = WS (body (xs.map some ++ List.replicate (N - xs.length) none) L) { nx := fun _ L => Z .non L, rt := Z } := by
  unfold callF
  cases body (xs.map some ++ List.replicate (N - xs.length) none) L <;> rfl
end
/-- a loop: what holds at each turn -/
theorem WS_for {it : IT} {g : LV → Sl → Option Sl} {body : MS} {D : EW} {n : Nat} (I : Nat → Sl → LH → Prop) (hn : n < FUEL)
    (step : ∀ i s L, i < n → I i s L → ∃ v s1, it i L = some (some v) ∧ g v s = some s1 ∧ WS (body s1 L) { nx := I (i + 1), ct := I (i + 1), rt := D.rt, bk := D.nx })
    (stop : ∀ s L, I n s L → it n L = some none ∧ D.nx s L) {s : Sl} {L : LH} (h : I 0 s L) : WS (forGo it g body FUEL 0 s L) D := by
  have go : ∀ (m i : Nat) (s : Sl) (L : LH), i ≤ n → n < m + i → I i s L → WS (forGo it g body m i s L) D := by
    intro m
    induction m with
    | zero => intro i s L h1 h2; omega
    | succ m ih =>
      intro i s L h1 h2 hI
      unfold forGo
      by_cases e : i = n
      · subst e
        obtain ⟨e1, e2⟩ := stop s L hI
        rw [e1]
        exact e2
      · obtain ⟨v, s1, e1, e2, e3⟩ := step i s L (by omega) hI
        rw [e1]
        simp only []
        rw [e2]
        simp only []
        cases eb : body s1 L with
        | next s2 L2 => rw [eb] at e3; exact ih (i + 1) s2 L2 (by omega) (by omega) e3
        | cont s2 L2 => rw [eb] at e3; exact ih (i + 1) s2 L2 (by omega) (by omega) e3
        | brk s2 L2 => rw [eb] at e3; exact e3
        | ret v L2 => rw [eb] at e3; exact e3
        | exc c s2 L2 => rw [eb] at e3; exact e3
        | no => rw [eb] at e3; exact e3
  exact go FUEL 0 s L (Nat.zero_le _) (by omega) h
/-- a comprehension -/
theorem WP_lc {it : IT} {g : LV → Sl → Option Sl} {tt : Sl → M Bool} {fe : Sl → M LV} {s0 : Sl} {Z : LV → LH → Prop} {n : Nat} (I : Nat → List LV → LH → Prop) (hn : n < FUEL) (hl : ∀ i acc L, i ≤ n → I i acc L → acc.length < 1000000)
    (step : ∀ i acc L, i < n → I i acc L → ∃ v s1, it i L = some (some v) ∧ g v s0 = some s1 ∧ WP (tt s1 L) fun b L1 => if b = true then WP (fe s1 L1) fun y L2 => I (i + 1) (acc ++ [y]) L2 else I (i + 1) acc L1)
    (stop : ∀ acc L, I n acc L → it n L = some none ∧ Z (.fl acc) L) {L : LH} (h : I 0 [] L) : WP (lcGo it g tt fe s0 FUEL 0 [] L) Z := by
  have go : ∀ (m i : Nat) (acc : List LV) (L : LH), i ≤ n → n < m + i → I i acc L → WP (lcGo it g tt fe s0 m i acc L) Z := by
    intro m
    induction m with
    | zero => intro i acc L h1 h2; omega
    | succ m ih =>
      intro i acc L h1 h2 hI
      unfold lcGo
      by_cases e : i = n
      · subst e
        obtain ⟨e1, e2⟩ := stop acc L hI
        rw [e1]
        exact e2
      · obtain ⟨v, s1, e1, e2, e3⟩ := step i acc L (by omega) hI
        rw [e1]
        simp only []
        rw [e2]
        simp only []
        obtain ⟨b, L2, et, e4⟩ := e3.ex
        rw [et]
        simp only []
        cases b with
        | false =>
          rw [if_neg (by decide)] at e4 ⊢
          exact ih (i + 1) acc L2 (by omega) (by omega) e4
        | true =>
          rw [if_pos rfl] at e4 ⊢
          obtain ⟨y, L3, ey, e5⟩ := e4.ex
          rw [ey]
          simp only []
          rw [if_pos (hl i acc L h1 hI)]
          exact ih (i + 1) _ L3 (by omega) (by omega) e5
  exact go FUEL 0 [] L (Nat.zero_le _) (by omega) h
section
variable {L R : LH} {i j : Int} {a b c d v : LV} {p : Int → Int → LV} {q : Int → Int → Bool} {o : List Nat → List Nat → Bool} {x y : Str} {neg : Bool}
theorem e_gI : gI p (.int i) (.int j) L = .ok (p i j) L := rfl
theorem e_gIc : gIc q p (.int i) (.int j) L = if q i j = true then .ok (p i j) L else .no := rfl
theorem e_gMul : gMul (.int i) (.int j) L = if cMul i j = true then .ok (.int (i * j)) L else .no := rfl
theorem e_gAdd : gAdd (.int i) (.int j) L = .ok (.int (i + j)) L := rfl
theorem e_gCmp : gCmp q o (.int i) (.int j) L = .ok (.bl (q i j)) L := rfl
theorem e_gEq : gEq neg (.int i) (.int j) L = .ok (.bl (if neg then !decide (i = j) else decide (i = j))) L := rfl
theorem e_gEqS : gEq neg (.str x) (.str y) L = .ok (.bl (if neg then !decide (x = y) else decide (x = y))) L := rfl
theorem e_ix30 : gIx (.ref 0) (.int 0) (.lst [a, b, c] :: R) = .ok a (.lst [a, b, c] :: R) := rfl
theorem e_ix31 : gIx (.ref 0) (.int 1) (.lst [a, b, c] :: R) = .ok b (.lst [a, b, c] :: R) := rfl
theorem e_ix32 : gIx (.ref 0) (.int 2) (.lst [a, b, c] :: R) = .ok c (.lst [a, b, c] :: R) := rfl
theorem e_set30 : setIx (.lst [a, b, c] :: R) (.ref 0) (.int 0) v = some (.lst [v, b, c] :: R) := rfl
theorem e_set31 : setIx (.lst [a, b, c] :: R) (.ref 0) (.int 1) v = some (.lst [a, v, c] :: R) := rfl
theorem e_set32 : setIx (.lst [a, b, c] :: R) (.ref 0) (.int 2) v = some (.lst [a, b, v] :: R) := rfl
theorem e_tup0 : gIx (.tup (a :: xs)) (.int 0) L = .ok a L := by
  show (match atI (a :: xs) 0 with | some v => Res.ok v L | none => .no) = _
  have : atI (a :: xs) 0 = some a := by
    unfold atI ixN
    simp
  rw [this]
theorem e_t40 : gIx (.tup [a, b, c, d]) (.int 0) L = .ok a L := rfl
theorem e_t41 : gIx (.tup [a, b, c, d]) (.int 1) L = .ok b L := rfl
theorem e_t42 : gIx (.tup [a, b, c, d]) (.int 2) L = .ok c L := rfl
theorem e_t43 : gIx (.tup [a, b, c, d]) (.int 3) L = .ok d L := rfl
end
theorem WP_exc {α : Type} {c : Nat} {L : LH} {Z : α → LH → Prop} : WP (.exc c L : Res α) Z = False := rfl
theorem WS_exc {c : Nat} {s : Sl} {L : LH} {D : EW} : WS (.exc c s L) D = False := rfl
end Q
end
section
set_option Elab.async false
set_option linter.all false
set_option maxRecDepth 100000
set_option maxHeartbeats 4000000
namespace Q.K07
open PySem PySem.Spec L2 Q
def top (i : Nat) : Stmt := PySem.Challenge.pw_pagestack_k07_cells_that_are_painted.main.body.getD i (.Pass ⟨0, 0, 0, 0⟩)

abbrev i_SizeError : Nat := 0
abbrev i_Canvas : Nat := 1
def cg_law_told : Nat → Bool := fun c => c == 0
abbrev R_law_told : Str := "SizeError"
abbrev s_meeting : Stmt := top 6
abbrev N_meeting : List Str := ["one", "other", "left", "top", "right", "bottom"]
theorem sc_meeting : FnScope ["one", "other", "left", "top", "right", "bottom"] ["one", "other"] (defScope s_meeting) := ⟨rfl, rfl, rfl, by decide +kernel, rfl, by decide +kernel, by decide +kernel⟩

abbrev s_Canvas_init : Stmt := inClass (top 7) 0
abbrev N_Canvas_init : List Str := ["self", "width", "height"]
theorem sc_Canvas_init : FnScope ["self", "width", "height"] ["self", "width", "height"] (defScope s_Canvas_init) := ⟨rfl, rfl, rfl, by decide +kernel, rfl, by decide +kernel, by decide +kernel⟩

abbrev s_Canvas_cell : Stmt := inClass (top 7) 1
abbrev N_Canvas_cell : List Str := ["self", "column", "row"]
theorem sc_Canvas_cell : FnScope ["self", "column", "row"] ["self", "column", "row"] (defScope s_Canvas_cell) := ⟨rfl, rfl, rfl, by decide +kernel, rfl, by decide +kernel, by decide +kernel⟩

abbrev s_Canvas_visible : Stmt := inClass (top 7) 2
abbrev N_Canvas_visible : List Str := ["self", "area", "clip"]
theorem sc_Canvas_visible : FnScope ["self", "area", "clip"] ["self", "area", "clip"] (defScope s_Canvas_visible) := ⟨rfl, rfl, rfl, by decide +kernel, rfl, by decide +kernel, by decide +kernel⟩

abbrev s_Canvas_fill : Stmt := inClass (top 7) 3
abbrev N_Canvas_fill : List Str := ["self", "area", "colour", "number", "clip", "left", "top", "width", "height", "row", "column", "letter", "front", "behind", "_"]
theorem sc_Canvas_fill : FnScope ["self", "area", "colour", "number", "clip", "left", "top", "width", "height", "row", "column", "letter", "front", "behind", "_"] ["self", "area", "colour", "number", "clip"] (defScope s_Canvas_fill) := ⟨rfl, rfl, rfl, by decide +kernel, rfl, by decide +kernel, by decide +kernel⟩

abbrev s_Canvas_write : Stmt := inClass (top 7) 4
abbrev N_Canvas_write : List Str := ["self", "column", "row", "text", "look", "clip", "colour", "background", "number", "left", "_", "width", "height", "place", "behind"]
theorem sc_Canvas_write : FnScope ["self", "column", "row", "text", "look", "clip", "colour", "background", "number", "left", "_", "width", "height", "place", "behind"] ["self", "column", "row", "text", "look", "clip"] (defScope s_Canvas_write) := ⟨rfl, rfl, rfl, by decide +kernel, rfl, by decide +kernel, by decide +kernel⟩

abbrev s_Canvas_shown : Stmt := inClass (top 7) 6
abbrev N_Canvas_shown : List Str := ["self", "rows", "row", "column"]
theorem sc_Canvas_shown : FnScope ["self", "rows", "row", "column"] ["self"] (defScope s_Canvas_shown) := ⟨rfl, rfl, rfl, by decide +kernel, rfl, by decide +kernel, by decide +kernel⟩

abbrev s_Canvas_letter_rows : Stmt := inClass (top 7) 5
abbrev N_Canvas_letter_rows : List Str := ["self", "row", "letter", "_"]
theorem sc_Canvas_letter_rows : FnScope ["self", "row", "letter", "_"] ["self"] (defScope s_Canvas_letter_rows) := ⟨rfl, rfl, rfl, by decide +kernel, rfl, by decide +kernel, by decide +kernel⟩

abbrev s_element_at : Stmt := top 8
abbrev N_element_at : List Str := ["canvas", "column", "row"]
theorem sc_element_at : FnScope ["canvas", "column", "row"] ["canvas", "column", "row"] (defScope s_element_at) := ⟨rfl, rfl, rfl, by decide +kernel, rfl, by decide +kernel, by decide +kernel⟩

abbrev s_law_dice : Stmt := top 10
abbrev N_law_dice : List Str := ["cell"]
theorem sc_law_dice : FnScope ["cell"] ["cell"] (defScope s_law_dice) := ⟨rfl, rfl, rfl, by decide +kernel, rfl, by decide +kernel, by decide +kernel⟩

abbrev s_law_roll : Stmt := top 11
abbrev N_law_roll : List Str := ["dice", "many", "found"]
theorem sc_law_roll : FnScope ["dice", "many", "found"] ["dice", "many"] (defScope s_law_roll) := ⟨rfl, rfl, rfl, by decide +kernel, rfl, by decide +kernel, by decide +kernel⟩

abbrev s_law_rounds : Stmt := top 12
abbrev N_law_rounds : List Str := ["script", "most", "cells", "cell"]
theorem sc_law_rounds : FnScope ["script", "most", "cells", "cell"] ["script", "most"] (defScope s_law_rounds) := ⟨rfl, rfl, rfl, by decide +kernel, rfl, by decide +kernel, by decide +kernel⟩

abbrev s_law_in : Stmt := top 14
abbrev N_law_in : List Str := ["area", "column", "row"]
theorem sc_law_in : FnScope ["area", "column", "row"] ["area", "column", "row"] (defScope s_law_in) := ⟨rfl, rfl, rfl, by decide +kernel, rfl, by decide +kernel, by decide +kernel⟩

abbrev s_law : Stmt := top 15
abbrev N_law : List Str := ["script", "dice", "width", "height", "cells", "step", "area", "clip", "colour", "number", "whole", "old", "text", "place", "sign", "row", "column", "due", "one", "other", "both", "shared", "canvas", "k", "spot"]
theorem sc_law : FnScope ["script", "dice", "width", "height", "cells", "step", "area", "clip", "colour", "number", "whole", "old", "text", "place", "sign", "row", "column", "due", "one", "other", "both", "shared", "canvas", "k", "spot"] ["script"] (defScope s_law) := ⟨rfl, rfl, rfl, by decide +kernel, rfl, by decide +kernel, by decide +kernel⟩

abbrev s_law_told : Stmt := top 13
theorem sc_law_told : FnScope ["what"] ["what"] (defScope s_law_told) := ⟨rfl, rfl, rfl, by decide +kernel, rfl, by decide +kernel, by decide +kernel⟩

structure Ad where
  meeting : Addr
  fd_meeting : FuncData
  Canvas_init : Addr
  fd_Canvas_init : FuncData
  Canvas_cell : Addr
  fd_Canvas_cell : FuncData
  Canvas_visible : Addr
  fd_Canvas_visible : FuncData
  Canvas_fill : Addr
  fd_Canvas_fill : FuncData
  Canvas_write : Addr
  fd_Canvas_write : FuncData
  Canvas_shown : Addr
  fd_Canvas_shown : FuncData
  code_Canvas_shown : Addr
  tab_Canvas_shown : Addr
  Canvas_letter_rows : Addr
  fd_Canvas_letter_rows : FuncData
  code_Canvas_letter_rows : Addr
  tab_Canvas_letter_rows : Addr
  element_at : Addr
  fd_element_at : FuncData
  law_dice : Addr
  fd_law_dice : FuncData
  law_roll : Addr
  fd_law_roll : FuncData
  law_rounds : Addr
  fd_law_rounds : FuncData
  law_in : Addr
  fd_law_in : FuncData
  law : Addr
  fd_law : FuncData
  code_law : Addr
  tab_law : Addr
  v_MOST_CELLS : Value
  o_EMPTY_CELL : Addr
  law_told : Addr
  fd_law_told : FuncData
structure Facts (P : Program) (w : World) (K : Kt) (mg : Str → Option Value) (base : Heap) (a : Ad) : Prop where
  bi : Vc.BIs mg
  f_meeting : Fun K.K "meeting" "meeting" s_meeting a.meeting a.fd_meeting
  g_meeting : mg "meeting" = some (.ref a.meeting)
  k_meeting : PySem.W.keepIn K.K (.ref a.meeting) = true
  b_meeting : Binds K.K a.fd_meeting ["one", "other"] []
  f_Canvas_init : Fun K.K "__init__" "Canvas.__init__" s_Canvas_init a.Canvas_init a.fd_Canvas_init
  M_Canvas : Mk K.K (K.cl i_Canvas) a.Canvas_init
  bi_Canvas : Binds K.K a.fd_Canvas_init ["self", "width", "height"] []
  f_Canvas_cell : Fun K.K "cell" "Canvas.cell" s_Canvas_cell a.Canvas_cell a.fd_Canvas_cell
  m_Canvas_cell : Meth K.K (K.cl i_Canvas) "cell" a.Canvas_cell
  b_Canvas_cell : Binds K.K a.fd_Canvas_cell ["self", "column", "row"] []
  f_Canvas_visible : Fun K.K "visible" "Canvas.visible" s_Canvas_visible a.Canvas_visible a.fd_Canvas_visible
  m_Canvas_visible : Meth K.K (K.cl i_Canvas) "visible" a.Canvas_visible
  b_Canvas_visible : Binds K.K a.fd_Canvas_visible ["self", "area", "clip"] []
  f_Canvas_fill : Fun K.K "fill" "Canvas.fill" s_Canvas_fill a.Canvas_fill a.fd_Canvas_fill
  m_Canvas_fill : Meth K.K (K.cl i_Canvas) "fill" a.Canvas_fill
  b_Canvas_fill : Binds K.K a.fd_Canvas_fill ["self", "area", "colour", "number", "clip"] []
  f_Canvas_write : Fun K.K "write" "Canvas.write" s_Canvas_write a.Canvas_write a.fd_Canvas_write
  m_Canvas_write : Meth K.K (K.cl i_Canvas) "write" a.Canvas_write
  b_Canvas_write : Binds K.K a.fd_Canvas_write ["self", "column", "row", "text", "look", "clip"] []
  f_Canvas_shown : FunC K.K "shown" "Canvas.shown" s_Canvas_shown a.Canvas_shown a.fd_Canvas_shown a.code_Canvas_shown
  t_Canvas_shown : a.tab_Canvas_shown ∈ K.T
  TG_Canvas_shown : GxR.TabB base mg a.code_Canvas_shown a.tab_Canvas_shown
  m_Canvas_shown : Meth K.K (K.cl i_Canvas) "shown" a.Canvas_shown
  b_Canvas_shown : Binds K.K a.fd_Canvas_shown ["self"] []
  f_Canvas_letter_rows : FunC K.K "letter_rows" "Canvas.letter_rows" s_Canvas_letter_rows a.Canvas_letter_rows a.fd_Canvas_letter_rows a.code_Canvas_letter_rows
  t_Canvas_letter_rows : a.tab_Canvas_letter_rows ∈ K.T
  TG_Canvas_letter_rows : GxR.TabB base mg a.code_Canvas_letter_rows a.tab_Canvas_letter_rows
  m_Canvas_letter_rows : Meth K.K (K.cl i_Canvas) "letter_rows" a.Canvas_letter_rows
  b_Canvas_letter_rows : Binds K.K a.fd_Canvas_letter_rows ["self"] []
  f_element_at : Fun K.K "element_at" "element_at" s_element_at a.element_at a.fd_element_at
  g_element_at : mg "element_at" = some (.ref a.element_at)
  k_element_at : PySem.W.keepIn K.K (.ref a.element_at) = true
  b_element_at : Binds K.K a.fd_element_at ["canvas", "column", "row"] []
  f_law_dice : Fun K.K "_law_dice" "_law_dice" s_law_dice a.law_dice a.fd_law_dice
  g_law_dice : mg "_law_dice" = some (.ref a.law_dice)
  k_law_dice : PySem.W.keepIn K.K (.ref a.law_dice) = true
  b_law_dice : Binds K.K a.fd_law_dice ["cell"] []
  f_law_roll : Fun K.K "_law_roll" "_law_roll" s_law_roll a.law_roll a.fd_law_roll
  g_law_roll : mg "_law_roll" = some (.ref a.law_roll)
  k_law_roll : PySem.W.keepIn K.K (.ref a.law_roll) = true
  b_law_roll : Binds K.K a.fd_law_roll ["dice", "many"] []
  f_law_rounds : Fun K.K "_law_rounds" "_law_rounds" s_law_rounds a.law_rounds a.fd_law_rounds
  g_law_rounds : mg "_law_rounds" = some (.ref a.law_rounds)
  k_law_rounds : PySem.W.keepIn K.K (.ref a.law_rounds) = true
  b_law_rounds : Binds K.K a.fd_law_rounds ["script", "most"] []
  f_law_in : Fun K.K "_law_in" "_law_in" s_law_in a.law_in a.fd_law_in
  g_law_in : mg "_law_in" = some (.ref a.law_in)
  k_law_in : PySem.W.keepIn K.K (.ref a.law_in) = true
  b_law_in : Binds K.K a.fd_law_in ["area", "column", "row"] []
  f_law : FunC K.K "law" "law" s_law a.law a.fd_law a.code_law
  t_law : (a.tab_law, (PyProof.Rows.envOfC "law" (defScope s_law) 0 0 .none).qual ++ ("<lambda>" : Str)) ∈ K.TS
  u_law : ∀ p ∈ K.TS, p.1 = a.tab_law → p.2 = (PyProof.Rows.envOfC "law" (defScope s_law) 0 0 .none).qual ++ ("<lambda>" : Str)
  TL_law : LamX.TabB base mg a.code_law a.tab_law
  g_law : mg "law" = some (.ref a.law)
  k_law : PySem.W.keepIn K.K (.ref a.law) = true
  b_law : Binds K.K a.fd_law ["script"] []
  g_SizeError : mg "SizeError" = some (.ref (K.cl i_SizeError))
  x_SizeError : PySem.W.excIn K.K (K.cl i_SizeError) [.type "ValueError", .type "Exception", .type "BaseException", .type "object"] "ValueError.__new__" = true
  kc_SizeError : PySem.W.keepIn K.K (.ref (K.cl i_SizeError)) = true
  rb_SizeError : PySem.W.subIn K.K (.ref (K.cl i_SizeError)) (.type "BaseException") = some true
  rt_SizeError : PySem.W.typeIn K.K (.ref (K.cl i_SizeError)) = some (.type "type")
  g_Canvas : mg "Canvas" = some (.ref (K.cl i_Canvas))
  c_Canvas : Cls K.K (K.cl i_Canvas)
  n_Canvas_width : NoAttr K.K (K.cl i_Canvas) "width"
  n_Canvas_height : NoAttr K.K (K.cl i_Canvas) "height"
  n_Canvas_cells : NoAttr K.K (K.cl i_Canvas) "cells"
  v_MOST_CELLS : mg "MOST_CELLS" = some a.v_MOST_CELLS
  r_MOST_CELLS : RelV (.int 20000) a.v_MOST_CELLS
  v_EMPTY_CELL : mg "EMPTY_CELL" = some (.ref a.o_EMPTY_CELL)
  s_EMPTY_CELL : StT K a.o_EMPTY_CELL [.str " ", .str "black", .str "white", .non]
  f_law_told : Fun K.K "_law_told" "_law_told" s_law_told a.law_told a.fd_law_told
  g_law_told : mg "_law_told" = some (.ref a.law_told)
  b_law_told : Binds K.K a.fd_law_told ["what"] []
  e_law_told : ∀ c, cg_law_told c = true → PySem.W.exmOne K.K (.ref (K.cl c)) (.ref (K.cl i_SizeError)) = some true
section
variable {P : Program} {w : World} {K : Kt} {mg : Str → Option Value} {base : Heap} {a : Ad}
def V_MOST_CELLS : Sl → M LV := mC (.int 20000)
theorem T_MOST_CELLS {X : Cx} {W : WX} {pos : Pos} (E : Facts P w K mg base a) (h1 : X.mg = mg) (hK : X.K = K.K) (h2 : Gl X "MOST_CELLS") : QE X K W (.Name "MOST_CELLS" pos) V_MOST_CELLS := qe_gl h2 (by rw [h1]; exact E.v_MOST_CELLS) E.r_MOST_CELLS (fun _ _ => .int _)
def V_EMPTY_CELL : Sl → M LV := mC (.st [.str " ", .str "black", .str "white", .non])
theorem T_EMPTY_CELL {X : Cx} {W : WX} {pos : Pos} (E : Facts P w K mg base a) (h1 : X.mg = mg) (hK : X.K = K.K) (h2 : Gl X "EMPTY_CELL") : QE X K W (.Name "EMPTY_CELL" pos) V_EMPTY_CELL := qe_st hK h2 (by rw [h1]; exact E.v_EMPTY_CELL) E.s_EMPTY_CELL (fun _ _ => .cons (.str _) (.cons (.str _) (.cons (.str _) (.cons (.non) .nil))))
theorem told_law_told (E : Facts P w K mg base a) {A : Around} {outer : List Env} {s : Shared} {H : Hp} {EX : XK} {W : WX} {params : Arguments} {body : Expr} {scope : Scope} {fb : Sl → M LV} {k : Nat} {p lpos pos : Pos} (hr : Room (k + 2) (cxOf (L2.CX P w) P w K.K mg base N_law "law" (defScope s_law) a.law (.ref a.code_law) A outer s H EX).A) (Ls : LamX.LamS (defScope s_law) scope)
    (hbody : ∀ (A' : Around) (outer' : List Env) (s' : Shared) (H' : Hp) (E' : XK) (f' c' : Addr), Room k (A'.deeper (LamX.lamEnv (cxOf (L2.CX P w) P w K.K mg base N_law "law" (defScope s_law) a.law (.ref a.code_law) A outer s H EX) scope s'.heap.objs.size f' c')) → QE (LamX.lamCx (cxOf (L2.CX P w) P w K.K mg base N_law "law" (defScope s_law) a.law (.ref a.code_law) A outer s H EX) A' outer' s' H' E' scope f' c') K (WD E') body fb)
    (hdef : defaultsOf params (cxOf (L2.CX P w) P w K.K mg base N_law "law" (defScope s_law) a.law (.ref a.code_law) A outer s H EX).env = ([], []) := by rfl)
    (hbind : ∀ (q : Str) (cl : List (Str × Addr)) (pm cv ctv : Value), bindArgs (PySem.W.kla_fn "<lambda>" q params body scope cl pm cv ctv) ⟨[], []⟩ = pure [] := by intros; rfl) :
    QE (cxOf (L2.CX P w) P w K.K mg base N_law "law" (defScope s_law) a.law (.ref a.code_law) A outer s H EX) K W (.Call (.Name "_law_told" p) [.Lambda params body scope lpos] [] pos) (mTold cg_law_told R_law_told fb) := by
  obtain ⟨⟨oc, od, kV, doc, pm, an, cdv, ct, osl, e1, lk, hcd⟩, kp⟩ := E.f_law_told
  have b := E.b_law_told
  rw [e1] at b lk
  exact qe_told (k := k) (Ng := ["what"]) (a := "what") (eN := "SizeError") rfl E.g_law_told kp lk hcd b sc_law_told rfl (.inl rfl) (fun _ => rfl) rfl E.g_SizeError (by decide) E.e_law_told E.t_law E.u_law E.TL_law rfl hr Ls hdef hbind hbody
def B_meeting : MS := (mSeq (mAsg (mBlt fMax (mCons (mOp gIx (mVar 0) (mC (.int 0))) (mCons (mOp gIx (mVar 1) (mC (.int 0))) mNil))) (gN 2))
  (mSeq (mAsg (mBlt fMax (mCons (mOp gIx (mVar 0) (mC (.int 1))) (mCons (mOp gIx (mVar 1) (mC (.int 1))) mNil))) (gN 3))
  (mSeq (mAsg (mBlt fMin (mCons (mOp gAdd (mOp gIx (mVar 0) (mC (.int 0))) (mOp gIx (mVar 0) (mC (.int 2)))) (mCons (mOp gAdd (mOp gIx (mVar 1) (mC (.int 0))) (mOp gIx (mVar 1) (mC (.int 2)))) mNil))) (gN 4))
  (mSeq (mAsg (mBlt fMin (mCons (mOp gAdd (mOp gIx (mVar 0) (mC (.int 1))) (mOp gIx (mVar 0) (mC (.int 3)))) (mCons (mOp gAdd (mOp gIx (mVar 1) (mC (.int 1))) (mOp gIx (mVar 1) (mC (.int 3)))) mNil))) (gN 5))
  (mRet (mTup (mCons (mVar 2) (mCons (mVar 3) (mCons (mBlt fMax (mCons (mC (.int 0)) (mCons (mOp gSub (mVar 4) (mVar 2)) mNil))) (mCons (mBlt fMax (mCons (mC (.int 0)) (mCons (mOp gSub (mVar 5) (mVar 3)) mNil))) mNil))))))))))
def F_meeting : List LV → M LV := callF 6 B_meeting
theorem ok_meeting (E : Facts P w K mg base a) : FnOk P w K.K mg base (L2.CX P w) 2 a.meeting a.fd_meeting ["one", "other"] (spF K 2 F_meeting) :=
  q_fn (k := 1) E.f_meeting sc_meeting fun cdv A outer s H EX hr => by
    have nd := sc_meeting.nd
    exact (qss_cons (qs_asg (qe_callB (cq_max rfl) rfl E.bi.max Vc.b_max (qa_cons (qe_ix rfl (qe_var (pv 0)) qe_int) (qa_cons (qe_ix rfl (qe_var (pv 1)) qe_int) qa_nil))) (qg_name (pg_name (i := 2) nd rfl (.inl rfl))))
  (qss_cons (qs_asg (qe_callB (cq_max rfl) rfl E.bi.max Vc.b_max (qa_cons (qe_ix rfl (qe_var (pv 0)) qe_int) (qa_cons (qe_ix rfl (qe_var (pv 1)) qe_int) qa_nil))) (qg_name (pg_name (i := 3) nd rfl (.inl rfl))))
  (qss_cons (qs_asg (qe_callB (cq_min rfl) rfl E.bi.min Vc.b_min (qa_cons (qe_op (oq_add rfl) (qe_ix rfl (qe_var (pv 0)) qe_int) (qe_ix rfl (qe_var (pv 0)) qe_int)) (qa_cons (qe_op (oq_add rfl) (qe_ix rfl (qe_var (pv 1)) qe_int) (qe_ix rfl (qe_var (pv 1)) qe_int)) qa_nil))) (qg_name (pg_name (i := 4) nd rfl (.inl rfl))))
  (qss_cons (qs_asg (qe_callB (cq_min rfl) rfl E.bi.min Vc.b_min (qa_cons (qe_op (oq_add rfl) (qe_ix rfl (qe_var (pv 0)) qe_int) (qe_ix rfl (qe_var (pv 0)) qe_int)) (qa_cons (qe_op (oq_add rfl) (qe_ix rfl (qe_var (pv 1)) qe_int) (qe_ix rfl (qe_var (pv 1)) qe_int)) qa_nil))) (qg_name (pg_name (i := 5) nd rfl (.inl rfl))))
  (qss_one (qs_ret (qe_tup (qa_cons (qe_var (pv 2)) (qa_cons (qe_var (pv 3)) (qa_cons (qe_callB (cq_max rfl) rfl E.bi.max Vc.b_max (qa_cons qe_int (qa_cons (qe_op oq_sub (qe_var (pv 4)) (qe_var (pv 2))) qa_nil))) (qa_cons (qe_callB (cq_max rfl) rfl E.bi.max Vc.b_max (qa_cons qe_int (qa_cons (qe_op oq_sub (qe_var (pv 5)) (qe_var (pv 3))) qa_nil))) qa_nil)))))))))))

def B_Canvas_init : MS := (mSeq (mIfS (mOr (mTest (mOp gLt (mVar 1) (mC (.int 1)))) (mOr (mTest (mOp gLt (mVar 2) (mC (.int 0)))) (mTest (mOp gGt (mOp gMul (mVar 1) (mVar 2)) V_MOST_CELLS))))
  (mRaise i_SizeError)
  mSkip)
  (mSeq (mSetFld i_Canvas "width" (mVar 0) (mVar 1))
  (mSeq (mSetFld i_Canvas "height" (mVar 0) (mVar 2))
  (mSetFld i_Canvas "cells" (mVar 0) (mDNew (.dT []))))))
def F_Canvas_init : List LV → M LV := callF 3 B_Canvas_init
theorem ok_Canvas_init (E : Facts P w K mg base a) : FnOk P w K.K mg base (L2.CX P w) 2 a.Canvas_init a.fd_Canvas_init ["self", "width", "height"] (spF K 3 F_Canvas_init) :=
  q_fn (k := 1) E.f_Canvas_init sc_Canvas_init fun cdv A outer s H EX hr => by
    have nd := sc_Canvas_init.nd
    exact (qss_cons (qs_if (QW.pt (qw_or (qt_cmp oq_lt (qe_var (pv 1)) qe_int (nomark _)) (qw_or (qt_cmp oq_lt (qe_var (pv 2)) qe_int (nomark _)) (qw_or1 (qt_cmp oq_gt (qe_op oq_mul (qe_var (pv 1)) (qe_var (pv 2))) (T_MOST_CELLS E rfl rfl rfl) (nomark _))))))
  (qss_one (qs_raise rfl tkE (pmk_own PySem.F.excBase_ValueError E.x_SizeError E.g_SizeError E.kc_SizeError (raises_own E.rb_SizeError E.rt_SizeError) rfl)))
  qss_nil)
  (qss_cons (qs_fld rfl (qe_var (pv 0)) (qe_var (pv 1)) E.c_Canvas E.n_Canvas_width)
  (qss_cons (qs_fld rfl (qe_var (pv 0)) (qe_var (pv 2)) E.c_Canvas E.n_Canvas_height)
  (qss_one (qs_fld rfl (qe_var (pv 0)) qe_dnewT E.c_Canvas E.n_Canvas_cells)))))

def B_Canvas_cell : MS := (mSeq (mIfS (mOr (mNot (mTest (mChain gLe gLt (mC (.int 0)) (mVar 1) (mFld i_Canvas "width" (mVar 0))))) (mNot (mTest (mChain gLe gLt (mC (.int 0)) (mVar 2) (mFld i_Canvas "height" (mVar 0))))))
  (mRaise i_SizeError)
  mSkip)
  (mRet (mDGet2 (mFld i_Canvas "cells" (mVar 0)) (mTup (mCons (mVar 1) (mCons (mVar 2) mNil))) V_EMPTY_CELL)))
def F_Canvas_cell : List LV → M LV := callF 3 B_Canvas_cell
theorem ok_Canvas_cell (E : Facts P w K mg base a) : FnOk P w K.K mg base (L2.CX P w) 2 a.Canvas_cell a.fd_Canvas_cell ["self", "column", "row"] (spF K 3 F_Canvas_cell) :=
  q_fn (k := 1) E.f_Canvas_cell sc_Canvas_cell fun cdv A outer s H EX hr => by
    have nd := sc_Canvas_cell.nd
    exact (qss_cons (qs_if (QW.pt (qw_or (qt_not (qt_chain oq_le oq_lt qe_int (qe_var (pv 1)) (qe_fld rfl (qe_var (pv 0)) E.c_Canvas E.n_Canvas_width))) (qw_or1 (qt_not (qt_chain oq_le oq_lt qe_int (qe_var (pv 2)) (qe_fld rfl (qe_var (pv 0)) E.c_Canvas E.n_Canvas_height))))))
  (qss_one (qs_raise rfl tkE (pmk_own PySem.F.excBase_ValueError E.x_SizeError E.g_SizeError E.kc_SizeError (raises_own E.rb_SizeError E.rt_SizeError) rfl)))
  qss_nil)
  (qss_one (qs_ret (qe_dget2 (hu_of hr) (qe_fld rfl (qe_var (pv 0)) E.c_Canvas E.n_Canvas_cells) (qe_tup (qa_cons (qe_var (pv 1)) (qa_cons (qe_var (pv 2)) qa_nil))) (T_EMPTY_CELL E rfl rfl rfl)))))

def B_Canvas_visible : MS := (mRet (mCall F_meeting [] (mCons (mCall F_meeting [] (mCons (mVar 1) (mCons (mVar 2) mNil))) (mCons (mTup (mCons (mC (.int 0)) (mCons (mC (.int 0)) (mCons (mFld i_Canvas "width" (mVar 0)) (mCons (mFld i_Canvas "height" (mVar 0)) mNil))))) mNil))))
def F_Canvas_visible : List LV → M LV := callF 3 B_Canvas_visible
theorem ok_Canvas_visible (E : Facts P w K mg base a) : FnOk P w K.K mg base (L2.CX P w) 3 a.Canvas_visible a.fd_Canvas_visible ["self", "area", "clip"] (spF K 3 F_Canvas_visible) :=
  q_fn (k := 2) E.f_Canvas_visible sc_Canvas_visible fun cdv A outer s H EX hr => by
    have nd := sc_Canvas_visible.nd
    exact (qss_one (qs_ret (qe_call (ok_meeting E) (hr.mono (by decide)) rfl E.g_meeting E.k_meeting E.b_meeting .nil (fun _ _ => .nil) tkE (qa_cons (qe_call (ok_meeting E) (hr.mono (by decide)) rfl E.g_meeting E.k_meeting E.b_meeting .nil (fun _ _ => .nil) tkE (qa_cons (qe_var (pv 1)) (qa_cons (qe_var (pv 2)) qa_nil)) rfl (len_cons (len_cons len_nil))) (qa_cons (qe_tup (qa_cons qe_int (qa_cons qe_int (qa_cons (qe_fld rfl (qe_var (pv 0)) E.c_Canvas E.n_Canvas_width) (qa_cons (qe_fld rfl (qe_var (pv 0)) E.c_Canvas E.n_Canvas_height) qa_nil))))) qa_nil)) rfl (len_cons (len_cons len_nil)))))

def B_Canvas_fill : MS := (mSeq (mAsg (mMeth i_Canvas "visible" F_Canvas_visible [] (mVar 0) (mCons (mVar 1) (mCons (mVar 4) mNil))) (gT 4 (gCons (gN 5) (gCons (gN 6) (gCons (gN 7) (gCons (gN 8) gNil))))))
  (mFor (mI range2 (mCons (mVar 6) (mCons (mOp gAdd (mVar 6) (mVar 8)) mNil))) (gN 9)
  (mFor (mI range2 (mCons (mVar 5) (mCons (mOp gAdd (mVar 5) (mVar 7)) mNil))) (gN 10)
  (mIfS (mTest (mOp (gEq false) (mVar 2) (mC (.str "none"))))
  (mSeq (mAsg (mMeth i_Canvas "cell" F_Canvas_cell [] (mVar 0) (mCons (mVar 10) (mCons (mVar 9) mNil))) (gT 4 (gCons (gN 11) (gCons (gN 12) (gCons (gN 13) (gCons (gN 14) gNil))))))
  (mDPut (mFld i_Canvas "cells" (mVar 0)) (mTup (mCons (mVar 10) (mCons (mVar 9) mNil))) (mTup (mCons (mVar 11) (mCons (mVar 12) (mCons (mVar 13) (mCons (mVar 3) mNil)))))))
  (mDPut (mFld i_Canvas "cells" (mVar 0)) (mTup (mCons (mVar 10) (mCons (mVar 9) mNil))) (mTup (mCons (mC (.str " ")) (mCons (mC (.str "black")) (mCons (mVar 2) (mCons (mVar 3) mNil))))))))))
def F_Canvas_fill : List LV → M LV := callF 15 B_Canvas_fill
theorem ok_Canvas_fill (E : Facts P w K mg base a) : FnOk P w K.K mg base (L2.CX P w) 4 a.Canvas_fill a.fd_Canvas_fill ["self", "area", "colour", "number", "clip"] (spF K 5 F_Canvas_fill) :=
  q_fn (k := 3) E.f_Canvas_fill sc_Canvas_fill fun cdv A outer s H EX hr => by
    have nd := sc_Canvas_fill.nd
    exact (qss_cons (qs_asg (qe_meth (qe_var (pv 0)) E.c_Canvas E.m_Canvas_visible (ok_Canvas_visible E) (hr.mono (by decide)) E.b_Canvas_visible .nil (fun _ _ => .nil) tkE (qa_cons (qe_var (pv 1)) (qa_cons (qe_var (pv 4)) qa_nil)) rfl (len_cons (len_cons len_nil))) (qg_tup rfl rfl (qgs_cons (qg_name (pg_name (i := 5) nd rfl (.inl rfl))) (qgs_cons (qg_name (pg_name (i := 6) nd rfl (.inl rfl))) (qgs_cons (qg_name (pg_name (i := 7) nd rfl (.inl rfl))) (qgs_cons (qg_name (pg_name (i := 8) nd rfl (.inl rfl))) qgs_nil))))))
  (qss_one (qs_for own_def rfl (qi_range2 rfl E.bi.range (qa_cons (qe_var (pv 6)) (qa_cons (qe_op (oq_add rfl) (qe_var (pv 6)) (qe_var (pv 8))) qa_nil))) (qg_name (pg_name (i := 9) nd rfl (.inl rfl)))
  (qss_one (qs_for own_def rfl (qi_range2 rfl E.bi.range (qa_cons (qe_var (pv 5)) (qa_cons (qe_op (oq_add rfl) (qe_var (pv 5)) (qe_var (pv 7))) qa_nil))) (qg_name (pg_name (i := 10) nd rfl (.inl rfl)))
  (qss_one (qs_if (qt_cmp (oq_eq rfl (hu64 hr)) (qe_var (pv 2)) qe_str (nomark _))
  (qss_cons (qs_asg (qe_meth (qe_var (pv 0)) E.c_Canvas E.m_Canvas_cell (ok_Canvas_cell E) (hr.mono (by decide)) E.b_Canvas_cell .nil (fun _ _ => .nil) tkE (qa_cons (qe_var (pv 10)) (qa_cons (qe_var (pv 9)) qa_nil)) rfl (len_cons (len_cons len_nil))) (qg_tup rfl rfl (qgs_cons (qg_name (pg_name (i := 11) nd rfl (.inl rfl))) (qgs_cons (qg_name (pg_name (i := 12) nd rfl (.inl rfl))) (qgs_cons (qg_name (pg_name (i := 13) nd rfl (.inl rfl))) (qgs_cons (qg_name (pg_name (i := 14) nd rfl (.inl rfl))) qgs_nil))))))
  (qss_one (qs_dput (hu_of hr) (qe_fld rfl (qe_var (pv 0)) E.c_Canvas E.n_Canvas_cells) (qe_tup (qa_cons (qe_var (pv 10)) (qa_cons (qe_var (pv 9)) qa_nil))) (qe_tup (qa_cons (qe_var (pv 11)) (qa_cons (qe_var (pv 12)) (qa_cons (qe_var (pv 13)) (qa_cons (qe_var (pv 3)) qa_nil))))))))
  (qss_one (qs_dput (hu_of hr) (qe_fld rfl (qe_var (pv 0)) E.c_Canvas E.n_Canvas_cells) (qe_tup (qa_cons (qe_var (pv 10)) (qa_cons (qe_var (pv 9)) qa_nil))) (qe_tup (qa_cons qe_str (qa_cons qe_str (qa_cons (qe_var (pv 2)) (qa_cons (qe_var (pv 3)) qa_nil))))))))))))))

def B_Canvas_write : MS := (mSeq (mAsg (mVar 4) (gT 3 (gCons (gN 6) (gCons (gN 7) (gCons (gN 8) gNil)))))
  (mSeq (mAsg (mMeth i_Canvas "visible" F_Canvas_visible [] (mVar 0) (mCons (mTup (mCons (mVar 1) (mCons (mVar 2) (mCons (mBlt fLen (mCons (mVar 3) mNil)) (mCons (mC (.int 1)) mNil))))) (mCons (mVar 5) mNil))) (gT 4 (gCons (gN 9) (gCons (gN 10) (gCons (gN 11) (gCons (gN 12) gNil))))))
  (mSeq (mIfS (mTest (mOp (gEq false) (mVar 12) (mC (.int 0))))
  mRetN
  mSkip)
  (mFor (mI range2 (mCons (mVar 9) (mCons (mOp gAdd (mVar 9) (mVar 11)) mNil))) (gN 13)
  (mSeq (mAsg (mIf (mTest (mOp (gEq false) (mVar 7) (mC (.str "none")))) (mOp gIx (mMeth i_Canvas "cell" F_Canvas_cell [] (mVar 0) (mCons (mVar 13) (mCons (mVar 2) mNil))) (mC (.int 2))) (mVar 7)) (gN 14))
  (mDPut (mFld i_Canvas "cells" (mVar 0)) (mTup (mCons (mVar 13) (mCons (mVar 2) mNil))) (mTup (mCons (mOp gIx (mVar 3) (mOp gSub (mVar 13) (mVar 1))) (mCons (mVar 6) (mCons (mVar 14) (mCons (mVar 8) mNil)))))))))))
def F_Canvas_write : List LV → M LV := callF 15 B_Canvas_write
theorem ok_Canvas_write (E : Facts P w K mg base a) : FnOk P w K.K mg base (L2.CX P w) 4 a.Canvas_write a.fd_Canvas_write ["self", "column", "row", "text", "look", "clip"] (spF K 6 F_Canvas_write) :=
  q_fn (k := 3) E.f_Canvas_write sc_Canvas_write fun cdv A outer s H EX hr => by
    have nd := sc_Canvas_write.nd
    exact (qss_cons (qs_asg (qe_var (pv 4)) (qg_tup rfl rfl (qgs_cons (qg_name (pg_name (i := 6) nd rfl (.inl rfl))) (qgs_cons (qg_name (pg_name (i := 7) nd rfl (.inl rfl))) (qgs_cons (qg_name (pg_name (i := 8) nd rfl (.inl rfl))) qgs_nil)))))
  (qss_cons (qs_asg (qe_meth (qe_var (pv 0)) E.c_Canvas E.m_Canvas_visible (ok_Canvas_visible E) (hr.mono (by decide)) E.b_Canvas_visible .nil (fun _ _ => .nil) tkE (qa_cons (qe_tup (qa_cons (qe_var (pv 1)) (qa_cons (qe_var (pv 2)) (qa_cons (qe_callB (cq_len rfl) rfl E.bi.len Vc.b_len (qa_cons (qe_var (pv 3)) qa_nil)) (qa_cons qe_int qa_nil))))) (qa_cons (qe_var (pv 5)) qa_nil)) rfl (len_cons (len_cons len_nil))) (qg_tup rfl rfl (qgs_cons (qg_name (pg_name (i := 9) nd rfl (.inl rfl))) (qgs_cons (qg_name (pg_name (i := 10) nd rfl (.inl rfl))) (qgs_cons (qg_name (pg_name (i := 11) nd rfl (.inl rfl))) (qgs_cons (qg_name (pg_name (i := 12) nd rfl (.inl rfl))) qgs_nil))))))
  (qss_cons (qs_if (qt_cmp (oq_eq rfl (hu64 hr)) (qe_var (pv 12)) qe_int (nomark _))
  (qss_one qs_retN)
  qss_nil)
  (qss_one (qs_for own_def rfl (qi_range2 rfl E.bi.range (qa_cons (qe_var (pv 9)) (qa_cons (qe_op (oq_add rfl) (qe_var (pv 9)) (qe_var (pv 11))) qa_nil))) (qg_name (pg_name (i := 13) nd rfl (.inl rfl)))
  (qss_cons (qs_asg (qe_ifExp (qt_cmp (oq_eq rfl (hu64 hr)) (qe_var (pv 7)) qe_str (nomark _)) (qe_ix rfl (qe_meth (qe_var (pv 0)) E.c_Canvas E.m_Canvas_cell (ok_Canvas_cell E) (hr.mono (by decide)) E.b_Canvas_cell .nil (fun _ _ => .nil) tkE (qa_cons (qe_var (pv 13)) (qa_cons (qe_var (pv 2)) qa_nil)) rfl (len_cons (len_cons len_nil))) qe_int) (qe_var (pv 7))) (qg_name (pg_name (i := 14) nd rfl (.inl rfl))))
  (qss_one (qs_dput (hu_of hr) (qe_fld rfl (qe_var (pv 0)) E.c_Canvas E.n_Canvas_cells) (qe_tup (qa_cons (qe_var (pv 13)) (qa_cons (qe_var (pv 2)) qa_nil))) (qe_tup (qa_cons (qe_ix rfl (qe_var (pv 3)) (qe_op oq_sub (qe_var (pv 13)) (qe_var (pv 1)))) (qa_cons (qe_var (pv 6)) (qa_cons (qe_var (pv 14)) (qa_cons (qe_var (pv 8)) qa_nil)))))))))))))

def B_Canvas_shown : MS := (mSeq (mAsg (mLst mNil) (gN 1))
  (mSeq (mFor (mI range1 (mCons (mFld i_Canvas "height" (mVar 0)) mNil)) (gN 2)
  (mDrop (mBM "list" gAppend (mVar 1) (mCons (mTupG (mLc (mI range1 (mCons (mFld i_Canvas "width" (mVar 0)) mNil)) (gN 3) mYes (mSl (mMeth i_Canvas "cell" F_Canvas_cell [] (mVar 0) (mCons (mVar 3) (mCons (mVar 2) mNil))) mNoP (mPart (mC (.int 3)))) [3])) mNil))))
  (mRet (mBlt fTuple (mCons (mVar 1) mNil)))))
def F_Canvas_shown : List LV → M LV := callF 4 B_Canvas_shown
theorem ok_Canvas_shown (E : Facts P w K mg base a) : FnOk P w K.K mg base (L2.CX P w) 8 a.Canvas_shown a.fd_Canvas_shown ["self"] (spF K 1 F_Canvas_shown) :=
  q_fnC (k := 7) E.f_Canvas_shown sc_Canvas_shown fun A outer s H EX hr => by
    have nd := sc_Canvas_shown.nd
    exact (qss_cons (qs_asg (qe_lst qa_nil) (qg_name (pg_name (i := 1) nd rfl (.inl rfl))))
  (qss_cons (qs_for own_def rfl (qi_range1 rfl E.bi.range (qa_cons (qe_fld rfl (qe_var (pv 0)) E.c_Canvas E.n_Canvas_height) qa_nil)) (qg_name (pg_name (i := 2) nd rfl (.inr rfl)))
  (qss_one (qs_expr (qe_bm rfl PySem.F.plainAttrs_list PySem.F.slot_list_append PySem.F.type_list_append mq_append (qe_var (pv 1)) (qa_cons (qe_tupG (qgen_gx (k := 2) (ix := [3]) (own := [("column", 3)]) E.t_Canvas_shown nd hr.depth E.TG_Canvas_shown rfl (blkOk_by (N := N_Canvas_shown) (sc := defScope s_Canvas_shown) (by decide +kernel)) (qi_range1 rfl E.bi.range (qa_cons (qe_fld rfl (qe_var (pv 0)) E.c_Canvas E.n_Canvas_width) qa_nil)) (by decide) (fun _ _ _ _ _ _ hg => by exact (qg_name (pg_name (i := 3) nd rfl (.inl rfl)))) (fun _ _ _ _ _ _ hg => by exact qts_nil) (fun _ _ _ _ _ _ hg => by exact (qe_slice rfl (qe_meth (qe_var (pv 0)) E.c_Canvas E.m_Canvas_cell (ok_Canvas_cell E) (hg.mono (by decide)) E.b_Canvas_cell .nil (fun _ _ => .nil) takes0 (qa_cons (qe_var (pv 3)) (qa_cons (qe_var (pv 2)) qa_nil)) rfl (len_cons (len_cons len_nil))) qo_none (qo_some qe_int)))) (hr.mono (by decide)) rfl E.bi.tuple) qa_nil)))))
  (qss_one (qs_ret (qe_callTy (cq_tuple rfl) rfl E.bi.tuple Vc.b_tuple (qa_cons (qe_var (pv 1)) qa_nil))))))

def B_Canvas_letter_rows : MS := (mRet (mTupG (mLc (mIt (mMeth i_Canvas "shown" F_Canvas_shown [] (mVar 0) mNil)) (gN 1) mYes (mJoin (mC (.str "")) (mLc (mIt (mVar 1)) (gT 3 (gCons (gN 2) (gCons (gN 3) (gCons (gN 3) gNil)))) mYes (mVar 2) [2, 3])) [1])))
def F_Canvas_letter_rows : List LV → M LV := callF 4 B_Canvas_letter_rows
theorem ok_Canvas_letter_rows (E : Facts P w K mg base a) : FnOk P w K.K mg base (L2.CX P w) 9 a.Canvas_letter_rows a.fd_Canvas_letter_rows ["self"] (spF K 1 F_Canvas_letter_rows) :=
  q_fnC (k := 8) E.f_Canvas_letter_rows sc_Canvas_letter_rows fun A outer s H EX hr => by
    have nd := sc_Canvas_letter_rows.nd
    exact (qss_one (qs_ret (qe_tupG (qgen_gx (k := 1) (ix := [1]) (own := [("row", 1)]) E.t_Canvas_letter_rows nd hr.depth E.TG_Canvas_letter_rows rfl (blkOk_by (N := N_Canvas_letter_rows) (sc := defScope s_Canvas_letter_rows) (by decide +kernel)) (qi_val rfl (qe_meth0 (qe_var (pv 0)) E.c_Canvas E.m_Canvas_shown (ok_Canvas_shown E) (hr.mono (by decide)) E.b_Canvas_shown .nil (fun _ _ => .nil) tkE rfl)) (by decide) (fun _ _ _ _ _ _ hg => by exact (qg_name (pg_name (i := 1) nd rfl (.inl rfl)))) (fun _ _ _ _ _ _ hg => by exact qts_nil) (fun _ _ _ _ _ _ hg => by exact (qe_join rfl qe_str (by exact qe_lc (ix := [2, 3, 3]) (own := [("letter", 2), ("_", 3)]) rfl nd (qi_val rfl (qe_var (pv 1))) (blkOk_by (by kernel_rfl)) (by decide) (fun _ _ _ _ _ => by exact (qg_tup rfl rfl (qgs_cons (qg_name (pg_name (i := 2) nd rfl (.inl rfl))) (qgs_cons (qg_name (pg_name (i := 3) nd rfl (.inl rfl))) (qgs_cons (qg_name (pg_name (i := 3) nd rfl (.inl rfl))) qgs_nil))))) (fun _ _ _ _ _ => by exact qts_nil) (fun _ _ _ _ _ => by exact (qe_var (pv 2))))))) (hr.mono (by decide)) rfl E.bi.tuple)))

def B_element_at : MS := (mRet (mOp gIx (mMeth i_Canvas "cell" F_Canvas_cell [] (mVar 0) (mCons (mVar 1) (mCons (mVar 2) mNil))) (mC (.int 3))))
def F_element_at : List LV → M LV := callF 3 B_element_at
theorem ok_element_at (E : Facts P w K mg base a) : FnOk P w K.K mg base (L2.CX P w) 3 a.element_at a.fd_element_at ["canvas", "column", "row"] (spF K 3 F_element_at) :=
  q_fn (k := 2) E.f_element_at sc_element_at fun cdv A outer s H EX hr => by
    have nd := sc_element_at.nd
    exact (qss_one (qs_ret (qe_ix rfl (qe_meth (qe_var (pv 0)) E.c_Canvas E.m_Canvas_cell (ok_Canvas_cell E) (hr.mono (by decide)) E.b_Canvas_cell .nil (fun _ _ => .nil) tkE (qa_cons (qe_var (pv 1)) (qa_cons (qe_var (pv 2)) qa_nil)) rfl (len_cons (len_cons len_nil))) qe_int)))

def B_law_dice : MS := (mSeq (mIfS (mTest (mChain gLt gLt (mOp gSub (mC (.int 0)) (mC (.int 10))) (mVar 0) (mC (.int 10))))
  (mRet (mLst (mCons (mBlt fAbs (mCons (mVar 0) mNil)) (mCons (mC (.int 0)) (mCons (mC (.int 2)) mNil)))))
  mSkip)
  (mRet (mLst (mCons (mVar 0) (mCons (mOp gAdd (mC (.int 1)) (mOp gMod (mBlt fInt (mCons (mVar 0) mNil)) (mC (.int 1009)))) (mCons (mBlt fInt (mCons (mOp gGe (mVar 0) (mOp gPow (mC (.int 10)) (mC (.int 18)))) mNil)) mNil))))))
def F_law_dice : List LV → M LV := callF 1 B_law_dice
theorem ok_law_dice (E : Facts P w K mg base a) : FnOk P w K.K mg base (L2.CX P w) 2 a.law_dice a.fd_law_dice ["cell"] (spF K 1 F_law_dice) :=
  q_fn (k := 1) E.f_law_dice sc_law_dice fun cdv A outer s H EX hr => by
    have nd := sc_law_dice.nd
    exact (qss_cons (qs_if (qt_chain oq_lt oq_lt (qe_op oq_sub qe_int qe_int) (qe_var (pv 0)) qe_int)
  (qss_one (qs_ret (qe_lst (qa_cons (qe_callB cq_abs rfl E.bi.abs Vc.b_abs (qa_cons (qe_var (pv 0)) qa_nil)) (qa_cons qe_int (qa_cons qe_int qa_nil))))))
  qss_nil)
  (qss_one (qs_ret (qe_lst (qa_cons (qe_var (pv 0)) (qa_cons (qe_op (oq_add rfl) qe_int (qe_op oq_mod (qe_callTy cq_int rfl E.bi.int Vc.b_int (qa_cons (qe_var (pv 0)) qa_nil)) qe_int)) (qa_cons (qe_callTy cq_int rfl E.bi.int Vc.b_int (qa_cons (qe_cmp oq_ge (qe_var (pv 0)) (qe_op oq_pow qe_int qe_int) (nomark _)) qa_nil)) qa_nil)))))))

def B_law_roll : MS := (mSeq (mIfS (mOr (mTest (mOp (gEq false) (mOp gIx (mVar 0) (mC (.int 2))) (mC (.int 2)))) (mAnd (mTest (mOp (gEq false) (mOp gIx (mVar 0) (mC (.int 2))) (mC (.int 1)))) (mTest (mOp gGt (mOp gIx (mVar 0) (mC (.int 0))) (mC (.int 0))))))
  (mSeq (mAsg (mOp gMod (mBlt fInt (mCons (mOp gIx (mVar 0) (mC (.int 0))) mNil)) (mVar 1)) (gN 2))
  (mSeq (mSetIx (mVar 0) (mC (.int 0)) (mOp gFdiv (mOp gIx (mVar 0) (mC (.int 0))) (mVar 1)))
  (mRet (mVar 2))))
  mSkip)
  (mSeq (mSetIx (mVar 0) (mC (.int 2)) (mC (.int 0)))
  (mSeq (mSetIx (mVar 0) (mC (.int 0)) (mOp gMod (mBlt fInt (mCons (mOp gAdd (mOp gAdd (mOp gMul (mOp gIx (mVar 0) (mC (.int 0))) (mC (.int 48271))) (mOp gMul (mOp gIx (mVar 0) (mC (.int 1))) (mC (.int 69621)))) (mC (.int 11))) mNil)) (mC (.int 2147483647))))
  (mSeq (mSetIx (mVar 0) (mC (.int 1)) (mOp gAdd (mOp gIx (mVar 0) (mC (.int 1))) (mC (.int 1))))
  (mRet (mOp gMod (mBlt fInt (mCons (mOp gFdiv (mOp gIx (mVar 0) (mC (.int 0))) (mC (.int 7))) mNil)) (mVar 1)))))))
def F_law_roll : List LV → M LV := callF 3 B_law_roll
theorem ok_law_roll (E : Facts P w K mg base a) : FnOk P w K.K mg base (L2.CX P w) 2 a.law_roll a.fd_law_roll ["dice", "many"] (spF K 2 F_law_roll) :=
  q_fn (k := 1) E.f_law_roll sc_law_roll fun cdv A outer s H EX hr => by
    have nd := sc_law_roll.nd
    exact (qss_cons (qs_if (QW.pt (qw_or (qt_cmp (oq_eq rfl (hu64 hr)) (qe_ix rfl (qe_var (pv 0)) qe_int) qe_int (nomark _)) (qw_or1 (QW.pt (qw_and (qt_cmp (oq_eq rfl (hu64 hr)) (qe_ix rfl (qe_var (pv 0)) qe_int) qe_int (nomark _)) (qw_and1 (qt_cmp oq_gt (qe_ix rfl (qe_var (pv 0)) qe_int) qe_int (nomark _))))))))
  (qss_cons (qs_asg (qe_op oq_mod (qe_callTy cq_int rfl E.bi.int Vc.b_int (qa_cons (qe_ix rfl (qe_var (pv 0)) qe_int) qa_nil)) (qe_var (pv 1))) (qg_name (pg_name (i := 2) nd rfl (.inl rfl))))
  (qss_cons (qs_setIx (qe_op oq_fdiv (qe_ix rfl (qe_var (pv 0)) qe_int) (qe_var (pv 1))) (qe_var (pv 0)) qe_int)
  (qss_one (qs_ret (qe_var (pv 2))))))
  qss_nil)
  (qss_cons (qs_setIx qe_int (qe_var (pv 0)) qe_int)
  (qss_cons (qs_setIx (qe_op oq_mod (qe_callTy cq_int rfl E.bi.int Vc.b_int (qa_cons (qe_op (oq_add rfl) (qe_op (oq_add rfl) (qe_op oq_mul (qe_ix rfl (qe_var (pv 0)) qe_int) qe_int) (qe_op oq_mul (qe_ix rfl (qe_var (pv 0)) qe_int) qe_int)) qe_int) qa_nil)) qe_int) (qe_var (pv 0)) qe_int)
  (qss_cons (qs_setIx (qe_op (oq_add rfl) (qe_ix rfl (qe_var (pv 0)) qe_int) qe_int) (qe_var (pv 0)) qe_int)
  (qss_one (qs_ret (qe_op oq_mod (qe_callTy cq_int rfl E.bi.int Vc.b_int (qa_cons (qe_op oq_fdiv (qe_ix rfl (qe_var (pv 0)) qe_int) qe_int) qa_nil)) (qe_var (pv 1)))))))))

def B_law_rounds : MS := (mSeq (mAsg (mSl (mVar 0) mNoP (mPart (mVar 1))) (gN 2))
  (mSeq (mIfS (mTest (mOp (gEq false) (mVar 2) (mFl mNil)))
  (mAsg (mFl (mCons (mC (.int 0)) mNil)) (gN 2))
  mSkip)
  (mRet (mLc (mIt (mVar 2)) (gN 3) mYes (mCall F_law_dice [] (mCons (mVar 3) mNil)) [3]))))
def F_law_rounds : List LV → M LV := callF 4 B_law_rounds
theorem ok_law_rounds (E : Facts P w K mg base a) : FnOk P w K.K mg base (L2.CX P w) 3 a.law_rounds a.fd_law_rounds ["script", "most"] (spF K 2 F_law_rounds) :=
  q_fn (k := 2) E.f_law_rounds sc_law_rounds fun cdv A outer s H EX hr => by
    have nd := sc_law_rounds.nd
    exact (qss_cons (qs_asg (qe_slice rfl (qe_var (pv 0)) qo_none (qo_some (qe_var (pv 1)))) (qg_name (pg_name (i := 2) nd rfl (.inl rfl))))
  (qss_cons (qs_if (qt_cmp (oq_eq rfl (hu64 hr)) (qe_var (pv 2)) (qe_fl qa_nil) (nomark _))
  (qss_one (qs_asg (qe_fl (qa_cons qe_int qa_nil)) (qg_name (pg_name (i := 2) nd rfl (.inl rfl)))))
  qss_nil)
  (qss_one (qs_ret (qe_lc (ix := [3]) (own := [("cell", 3)]) rfl nd (qi_val rfl (qe_var (pv 2))) (blkOk_by (N := N_law_rounds) (sc := defScope s_law_rounds) (by decide +kernel)) (by decide) (fun _ _ _ _ _ => by exact (qg_name (pg_name (i := 3) nd rfl (.inl rfl)))) (fun _ _ _ _ _ => by exact qts_nil) (fun _ _ _ _ _ => by exact (qe_call (ok_law_dice E) (hr.mono (by decide)) rfl E.g_law_dice E.k_law_dice E.b_law_dice .nil (fun _ _ => .nil) takes0 (qa_cons (qe_var (pv 3)) qa_nil) rfl (len_cons len_nil))))))))

def B_law_in : MS := (mRet (mAndV (mChain gLe gLt (mOp gIx (mVar 0) (mC (.int 0))) (mVar 1) (mOp gAdd (mOp gIx (mVar 0) (mC (.int 0))) (mOp gIx (mVar 0) (mC (.int 2))))) (mChain gLe gLt (mOp gIx (mVar 0) (mC (.int 1))) (mVar 2) (mOp gAdd (mOp gIx (mVar 0) (mC (.int 1))) (mOp gIx (mVar 0) (mC (.int 3)))))))
def F_law_in : List LV → M LV := callF 3 B_law_in
theorem ok_law_in (E : Facts P w K mg base a) : FnOk P w K.K mg base (L2.CX P w) 2 a.law_in a.fd_law_in ["area", "column", "row"] (spF K 3 F_law_in) :=
  q_fn (k := 1) E.f_law_in sc_law_in fun cdv A outer s H EX hr => by
    have nd := sc_law_in.nd
    exact (qss_one (qs_ret (qe_and (qe_chain oq_le oq_lt (qe_ix rfl (qe_var (pv 0)) qe_int) (qe_var (pv 1)) (qe_op (oq_add rfl) (qe_ix rfl (qe_var (pv 0)) qe_int) (qe_ix rfl (qe_var (pv 0)) qe_int))) (qe_one (qe_chain oq_le oq_lt (qe_ix rfl (qe_var (pv 0)) qe_int) (qe_var (pv 2)) (qe_op (oq_add rfl) (qe_ix rfl (qe_var (pv 0)) qe_int) (qe_ix rfl (qe_var (pv 0)) qe_int)))))))

def B_law : MS := (mSeq (mFor (mIt (mCall F_law_rounds [] (mCons (mVar 0) (mCons (mC (.int 1)) mNil)))) (gN 1)
  (mSeq (mAsg (mTup (mCons (mOp gAdd (mC (.int 1)) (mCall F_law_roll [] (mCons (mVar 1) (mCons (mC (.int 30)) mNil)))) (mCons (mCall F_law_roll [] (mCons (mVar 1) (mCons (mC (.int 21)) mNil))) (mCons (mDNew (.dT [])) mNil)))) (gT 3 (gCons (gN 2) (gCons (gN 3) (gCons (gN 4) gNil)))))
  (mSeq (mAsg (mMake i_Canvas F_Canvas_init [] (mCons (mVar 2) (mCons (mVar 3) mNil))) (gN 22))
  (mSeq (mFor (mI range1 (mCons (mCall F_law_roll [] (mCons (mVar 1) (mCons (mC (.int 21)) mNil))) mNil)) (gN 5)
  (mSeq (mAsg (mTup (mCons (mOp gSub (mCall F_law_roll [] (mCons (mVar 1) (mCons (mC (.int 40)) mNil))) (mC (.int 5))) (mCons (mOp gSub (mCall F_law_roll [] (mCons (mVar 1) (mCons (mC (.int 30)) mNil))) (mC (.int 5))) (mCons (mCall F_law_roll [] (mCons (mVar 1) (mCons (mC (.int 15)) mNil))) (mCons (mCall F_law_roll [] (mCons (mVar 1) (mCons (mC (.int 10)) mNil))) mNil))))) (gN 6))
  (mSeq (mAsg (mOp gIx (mFl (mCons (mTup (mCons (mC (.int 0)) (mCons (mC (.int 0)) (mCons (mVar 2) (mCons (mVar 3) mNil))))) (mCons (mTup (mCons (mCall F_law_roll [] (mCons (mVar 1) (mCons (mC (.int 10)) mNil))) (mCons (mCall F_law_roll [] (mCons (mVar 1) (mCons (mC (.int 10)) mNil))) (mCons (mCall F_law_roll [] (mCons (mVar 1) (mCons (mC (.int 20)) mNil))) (mCons (mCall F_law_roll [] (mCons (mVar 1) (mCons (mC (.int 20)) mNil))) mNil))))) mNil))) (mCall F_law_roll [] (mCons (mVar 1) (mCons (mC (.int 2)) mNil)))) (gN 7))
  (mSeq (mPar 8 9 (mCons (mOp gIx (mFl (mCons (mC (.str "red")) (mCons (mC (.str "none")) (mCons (mC (.str "blue")) mNil)))) (mCall F_law_roll [] (mCons (mVar 1) (mCons (mC (.int 3)) mNil)))) (mCons (mCall F_law_roll [] (mCons (mVar 1) (mCons (mC (.int 50)) mNil))) mNil)))
  (mSeq (mAsg (mTup (mCons (mBlt fMax (mCons (mC (.int 0)) (mCons (mOp gIx (mVar 7) (mC (.int 0))) mNil))) (mCons (mBlt fMax (mCons (mC (.int 0)) (mCons (mOp gIx (mVar 7) (mC (.int 1))) mNil))) (mCons (mOp gSub (mBlt fMin (mCons (mVar 2) (mCons (mOp gAdd (mOp gIx (mVar 7) (mC (.int 0))) (mOp gIx (mVar 7) (mC (.int 2)))) mNil))) (mBlt fMax (mCons (mC (.int 0)) (mCons (mOp gIx (mVar 7) (mC (.int 0))) mNil)))) (mCons (mOp gSub (mBlt fMin (mCons (mVar 3) (mCons (mOp gAdd (mOp gIx (mVar 7) (mC (.int 1))) (mOp gIx (mVar 7) (mC (.int 3)))) mNil))) (mBlt fMax (mCons (mC (.int 0)) (mCons (mOp gIx (mVar 7) (mC (.int 1))) mNil)))) mNil))))) (gN 10))
  (mIfS (mTest (mOp (gEq false) (mCall F_law_roll [] (mCons (mVar 1) (mCons (mC (.int 2)) mNil))) (mC (.int 0))))
  (mSeq (mDrop (mMeth i_Canvas "fill" F_Canvas_fill [] (mVar 22) (mCons (mVar 6) (mCons (mVar 8) (mCons (mVar 9) (mCons (mVar 7) mNil))))))
  (mFor (mI range2 (mCons (mOp gIx (mVar 6) (mC (.int 0))) (mCons (mOp gAdd (mOp gIx (mVar 6) (mC (.int 0))) (mOp gIx (mVar 6) (mC (.int 2)))) mNil))) (gN 16)
  (mFor (mI range2 (mCons (mOp gIx (mVar 6) (mC (.int 1))) (mCons (mOp gAdd (mOp gIx (mVar 6) (mC (.int 1))) (mOp gIx (mVar 6) (mC (.int 3)))) mNil))) (gN 15)
  (mIfS (mTest (mCall F_law_in [] (mCons (mVar 10) (mCons (mVar 16) (mCons (mVar 15) mNil)))))
  (mSeq (mAsg (mDGet2 (mVar 4) (mTup (mCons (mVar 16) (mCons (mVar 15) mNil))) (mTup (mCons (mC (.str " ")) (mCons (mC (.str "black")) (mCons (mC (.str "white")) (mCons (mC .non) mNil)))))) (gN 11))
  (mDPut (mVar 4) (mTup (mCons (mVar 16) (mCons (mVar 15) mNil))) (mIf (mTest (mOp (gEq false) (mVar 8) (mC (.str "none")))) (mOp gAdd (mSl (mVar 11) mNoP (mPart (mC (.int 3)))) (mTup (mCons (mVar 9) mNil))) (mTup (mCons (mC (.str " ")) (mCons (mC (.str "black")) (mCons (mVar 8) (mCons (mVar 9) mNil))))))))
  mSkip))))
  (mSeq (mAsg (mSl (mC (.str "abcdefgh")) mNoP (mPart (mCall F_law_roll [] (mCons (mVar 1) (mCons (mC (.int 9)) mNil))))) (gN 12))
  (mSeq (mDrop (mMeth i_Canvas "write" F_Canvas_write [] (mVar 22) (mCons (mOp gIx (mVar 6) (mC (.int 0))) (mCons (mOp gIx (mVar 6) (mC (.int 1))) (mCons (mVar 12) (mCons (mTup (mCons (mC (.str "green")) (mCons (mVar 8) (mCons (mVar 9) mNil)))) (mCons (mVar 7) mNil)))))))
  (mFor (mI enumS (mCons (mVar 12) mNil)) (gT 2 (gCons (gN 13) (gCons (gN 14) gNil)))
  (mIfS (mTest (mCall F_law_in [] (mCons (mVar 10) (mCons (mOp gAdd (mOp gIx (mVar 6) (mC (.int 0))) (mVar 13)) (mCons (mOp gIx (mVar 6) (mC (.int 1))) mNil)))))
  (mSeq (mAsg (mDGet2 (mVar 4) (mTup (mCons (mOp gAdd (mOp gIx (mVar 6) (mC (.int 0))) (mVar 13)) (mCons (mOp gIx (mVar 6) (mC (.int 1))) mNil))) (mTup (mCons (mC (.str " ")) (mCons (mC (.str "black")) (mCons (mC (.str "white")) (mCons (mC .non) mNil)))))) (gN 11))
  (mDPut (mVar 4) (mTup (mCons (mOp gAdd (mOp gIx (mVar 6) (mC (.int 0))) (mVar 13)) (mCons (mOp gIx (mVar 6) (mC (.int 1))) mNil))) (mTup (mCons (mVar 14) (mCons (mC (.str "green")) (mCons (mIf (mTest (mOp (gEq false) (mVar 8) (mC (.str "none")))) (mOp gIx (mVar 11) (mC (.int 2))) (mVar 8)) (mCons (mVar 9) mNil)))))))
  mSkip))))))))))
  (mSeq (mAsg (mLc (mI range1 (mCons (mVar 3) mNil)) (gN 15) mYes (mLc (mI range1 (mCons (mVar 2) mNil)) (gN 16) mYes (mDGet2 (mVar 4) (mTup (mCons (mVar 16) (mCons (mVar 15) mNil))) (mTup (mCons (mC (.str " ")) (mCons (mC (.str "black")) (mCons (mC (.str "white")) (mCons (mC .non) mNil)))))) [16]) [15]) (gN 17))
  (mSeq (mIfS (mOr (mTest (mOp (gEq true) (mLc (mI range1 (mCons (mVar 3) mNil)) (gN 15) mYes (mLc (mI range1 (mCons (mVar 2) mNil)) (gN 16) mYes (mMeth i_Canvas "cell" F_Canvas_cell [] (mVar 22) (mCons (mVar 16) (mCons (mVar 15) mNil))) [16]) [15]) (mVar 17))) (mTest (mOp (gEq true) (mMeth i_Canvas "shown" F_Canvas_shown [] (mVar 22) mNil) (mBlt fTuple (mCons (mLc (mIt (mVar 17)) (gN 15) mYes (mBlt fTuple (mCons (mLc (mIt (mVar 15)) (gN 18) mYes (mSl (mVar 18) mNoP (mPart (mC (.int 3)))) [18]) mNil)) [15]) mNil)))))
  (mRet (mC (.bl false)))
  mSkip)
  (mSeq (mIfS (mOr (mTest (mOp (gEq true) (mBlt fList (mCons (mMeth i_Canvas "letter_rows" F_Canvas_letter_rows [] (mVar 22) mNil) mNil)) (mLc (mIt (mVar 17)) (gN 15) mYes (mJoin (mC (.str "")) (mLc (mIt (mVar 15)) (gN 18) mYes (mOp gIx (mVar 18) (mC (.int 0))) [18])) [15]))) (mTest (mOp (gEq true) (mLc (mI range1 (mCons (mVar 3) mNil)) (gN 15) mYes (mLc (mI range1 (mCons (mVar 2) mNil)) (gN 16) mYes (mCall F_element_at [] (mCons (mVar 22) (mCons (mVar 16) (mCons (mVar 15) mNil)))) [16]) [15]) (mLc (mIt (mVar 17)) (gN 15) mYes (mLc (mIt (mVar 15)) (gN 18) mYes (mOp gIx (mVar 18) (mC (.int 3))) [18]) [15]))))
  (mRet (mC (.bl false)))
  mSkip)
  (mSeq (mAsg (mTup (mCons (mOp gSub (mCall F_law_roll [] (mCons (mVar 1) (mCons (mC (.int 40)) mNil))) (mC (.int 5))) (mCons (mOp gSub (mCall F_law_roll [] (mCons (mVar 1) (mCons (mC (.int 30)) mNil))) (mC (.int 5))) mNil))) (gT 2 (gCons (gN 16) (gCons (gN 15) gNil))))
  (mSeq (mIfS (mTest (mOp (gEq true) (mOp (gEq false) (mTold cg_law_told R_law_told (mMeth i_Canvas "cell" F_Canvas_cell [] (mVar 22) (mCons (mVar 16) (mCons (mVar 15) mNil)))) (mC (.str "SizeError"))) (mOrV (mNotV (mChain gLe gLt (mC (.int 0)) (mVar 16) (mVar 2))) (mNotV (mChain gLe gLt (mC (.int 0)) (mVar 15) (mVar 3))))))
  (mRet (mC (.bl false)))
  mSkip)
  (mSeq (mAsg (mTup (mCons (mCall F_law_roll [] (mCons (mVar 1) (mCons (mC (.int 9)) mNil))) (mCons (mCall F_law_roll [] (mCons (mVar 1) (mCons (mC (.int 9)) mNil))) (mCons (mCall F_law_roll [] (mCons (mVar 1) (mCons (mC (.int 9)) mNil))) (mCons (mCall F_law_roll [] (mCons (mVar 1) (mCons (mC (.int 9)) mNil))) mNil))))) (gN 18))
  (mSeq (mAsg (mTup (mCons (mCall F_law_roll [] (mCons (mVar 1) (mCons (mC (.int 9)) mNil))) (mCons (mCall F_law_roll [] (mCons (mVar 1) (mCons (mC (.int 9)) mNil))) (mCons (mCall F_law_roll [] (mCons (mVar 1) (mCons (mC (.int 9)) mNil))) (mCons (mCall F_law_roll [] (mCons (mVar 1) (mCons (mC (.int 9)) mNil))) mNil))))) (gN 19))
  (mSeq (mAsg (mCall F_meeting [] (mCons (mVar 18) (mCons (mVar 19) mNil))) (gN 20))
  (mSeq (mAsg (mLc (mI range1 (mCons (mC (.int 400)) mNil)) (gN 23) (mAnd (mTest (mCall F_law_in [] (mCons (mVar 18) (mCons (mOp gFdiv (mVar 23) (mC (.int 20))) (mCons (mOp gSub (mVar 23) (mOp gMul (mOp gFdiv (mVar 23) (mC (.int 20))) (mC (.int 20)))) mNil))))) (mTest (mCall F_law_in [] (mCons (mVar 19) (mCons (mOp gFdiv (mVar 23) (mC (.int 20))) (mCons (mOp gSub (mVar 23) (mOp gMul (mOp gFdiv (mVar 23) (mC (.int 20))) (mC (.int 20)))) mNil)))))) (mTup (mCons (mOp gFdiv (mVar 23) (mC (.int 20))) (mCons (mOp gSub (mVar 23) (mOp gMul (mOp gFdiv (mVar 23) (mC (.int 20))) (mC (.int 20)))) mNil))) [23]) (gN 21))
  (mIfS (mOr (mTest (mOp (gEq true) (mLc (mIt (mVar 21)) (gN 24) (mNot (mTest (mCall F_law_in [] (mCons (mVar 20) (mCons (mOp gIx (mVar 24) (mC (.int 0))) (mCons (mOp gIx (mVar 24) (mC (.int 1))) mNil)))))) (mVar 24) [24]) (mFl mNil))) (mOr (mTest (mOp (gEq true) (mOp gMul (mOp gIx (mVar 20) (mC (.int 2))) (mOp gIx (mVar 20) (mC (.int 3)))) (mBlt fLen (mCons (mVar 21) mNil)))) (mTest (mOp gLt (mBlt fMin (mCons (mOp gIx (mVar 20) (mC (.int 2))) (mCons (mOp gIx (mVar 20) (mC (.int 3))) mNil))) (mC (.int 0))))))
  (mRet (mC (.bl false)))
  mSkip))))))))))))))
  (mRet (mAndV (mOp (gEq false) (mTold cg_law_told R_law_told (mMake i_Canvas F_Canvas_init [] (mCons (mC (.int 0)) (mCons (mC (.int 5)) mNil)))) (mC (.str "SizeError"))) (mOp (gEq false) (mTold cg_law_told R_law_told (mMake i_Canvas F_Canvas_init [] (mCons (mC (.int 200)) (mCons (mC (.int 101)) mNil)))) (mC (.str "SizeError"))))))
def F_law : List LV → M LV := callF 25 B_law
theorem ok_law (E : Facts P w K mg base a) : FnOk P w K.K mg base (L2.CX P w) 10 a.law a.fd_law ["script"] (spF K 1 F_law) :=
  q_fnC (k := 9) E.f_law sc_law fun A outer s H EX hr => by
    have nd := sc_law.nd
    exact (qss_cons (qs_for own_def rfl (qi_val rfl (qe_call (ok_law_rounds E) (hr.mono (by decide)) rfl E.g_law_rounds E.k_law_rounds E.b_law_rounds .nil (fun _ _ => .nil) tkE (qa_cons (qe_var (pv 0)) (qa_cons qe_int qa_nil)) rfl (len_cons (len_cons len_nil)))) (qg_name (pg_name (i := 1) nd rfl (.inl rfl)))
  (qss_cons (qs_asg (qe_tup (qa_cons (qe_op (oq_add rfl) qe_int (qe_call (ok_law_roll E) (hr.mono (by decide)) rfl E.g_law_roll E.k_law_roll E.b_law_roll .nil (fun _ _ => .nil) tkE (qa_cons (qe_var (pv 1)) (qa_cons qe_int qa_nil)) rfl (len_cons (len_cons len_nil)))) (qa_cons (qe_call (ok_law_roll E) (hr.mono (by decide)) rfl E.g_law_roll E.k_law_roll E.b_law_roll .nil (fun _ _ => .nil) tkE (qa_cons (qe_var (pv 1)) (qa_cons qe_int qa_nil)) rfl (len_cons (len_cons len_nil))) (qa_cons qe_dnewT qa_nil)))) (qg_tup rfl rfl (qgs_cons (qg_name (pg_name (i := 2) nd rfl (.inr rfl))) (qgs_cons (qg_name (pg_name (i := 3) nd rfl (.inl rfl))) (qgs_cons (qg_name (pg_name (i := 4) nd rfl (.inr rfl))) qgs_nil)))))
  (qss_cons (qs_asg (qe_make E.M_Canvas (ok_Canvas_init E) (hr.mono (by decide)) rfl E.g_Canvas E.bi_Canvas .nil (fun _ _ => .nil) tkE (qa_cons (qe_var (pv 2)) (qa_cons (qe_var (pv 3)) qa_nil)) rfl (len_cons (len_cons len_nil))) (qg_name (pg_name (i := 22) nd rfl (.inr rfl))))
  (qss_cons (qs_for own_def rfl (qi_range1 rfl E.bi.range (qa_cons (qe_call (ok_law_roll E) (hr.mono (by decide)) rfl E.g_law_roll E.k_law_roll E.b_law_roll .nil (fun _ _ => .nil) tkE (qa_cons (qe_var (pv 1)) (qa_cons qe_int qa_nil)) rfl (len_cons (len_cons len_nil))) qa_nil)) (qg_name (pg_name (i := 5) nd rfl (.inl rfl)))
  (qss_cons (qs_asg (qe_tup (qa_cons (qe_op oq_sub (qe_call (ok_law_roll E) (hr.mono (by decide)) rfl E.g_law_roll E.k_law_roll E.b_law_roll .nil (fun _ _ => .nil) tkE (qa_cons (qe_var (pv 1)) (qa_cons qe_int qa_nil)) rfl (len_cons (len_cons len_nil))) qe_int) (qa_cons (qe_op oq_sub (qe_call (ok_law_roll E) (hr.mono (by decide)) rfl E.g_law_roll E.k_law_roll E.b_law_roll .nil (fun _ _ => .nil) tkE (qa_cons (qe_var (pv 1)) (qa_cons qe_int qa_nil)) rfl (len_cons (len_cons len_nil))) qe_int) (qa_cons (qe_call (ok_law_roll E) (hr.mono (by decide)) rfl E.g_law_roll E.k_law_roll E.b_law_roll .nil (fun _ _ => .nil) tkE (qa_cons (qe_var (pv 1)) (qa_cons qe_int qa_nil)) rfl (len_cons (len_cons len_nil))) (qa_cons (qe_call (ok_law_roll E) (hr.mono (by decide)) rfl E.g_law_roll E.k_law_roll E.b_law_roll .nil (fun _ _ => .nil) tkE (qa_cons (qe_var (pv 1)) (qa_cons qe_int qa_nil)) rfl (len_cons (len_cons len_nil))) qa_nil))))) (qg_name (pg_name (i := 6) nd rfl (.inl rfl))))
  (qss_cons (qs_asg (qe_ix rfl (qe_fl (qa_cons (qe_tup (qa_cons qe_int (qa_cons qe_int (qa_cons (qe_var (pv 2)) (qa_cons (qe_var (pv 3)) qa_nil))))) (qa_cons (qe_tup (qa_cons (qe_call (ok_law_roll E) (hr.mono (by decide)) rfl E.g_law_roll E.k_law_roll E.b_law_roll .nil (fun _ _ => .nil) tkE (qa_cons (qe_var (pv 1)) (qa_cons qe_int qa_nil)) rfl (len_cons (len_cons len_nil))) (qa_cons (qe_call (ok_law_roll E) (hr.mono (by decide)) rfl E.g_law_roll E.k_law_roll E.b_law_roll .nil (fun _ _ => .nil) tkE (qa_cons (qe_var (pv 1)) (qa_cons qe_int qa_nil)) rfl (len_cons (len_cons len_nil))) (qa_cons (qe_call (ok_law_roll E) (hr.mono (by decide)) rfl E.g_law_roll E.k_law_roll E.b_law_roll .nil (fun _ _ => .nil) tkE (qa_cons (qe_var (pv 1)) (qa_cons qe_int qa_nil)) rfl (len_cons (len_cons len_nil))) (qa_cons (qe_call (ok_law_roll E) (hr.mono (by decide)) rfl E.g_law_roll E.k_law_roll E.b_law_roll .nil (fun _ _ => .nil) tkE (qa_cons (qe_var (pv 1)) (qa_cons qe_int qa_nil)) rfl (len_cons (len_cons len_nil))) qa_nil))))) qa_nil))) (qe_call (ok_law_roll E) (hr.mono (by decide)) rfl E.g_law_roll E.k_law_roll E.b_law_roll .nil (fun _ _ => .nil) tkE (qa_cons (qe_var (pv 1)) (qa_cons qe_int qa_nil)) rfl (len_cons (len_cons len_nil)))) (qg_name (pg_name (i := 7) nd rfl (.inl rfl))))
  (qss_cons (qs_par (i := 8) (j := 9) rfl nd rfl rfl (by decide) rfl rfl (qa_cons (qe_ix rfl (qe_fl (qa_cons qe_str (qa_cons qe_str (qa_cons qe_str qa_nil)))) (qe_call (ok_law_roll E) (hr.mono (by decide)) rfl E.g_law_roll E.k_law_roll E.b_law_roll .nil (fun _ _ => .nil) tkE (qa_cons (qe_var (pv 1)) (qa_cons qe_int qa_nil)) rfl (len_cons (len_cons len_nil)))) (qa_cons (qe_call (ok_law_roll E) (hr.mono (by decide)) rfl E.g_law_roll E.k_law_roll E.b_law_roll .nil (fun _ _ => .nil) tkE (qa_cons (qe_var (pv 1)) (qa_cons qe_int qa_nil)) rfl (len_cons (len_cons len_nil))) qa_nil)) (by rfl))
  (qss_cons (qs_asg (qe_tup (qa_cons (qe_callB (cq_max rfl) rfl E.bi.max Vc.b_max (qa_cons qe_int (qa_cons (qe_ix rfl (qe_var (pv 7)) qe_int) qa_nil))) (qa_cons (qe_callB (cq_max rfl) rfl E.bi.max Vc.b_max (qa_cons qe_int (qa_cons (qe_ix rfl (qe_var (pv 7)) qe_int) qa_nil))) (qa_cons (qe_op oq_sub (qe_callB (cq_min rfl) rfl E.bi.min Vc.b_min (qa_cons (qe_var (pv 2)) (qa_cons (qe_op (oq_add rfl) (qe_ix rfl (qe_var (pv 7)) qe_int) (qe_ix rfl (qe_var (pv 7)) qe_int)) qa_nil))) (qe_callB (cq_max rfl) rfl E.bi.max Vc.b_max (qa_cons qe_int (qa_cons (qe_ix rfl (qe_var (pv 7)) qe_int) qa_nil)))) (qa_cons (qe_op oq_sub (qe_callB (cq_min rfl) rfl E.bi.min Vc.b_min (qa_cons (qe_var (pv 3)) (qa_cons (qe_op (oq_add rfl) (qe_ix rfl (qe_var (pv 7)) qe_int) (qe_ix rfl (qe_var (pv 7)) qe_int)) qa_nil))) (qe_callB (cq_max rfl) rfl E.bi.max Vc.b_max (qa_cons qe_int (qa_cons (qe_ix rfl (qe_var (pv 7)) qe_int) qa_nil)))) qa_nil))))) (qg_name (pg_name (i := 10) nd rfl (.inl rfl))))
  (qss_one (qs_if (qt_cmp (oq_eq rfl (hu64 hr)) (qe_call (ok_law_roll E) (hr.mono (by decide)) rfl E.g_law_roll E.k_law_roll E.b_law_roll .nil (fun _ _ => .nil) tkE (qa_cons (qe_var (pv 1)) (qa_cons qe_int qa_nil)) rfl (len_cons (len_cons len_nil))) qe_int (nomark _))
  (qss_cons (qs_expr (qe_meth (qe_var (pv 22)) E.c_Canvas E.m_Canvas_fill (ok_Canvas_fill E) (hr.mono (by decide)) E.b_Canvas_fill .nil (fun _ _ => .nil) tkE (qa_cons (qe_var (pv 6)) (qa_cons (qe_var (pv 8)) (qa_cons (qe_var (pv 9)) (qa_cons (qe_var (pv 7)) qa_nil)))) rfl (len_cons (len_cons (len_cons (len_cons len_nil))))))
  (qss_one (qs_for own_def rfl (qi_range2 rfl E.bi.range (qa_cons (qe_ix rfl (qe_var (pv 6)) qe_int) (qa_cons (qe_op (oq_add rfl) (qe_ix rfl (qe_var (pv 6)) qe_int) (qe_ix rfl (qe_var (pv 6)) qe_int)) qa_nil))) (qg_name (pg_name (i := 16) nd rfl (.inr rfl)))
  (qss_one (qs_for own_def rfl (qi_range2 rfl E.bi.range (qa_cons (qe_ix rfl (qe_var (pv 6)) qe_int) (qa_cons (qe_op (oq_add rfl) (qe_ix rfl (qe_var (pv 6)) qe_int) (qe_ix rfl (qe_var (pv 6)) qe_int)) qa_nil))) (qg_name (pg_name (i := 15) nd rfl (.inr rfl)))
  (qss_one (qs_if (qt_val (qe_call (ok_law_in E) (hr.mono (by decide)) rfl E.g_law_in E.k_law_in E.b_law_in .nil (fun _ _ => .nil) tkE (qa_cons (qe_var (pv 10)) (qa_cons (qe_var (pv 16)) (qa_cons (qe_var (pv 15)) qa_nil))) rfl (len_cons (len_cons (len_cons len_nil)))))
  (qss_cons (qs_asg (qe_dget2 (hu_of hr) (qe_var (pv 4)) (qe_tup (qa_cons (qe_var (pv 16)) (qa_cons (qe_var (pv 15)) qa_nil))) (qe_tup (qa_cons qe_str (qa_cons qe_str (qa_cons qe_str (qa_cons qe_non qa_nil)))))) (qg_name (pg_name (i := 11) nd rfl (.inl rfl))))
  (qss_one (qs_dput (hu_of hr) (qe_var (pv 4)) (qe_tup (qa_cons (qe_var (pv 16)) (qa_cons (qe_var (pv 15)) qa_nil))) (qe_ifExp (qt_cmp (oq_eq rfl (hu64 hr)) (qe_var (pv 8)) qe_str (nomark _)) (qe_op (oq_add rfl) (qe_slice rfl (qe_var (pv 11)) qo_none (qo_some qe_int)) (qe_tup (qa_cons (qe_var (pv 9)) qa_nil))) (qe_tup (qa_cons qe_str (qa_cons qe_str (qa_cons (qe_var (pv 8)) (qa_cons (qe_var (pv 9)) qa_nil)))))))))
  qss_nil)))))))
  (qss_cons (qs_asg (qe_slice rfl qe_str qo_none (qo_some (qe_call (ok_law_roll E) (hr.mono (by decide)) rfl E.g_law_roll E.k_law_roll E.b_law_roll .nil (fun _ _ => .nil) tkE (qa_cons (qe_var (pv 1)) (qa_cons qe_int qa_nil)) rfl (len_cons (len_cons len_nil))))) (qg_name (pg_name (i := 12) nd rfl (.inl rfl))))
  (qss_cons (qs_expr (qe_meth (qe_var (pv 22)) E.c_Canvas E.m_Canvas_write (ok_Canvas_write E) (hr.mono (by decide)) E.b_Canvas_write .nil (fun _ _ => .nil) tkE (qa_cons (qe_ix rfl (qe_var (pv 6)) qe_int) (qa_cons (qe_ix rfl (qe_var (pv 6)) qe_int) (qa_cons (qe_var (pv 12)) (qa_cons (qe_tup (qa_cons qe_str (qa_cons (qe_var (pv 8)) (qa_cons (qe_var (pv 9)) qa_nil)))) (qa_cons (qe_var (pv 7)) qa_nil))))) rfl (len_cons (len_cons (len_cons (len_cons (len_cons len_nil)))))))
  (qss_one (qs_for own_def rfl (qi_enumS rfl E.bi.enumerate (qa_cons (qe_var (pv 12)) qa_nil)) (qg_tup rfl rfl (qgs_cons (qg_name (pg_name (i := 13) nd rfl (.inl rfl))) (qgs_cons (qg_name (pg_name (i := 14) nd rfl (.inl rfl))) qgs_nil)))
  (qss_one (qs_if (qt_val (qe_call (ok_law_in E) (hr.mono (by decide)) rfl E.g_law_in E.k_law_in E.b_law_in .nil (fun _ _ => .nil) tkE (qa_cons (qe_var (pv 10)) (qa_cons (qe_op (oq_add rfl) (qe_ix rfl (qe_var (pv 6)) qe_int) (qe_var (pv 13))) (qa_cons (qe_ix rfl (qe_var (pv 6)) qe_int) qa_nil))) rfl (len_cons (len_cons (len_cons len_nil)))))
  (qss_cons (qs_asg (qe_dget2 (hu_of hr) (qe_var (pv 4)) (qe_tup (qa_cons (qe_op (oq_add rfl) (qe_ix rfl (qe_var (pv 6)) qe_int) (qe_var (pv 13))) (qa_cons (qe_ix rfl (qe_var (pv 6)) qe_int) qa_nil))) (qe_tup (qa_cons qe_str (qa_cons qe_str (qa_cons qe_str (qa_cons qe_non qa_nil)))))) (qg_name (pg_name (i := 11) nd rfl (.inl rfl))))
  (qss_one (qs_dput (hu_of hr) (qe_var (pv 4)) (qe_tup (qa_cons (qe_op (oq_add rfl) (qe_ix rfl (qe_var (pv 6)) qe_int) (qe_var (pv 13))) (qa_cons (qe_ix rfl (qe_var (pv 6)) qe_int) qa_nil))) (qe_tup (qa_cons (qe_var (pv 14)) (qa_cons qe_str (qa_cons (qe_ifExp (qt_cmp (oq_eq rfl (hu64 hr)) (qe_var (pv 8)) qe_str (nomark _)) (qe_ix rfl (qe_var (pv 11)) qe_int) (qe_var (pv 8))) (qa_cons (qe_var (pv 9)) qa_nil))))))))
  qss_nil)))))))))))))
  (qss_cons (qs_setLc (k := 17) (ix := [15]) (own := [("row", 15)]) rfl nd rfl rfl (sw_true rfl rfl rfl (by decide +kernel)) (qi_range1 rfl E.bi.range (qa_cons (qe_var (pv 3)) qa_nil)) (blkOk_by (N := N_law) (sc := defScope s_law) (by decide +kernel)) (by decide) (fun _ _ _ _ _ => by exact (qg_name (pg_name (i := 15) nd rfl (.inr rfl)))) (fun _ _ _ _ _ => by exact qts_nil) (fun _ _ _ _ _ => by exact (by exact qe_lc (ix := [16]) (own := [("column", 16)]) rfl nd (qi_range1 rfl E.bi.range (qa_cons (qe_var (pv 2)) qa_nil)) (blkOk_by (by kernel_rfl)) (by decide) (fun _ _ _ _ _ => by exact (qg_name (pg_name (i := 16) nd rfl (.inl rfl)))) (fun _ _ _ _ _ => by exact qts_nil) (fun _ _ _ _ _ => by exact (qe_dget2 (hu_of hr) (qe_var (pv 4)) (qe_tup (qa_cons (qe_var (pv 16)) (qa_cons (qe_var (pv 15)) qa_nil))) (qe_tup (qa_cons qe_str (qa_cons qe_str (qa_cons qe_str (qa_cons qe_non qa_nil))))))))))
  (qss_cons (qs_if (QW.pt (qw_or (qt_cmp (oq_ne rfl (hu64 hr)) (qe_lc (ix := [15]) (own := [("row", 15)]) rfl nd (qi_range1 rfl E.bi.range (qa_cons (qe_var (pv 3)) qa_nil)) (blkOk_by (N := N_law) (sc := defScope s_law) (by decide +kernel)) (by decide) (fun _ _ _ _ _ => by exact (qg_name (pg_name (i := 15) nd rfl (.inr rfl)))) (fun _ _ _ _ _ => by exact qts_nil) (fun _ _ _ _ _ => by exact (by exact qe_lc (ix := [16]) (own := [("column", 16)]) rfl nd (qi_range1 rfl E.bi.range (qa_cons (qe_var (pv 2)) qa_nil)) (blkOk_by (by kernel_rfl)) (by decide) (fun _ _ _ _ _ => by exact (qg_name (pg_name (i := 16) nd rfl (.inl rfl)))) (fun _ _ _ _ _ => by exact qts_nil) (fun _ _ _ _ _ => by exact (qe_meth (qe_var (pv 22)) E.c_Canvas E.m_Canvas_cell (ok_Canvas_cell E) (hr.mono (by decide)) E.b_Canvas_cell .nil (fun _ _ => .nil) takes0 (qa_cons (qe_var (pv 16)) (qa_cons (qe_var (pv 15)) qa_nil)) rfl (len_cons (len_cons len_nil))))))) (qe_var (pv 17)) (nomark _)) (qw_or1 (qt_cmp (oq_ne rfl (hu64 hr)) (qe_meth0 (qe_var (pv 22)) E.c_Canvas E.m_Canvas_shown (ok_Canvas_shown E) (hr.mono (by decide)) E.b_Canvas_shown .nil (fun _ _ => .nil) tkE rfl) (qe_callTy (cq_tuple rfl) rfl E.bi.tuple Vc.b_tuple (qa_cons (qe_lc (ix := [15]) (own := [("row", 15)]) rfl nd (qi_val rfl (qe_var (pv 17))) (blkOk_by (N := N_law) (sc := defScope s_law) (by decide +kernel)) (by decide) (fun _ _ _ _ _ => by exact (qg_name (pg_name (i := 15) nd rfl (.inl rfl)))) (fun _ _ _ _ _ => by exact qts_nil) (fun _ _ _ _ _ => by exact (qe_callTy (cq_tuple rfl) rfl E.bi.tuple Vc.b_tuple (qa_cons (by exact qe_lc (ix := [18]) (own := [("one", 18)]) rfl nd (qi_val rfl (qe_var (pv 15))) (blkOk_by (by kernel_rfl)) (by decide) (fun _ _ _ _ _ => by exact (qg_name (pg_name (i := 18) nd rfl (.inl rfl)))) (fun _ _ _ _ _ => by exact qts_nil) (fun _ _ _ _ _ => by exact (qe_slice rfl (qe_var (pv 18)) qo_none (qo_some qe_int)))) qa_nil)))) qa_nil)) (nomark _)))))
  (qss_one (qs_ret qe_bl))
  qss_nil)
  (qss_cons (qs_if (QW.pt (qw_or (qt_cmp (oq_ne rfl (hu64 hr)) (qe_callTy (cq_list rfl) rfl E.bi.list Vc.b_list (qa_cons (qe_meth0 (qe_var (pv 22)) E.c_Canvas E.m_Canvas_letter_rows (ok_Canvas_letter_rows E) (hr.mono (by decide)) E.b_Canvas_letter_rows .nil (fun _ _ => .nil) tkE rfl) qa_nil)) (qe_lc (ix := [15]) (own := [("row", 15)]) rfl nd (qi_val rfl (qe_var (pv 17))) (blkOk_by (N := N_law) (sc := defScope s_law) (by decide +kernel)) (by decide) (fun _ _ _ _ _ => by exact (qg_name (pg_name (i := 15) nd rfl (.inl rfl)))) (fun _ _ _ _ _ => by exact qts_nil) (fun _ _ _ _ _ => by exact (qe_join rfl qe_str (by exact qe_lc (ix := [18]) (own := [("one", 18)]) rfl nd (qi_val rfl (qe_var (pv 15))) (blkOk_by (by kernel_rfl)) (by decide) (fun _ _ _ _ _ => by exact (qg_name (pg_name (i := 18) nd rfl (.inl rfl)))) (fun _ _ _ _ _ => by exact qts_nil) (fun _ _ _ _ _ => by exact (qe_ix rfl (qe_var (pv 18)) qe_int)))))) (nomark _)) (qw_or1 (qt_cmp (oq_ne rfl (hu64 hr)) (qe_lc (ix := [15]) (own := [("row", 15)]) rfl nd (qi_range1 rfl E.bi.range (qa_cons (qe_var (pv 3)) qa_nil)) (blkOk_by (N := N_law) (sc := defScope s_law) (by decide +kernel)) (by decide) (fun _ _ _ _ _ => by exact (qg_name (pg_name (i := 15) nd rfl (.inr rfl)))) (fun _ _ _ _ _ => by exact qts_nil) (fun _ _ _ _ _ => by exact (by exact qe_lc (ix := [16]) (own := [("column", 16)]) rfl nd (qi_range1 rfl E.bi.range (qa_cons (qe_var (pv 2)) qa_nil)) (blkOk_by (by kernel_rfl)) (by decide) (fun _ _ _ _ _ => by exact (qg_name (pg_name (i := 16) nd rfl (.inl rfl)))) (fun _ _ _ _ _ => by exact qts_nil) (fun _ _ _ _ _ => by exact (qe_call (ok_element_at E) (hr.mono (by decide)) rfl E.g_element_at E.k_element_at E.b_element_at .nil (fun _ _ => .nil) takes0 (qa_cons (qe_var (pv 22)) (qa_cons (qe_var (pv 16)) (qa_cons (qe_var (pv 15)) qa_nil))) rfl (len_cons (len_cons (len_cons len_nil)))))))) (qe_lc (ix := [15]) (own := [("row", 15)]) rfl nd (qi_val rfl (qe_var (pv 17))) (blkOk_by (N := N_law) (sc := defScope s_law) (by decide +kernel)) (by decide) (fun _ _ _ _ _ => by exact (qg_name (pg_name (i := 15) nd rfl (.inl rfl)))) (fun _ _ _ _ _ => by exact qts_nil) (fun _ _ _ _ _ => by exact (by exact qe_lc (ix := [18]) (own := [("one", 18)]) rfl nd (qi_val rfl (qe_var (pv 15))) (blkOk_by (by kernel_rfl)) (by decide) (fun _ _ _ _ _ => by exact (qg_name (pg_name (i := 18) nd rfl (.inl rfl)))) (fun _ _ _ _ _ => by exact qts_nil) (fun _ _ _ _ _ => by exact (qe_ix rfl (qe_var (pv 18)) qe_int))))) (nomark _)))))
  (qss_one (qs_ret qe_bl))
  qss_nil)
  (qss_cons (qs_asg (qe_tup (qa_cons (qe_op oq_sub (qe_call (ok_law_roll E) (hr.mono (by decide)) rfl E.g_law_roll E.k_law_roll E.b_law_roll .nil (fun _ _ => .nil) tkE (qa_cons (qe_var (pv 1)) (qa_cons qe_int qa_nil)) rfl (len_cons (len_cons len_nil))) qe_int) (qa_cons (qe_op oq_sub (qe_call (ok_law_roll E) (hr.mono (by decide)) rfl E.g_law_roll E.k_law_roll E.b_law_roll .nil (fun _ _ => .nil) tkE (qa_cons (qe_var (pv 1)) (qa_cons qe_int qa_nil)) rfl (len_cons (len_cons len_nil))) qe_int) qa_nil))) (qg_tup rfl rfl (qgs_cons (qg_name (pg_name (i := 16) nd rfl (.inr rfl))) (qgs_cons (qg_name (pg_name (i := 15) nd rfl (.inr rfl))) qgs_nil))))
  (qss_cons (qs_if (qt_cmp (oq_ne rfl (hu64 hr)) (qe_cmp (oq_eq rfl (hu64 hr)) (told_law_told E (k := 2) (hr.mono (by decide)) (LamX.lamS_by (by decide +kernel)) (fun A outer s H E' f c' hl => by exact (qe_meth (qe_var (pv 22)) E.c_Canvas E.m_Canvas_cell (ok_Canvas_cell E) (hl.mono (by decide)) E.b_Canvas_cell .nil (fun _ _ => .nil) (takes_of rfl rfl rfl rfl) (qa_cons (qe_var (pv 16)) (qa_cons (qe_var (pv 15)) qa_nil)) rfl (len_cons (len_cons len_nil))))) qe_str (nomark _)) (qe_or (qe_not (qe_chain oq_le oq_lt qe_int (qe_var (pv 16)) (qe_var (pv 2)))) (qe_one (qe_not (qe_chain oq_le oq_lt qe_int (qe_var (pv 15)) (qe_var (pv 3)))))) (nomark _))
  (qss_one (qs_ret qe_bl))
  qss_nil)
  (qss_cons (qs_asg (qe_tup (qa_cons (qe_call (ok_law_roll E) (hr.mono (by decide)) rfl E.g_law_roll E.k_law_roll E.b_law_roll .nil (fun _ _ => .nil) tkE (qa_cons (qe_var (pv 1)) (qa_cons qe_int qa_nil)) rfl (len_cons (len_cons len_nil))) (qa_cons (qe_call (ok_law_roll E) (hr.mono (by decide)) rfl E.g_law_roll E.k_law_roll E.b_law_roll .nil (fun _ _ => .nil) tkE (qa_cons (qe_var (pv 1)) (qa_cons qe_int qa_nil)) rfl (len_cons (len_cons len_nil))) (qa_cons (qe_call (ok_law_roll E) (hr.mono (by decide)) rfl E.g_law_roll E.k_law_roll E.b_law_roll .nil (fun _ _ => .nil) tkE (qa_cons (qe_var (pv 1)) (qa_cons qe_int qa_nil)) rfl (len_cons (len_cons len_nil))) (qa_cons (qe_call (ok_law_roll E) (hr.mono (by decide)) rfl E.g_law_roll E.k_law_roll E.b_law_roll .nil (fun _ _ => .nil) tkE (qa_cons (qe_var (pv 1)) (qa_cons qe_int qa_nil)) rfl (len_cons (len_cons len_nil))) qa_nil))))) (qg_name (pg_name (i := 18) nd rfl (.inr rfl))))
  (qss_cons (qs_asg (qe_tup (qa_cons (qe_call (ok_law_roll E) (hr.mono (by decide)) rfl E.g_law_roll E.k_law_roll E.b_law_roll .nil (fun _ _ => .nil) tkE (qa_cons (qe_var (pv 1)) (qa_cons qe_int qa_nil)) rfl (len_cons (len_cons len_nil))) (qa_cons (qe_call (ok_law_roll E) (hr.mono (by decide)) rfl E.g_law_roll E.k_law_roll E.b_law_roll .nil (fun _ _ => .nil) tkE (qa_cons (qe_var (pv 1)) (qa_cons qe_int qa_nil)) rfl (len_cons (len_cons len_nil))) (qa_cons (qe_call (ok_law_roll E) (hr.mono (by decide)) rfl E.g_law_roll E.k_law_roll E.b_law_roll .nil (fun _ _ => .nil) tkE (qa_cons (qe_var (pv 1)) (qa_cons qe_int qa_nil)) rfl (len_cons (len_cons len_nil))) (qa_cons (qe_call (ok_law_roll E) (hr.mono (by decide)) rfl E.g_law_roll E.k_law_roll E.b_law_roll .nil (fun _ _ => .nil) tkE (qa_cons (qe_var (pv 1)) (qa_cons qe_int qa_nil)) rfl (len_cons (len_cons len_nil))) qa_nil))))) (qg_name (pg_name (i := 19) nd rfl (.inr rfl))))
  (qss_cons (qs_asg (qe_call (ok_meeting E) (hr.mono (by decide)) rfl E.g_meeting E.k_meeting E.b_meeting .nil (fun _ _ => .nil) tkE (qa_cons (qe_var (pv 18)) (qa_cons (qe_var (pv 19)) qa_nil)) rfl (len_cons (len_cons len_nil))) (qg_name (pg_name (i := 20) nd rfl (.inr rfl))))
  (qss_cons (qs_setLc (k := 21) (ix := [23]) (own := [("k", 23)]) rfl nd rfl rfl (sw_true rfl rfl rfl (by decide +kernel)) (qi_range1 rfl E.bi.range (qa_cons qe_int qa_nil)) (blkOk_by (N := N_law) (sc := defScope s_law) (by decide +kernel)) (by decide) (fun _ _ _ _ _ => by exact (qg_name (pg_name (i := 23) nd rfl (.inl rfl)))) (fun _ _ _ _ _ => by exact (qts_one (QW.pt (qw_and (qt_val (qe_call (ok_law_in E) (hr.mono (by decide)) rfl E.g_law_in E.k_law_in E.b_law_in .nil (fun _ _ => .nil) takes0 (qa_cons (qe_var (pv 18)) (qa_cons (qe_op oq_fdiv (qe_var (pv 23)) qe_int) (qa_cons (qe_op oq_sub (qe_var (pv 23)) (qe_op oq_mul (qe_op oq_fdiv (qe_var (pv 23)) qe_int) qe_int)) qa_nil))) rfl (len_cons (len_cons (len_cons len_nil))))) (qw_and1 (qt_val (qe_call (ok_law_in E) (hr.mono (by decide)) rfl E.g_law_in E.k_law_in E.b_law_in .nil (fun _ _ => .nil) takes0 (qa_cons (qe_var (pv 19)) (qa_cons (qe_op oq_fdiv (qe_var (pv 23)) qe_int) (qa_cons (qe_op oq_sub (qe_var (pv 23)) (qe_op oq_mul (qe_op oq_fdiv (qe_var (pv 23)) qe_int) qe_int)) qa_nil))) rfl (len_cons (len_cons (len_cons len_nil)))))))))) (fun _ _ _ _ _ => by exact (qe_tup (qa_cons (qe_op oq_fdiv (qe_var (pv 23)) qe_int) (qa_cons (qe_op oq_sub (qe_var (pv 23)) (qe_op oq_mul (qe_op oq_fdiv (qe_var (pv 23)) qe_int) qe_int)) qa_nil)))))
  (qss_one (qs_if (QW.pt (qw_or (qt_cmp (oq_ne rfl (hu64 hr)) (qe_lc (ix := [24]) (own := [("spot", 24)]) rfl nd (qi_val rfl (qe_var (pv 21))) (blkOk_by (N := N_law) (sc := defScope s_law) (by decide +kernel)) (by decide) (fun _ _ _ _ _ => by exact (qg_name (pg_name (i := 24) nd rfl (.inl rfl)))) (fun _ _ _ _ _ => by exact (qts_one (qt_not (qt_val (qe_call (ok_law_in E) (hr.mono (by decide)) rfl E.g_law_in E.k_law_in E.b_law_in .nil (fun _ _ => .nil) takes0 (qa_cons (qe_var (pv 20)) (qa_cons (qe_ix rfl (qe_var (pv 24)) qe_int) (qa_cons (qe_ix rfl (qe_var (pv 24)) qe_int) qa_nil))) rfl (len_cons (len_cons (len_cons len_nil)))))))) (fun _ _ _ _ _ => by exact (qe_var (pv 24)))) (qe_fl qa_nil) (nomark _)) (qw_or (qt_cmp (oq_ne rfl (hu64 hr)) (qe_op oq_mul (qe_ix rfl (qe_var (pv 20)) qe_int) (qe_ix rfl (qe_var (pv 20)) qe_int)) (qe_callB (cq_len rfl) rfl E.bi.len Vc.b_len (qa_cons (qe_var (pv 21)) qa_nil)) (nomark _)) (qw_or1 (qt_cmp oq_lt (qe_callB (cq_min rfl) rfl E.bi.min Vc.b_min (qa_cons (qe_ix rfl (qe_var (pv 20)) qe_int) (qa_cons (qe_ix rfl (qe_var (pv 20)) qe_int) qa_nil))) qe_int (nomark _))))))
  (qss_one (qs_ret qe_bl))
  qss_nil)))))))))))))))
  (qss_one (qs_ret (qe_and (qe_cmp (oq_eq rfl (hu64 hr)) (told_law_told E (k := 3) (hr.mono (by decide)) (LamX.lamS_by (by decide +kernel)) (fun A outer s H E' f c' hl => by exact (qe_make E.M_Canvas (ok_Canvas_init E) (hl.mono (by decide)) rfl E.g_Canvas E.bi_Canvas .nil (fun _ _ => .nil) (takes_of rfl rfl rfl rfl) (qa_cons qe_int (qa_cons qe_int qa_nil)) rfl (len_cons (len_cons len_nil))))) qe_str (nomark _)) (qe_one (qe_cmp (oq_eq rfl (hu64 hr)) (told_law_told E (k := 3) (hr.mono (by decide)) (LamX.lamS_by (by decide +kernel)) (fun A outer s H E' f c' hl => by exact (qe_make E.M_Canvas (ok_Canvas_init E) (hl.mono (by decide)) rfl E.g_Canvas E.bi_Canvas .nil (fun _ _ => .nil) (takes_of rfl rfl rfl rfl) (qa_cons qe_int (qa_cons qe_int qa_nil)) rfl (len_cons (len_cons len_nil))))) qe_str (nomark _)))))))

end
end Q.K07
end
section
set_option Elab.async false
set_option linter.all false
set_option maxRecDepth 100000
set_option maxHeartbeats 1000000
namespace Q.K07
open PySem L2 Q
def mx (a b : Int) : Int := if b > a then b else a
def mn (a b : Int) : Int := if b < a then b else a
theorem meeting_ok (a0 a1 a2 a3 b0 b1 b2 b3 : Int) (L : LH) : F_meeting [.tup [.int a0, .int a1, .int a2, .int a3], .tup [.int b0, .int b1, .int b2, .int b3]] L =
    .ok (.tup [.int (mx a0 b0), .int (mx a1 b1), .int (mx 0 (mn (a0 + a2) (b0 + b2) - mx a0 b0)), .int (mx 0 (mn (a1 + a3) (b1 + b3) - mx a1 b1))]) L := rfl
theorem roll_ok {R : LH} {x y z n : Int} {Z : LV → LH → Prop} (h0 : 0 < n) (h1 : n < 1073741824) (h : ∀ r x y z, 0 ≤ r → r < n → Z (.int r) (.lst [.int x, .int y, .int z] :: R)) : WP (F_law_roll [.ref 0, .int n] (.lst [.int x, .int y, .int z] :: R)) Z := by
  unfold F_law_roll B_law_roll
  simp only [WP_bind, WP_ok, WP_no, WP_ite, WS_lift', WS_next, WS_ret, WS_brk, WS_cont, WS_seq, WS_ite, WP_call, mSeq, mIfS, mAsg, mRet, mRetN, mSetIx, mDrop, mOr, mAnd, mNot, mTest, mOp, mVar, mC, mCons, mNil, mBlt, mTup, mFl, mLst, mIf, mUn, mNotV, mAndV, mOrV, toB, mSkip, mBreak, mCont, mPar, e_gI, e_gIc, e_gMul, e_gAdd, e_gCmp, e_gEq, e_gEqS, e_ix30, e_ix31, e_ix32, e_set30, e_set31, e_set32, e_t40, e_t41, e_t42, e_t43, Bool.false_eq_true, gN, gT, gNil, gCons, Option.bind_some, Option.bind_none, fAbs, fMax, fMin, fInt,   List.map_cons, List.map_nil, List.cons_append, List.nil_append, List.length_cons, List.length_nil, List.replicate, List.set_cons_succ, List.set_cons_zero, List.getElem?_cons_succ, List.getElem?_cons_zero, Nat.reduceSub, Nat.reduceAdd, Nat.reduceLeDiff, if_true, if_false, true_and, and_true, false_and, and_false, mChain, mRaise, mBM, mFld, mDGet1, mDGet2, mDPut, mSetFld, mMeth, mCall, mMake, mDNew, isNon, mFor, mI, mIt, mLc, mYes, mTupG, gTupG, mSl, mNoP, mPart, mJoin, wipeL, List.append_nil, Bool.not_true, Bool.not_false, decide_true, true_implies, false_implies, implies_true, reduceCtorEq, Bool.true_eq_false, Bool.and_true, Bool.true_and, WP_exc, WS_exc, if_true]
  have e1 : cMul x 48271 = true := by simp [cMul]
  have e2 : cMul y 69621 = true := by simp [cMul]
  have d0 : (decide (0 < n)) = true := decide_eq_true h0
  have d1 : (decide (n < 1073741824)) = true := decide_eq_true h1
  have r1 : 0 ≤ x % n ∧ x % n < n := ⟨Int.emod_nonneg _ (by omega), Int.emod_lt_of_pos _ h0⟩
  have r2 : ∀ t : Int, 0 ≤ t % n ∧ t % n < n := fun t => ⟨Int.emod_nonneg _ (by omega), Int.emod_lt_of_pos _ h0⟩
  simp only [e1, e2, d0, d1, Bool.and_true, true_and, true_implies, reduceCtorEq, false_implies, and_true, true_implies, Bool.false_eq_true, decide_true, show decide ((0 : Int) < 7) = true from rfl, show decide ((0 : Int) < 2147483647) = true from rfl, show decide ((7 : Int) < 1073741824) = true from rfl, Bool.true_eq_false, implies_true]
  refine ⟨fun _ => h _ _ _ _ r1.1 r1.2, fun _ => ⟨fun _ => ⟨fun _ => h _ _ _ _ r1.1 r1.2, fun _ => h _ _ _ _ (r2 _).1 (r2 _).2⟩, fun _ => h _ _ _ _ (r2 _).1 (r2 _).2⟩⟩
theorem dice_ok {c : Int} {L : LH} {Z : LV → LH → Prop} (h : ∀ x y z, Z (.ref L.length) (L ++ [.lst [.int x, .int y, .int z]])) : WP (F_law_dice [.int c] L) Z := by
  unfold F_law_dice B_law_dice
  simp only [WP_bind, WP_ok, WP_no, WP_ite, WS_lift', WS_next, WS_ret, WS_brk, WS_cont, WS_seq, WS_ite, WP_call, mSeq, mIfS, mAsg, mRet, mRetN, mSetIx, mDrop, mOr, mAnd, mNot, mTest, mOp, mVar, mC, mCons, mNil, mBlt, mTup, mFl, mLst, mIf, mUn, mNotV, mAndV, mOrV, toB, mSkip, mBreak, mCont, mPar, e_gI, e_gIc, e_gMul, e_gAdd, e_gCmp, e_gEq, e_gEqS, e_ix30, e_ix31, e_ix32, e_set30, e_set31, e_set32, e_t40, e_t41, e_t42, e_t43, Bool.false_eq_true, gN, gT, gNil, gCons, Option.bind_some, Option.bind_none, fAbs, fMax, fMin, fInt,   List.map_cons, List.map_nil, List.cons_append, List.nil_append, List.length_cons, List.length_nil, List.replicate, List.set_cons_succ, List.set_cons_zero, List.getElem?_cons_succ, List.getElem?_cons_zero, Nat.reduceSub, Nat.reduceAdd, Nat.reduceLeDiff, if_true, if_false, true_and, and_true, false_and, and_false, mChain, mRaise, mBM, mFld, mDGet1, mDGet2, mDPut, mSetFld, mMeth, mCall, mMake, mDNew, isNon, mFor, mI, mIt, mLc, mYes, mTupG, gTupG, mSl, mNoP, mPart, mJoin, wipeL, List.append_nil, Bool.not_true, Bool.not_false, decide_true, true_implies, false_implies, implies_true, reduceCtorEq, Bool.true_eq_false, Bool.and_true, Bool.true_and, WP_exc, WS_exc, if_true]
  simp only [h, implies_true, and_true, true_and, true_implies, show decide ((0 : Int) < 1009) = true from rfl, show (decide ((0 : Int) ≤ 18) && decide ((18 : Int) ≤ 1000) && decide (Int.natAbs 10 < 2 ^ 64)) = true from rfl, Bool.true_eq_false, false_implies, reduceCtorEq]
theorem in_ok {a0 a1 a2 a3 c r : Int} {L : LH} {Z : LV → LH → Prop} (h : Z (.bl (decide (a0 ≤ c ∧ c < a0 + a2 ∧ a1 ≤ r ∧ r < a1 + a3))) L) : WP (F_law_in [.tup [.int a0, .int a1, .int a2, .int a3], .int c, .int r] L) Z := by
  unfold F_law_in B_law_in
  simp only [WP_bind, WP_ok, WP_no, WP_ite, WS_lift', WS_next, WS_ret, WS_brk, WS_cont, WS_seq, WS_ite, WP_call, mSeq, mIfS, mAsg, mRet, mRetN, mSetIx, mDrop, mOr, mAnd, mNot, mTest, mOp, mVar, mC, mCons, mNil, mBlt, mTup, mFl, mLst, mIf, mUn, mNotV, mAndV, mOrV, toB, mSkip, mBreak, mCont, mPar, e_gI, e_gIc, e_gMul, e_gAdd, e_gCmp, e_gEq, e_gEqS, e_ix30, e_ix31, e_ix32, e_set30, e_set31, e_set32, e_t40, e_t41, e_t42, e_t43, Bool.false_eq_true, gN, gT, gNil, gCons, Option.bind_some, Option.bind_none, fAbs, fMax, fMin, fInt,   List.map_cons, List.map_nil, List.cons_append, List.nil_append, List.length_cons, List.length_nil, List.replicate, List.set_cons_succ, List.set_cons_zero, List.getElem?_cons_succ, List.getElem?_cons_zero, Nat.reduceSub, Nat.reduceAdd, Nat.reduceLeDiff, if_true, if_false, true_and, and_true, false_and, and_false, mChain, mRaise, mBM, mFld, mDGet1, mDGet2, mDPut, mSetFld, mMeth, mCall, mMake, mDNew, isNon, mFor, mI, mIt, mLc, mYes, mTupG, gTupG, mSl, mNoP, mPart, mJoin, wipeL, List.append_nil, Bool.not_true, Bool.not_false, decide_true, true_implies, false_implies, implies_true, reduceCtorEq, Bool.true_eq_false, Bool.and_true, Bool.true_and, WP_exc, WS_exc, if_true]
  by_cases h1 : a0 ≤ c <;> by_cases h2 : c < a0 + a2 <;> by_cases h3 : a1 ≤ r <;> by_cases h4 : r < a1 + a3 <;>
    simp only [h1, h2, h3, h4, decide_true, decide_false, true_and, and_true, false_and, and_false, true_implies, false_implies, reduceCtorEq, Bool.true_eq_false, Bool.false_eq_true, implies_true] at h ⊢ <;> exact h
/-! ### cells, pictures, the two dicts -/
structure Cl where
  ch : Str
  ink : Str
  paper : Str
  num : Option Int
def nV : Option Int → LV
  | none => .non
  | some i => .int i
abbrev Cl.vs (x : Cl) : List LV := [.str x.ch, .str x.ink, .str x.paper, nV x.num]
def Cl.e : Cl := ⟨" ", "black", "white", none⟩
abbrev Pic := Int → Int → Cl
def Pic.put (f : Pic) (c r : Int) (x : Cl) : Pic := fun c' r' => if c' = c ∧ r' = r then x else f c' r'
abbrev ky (c r : Int) : List Key := [.inl c, .inl r]
/-- D shows the picture f, and has at most m entries -/
structure Dic (D : List (List Key × LV)) (f : Pic) (m : Nat) : Prop where
  len : D.length ≤ m
  at_ : ∀ c r, lookK D (ky c r) = some (.tup (f c r).vs) ∨ (lookK D (ky c r) = none ∧ f c r = Cl.e)
theorem Dic.nil : Dic [] (fun _ _ => Cl.e) 0 := ⟨Nat.le_refl _, fun _ _ => .inr ⟨rfl, rfl⟩⟩
theorem look_put {T : Type} [DecidableEq T] (D : List (T × LV)) (k k' : T) (v : LV) : lookK (putKL D k v) k' = if k' = k then some v else lookK D k' := by
  have hm : ∀ D : List (T × LV), (D.map fun kv => if kv.1 = k then (kv.1, v) else kv).find? (fun kv => decide (kv.1 = k')) = if k' = k then ((D.find? fun kv => decide (kv.1 = k)).map fun kv => (kv.1, v)) else D.find? fun kv => decide (kv.1 = k') := by
    intro D
    induction D with
    | nil => split <;> rfl
    | cons p r ih =>
      rw [List.map_cons, List.find?_cons, List.find?_cons, List.find?_cons, ih]
      by_cases h1 : p.1 = k
      · by_cases h2 : k' = k
        · subst h2
          simp [h1]
        · have h3 : ¬ p.1 = k' := fun z => h2 (z ▸ h1)
          have h4 : ¬ k = k' := fun z => h2 z.symm
          simp [h1, h2, h3, h4]
      · by_cases h2 : k' = k
        · subst h2
          simp [h1]
        · simp [h1, h2]
  unfold putKL lookK
  split
  · rename_i h
    rw [hm]
    split
    · rename_i e
      subst e
      obtain ⟨x, hx, hk⟩ := List.any_eq_true.mp h
      have : (D.find? fun kv => decide (kv.1 = k')).isSome = true := List.find?_isSome.mpr ⟨x, hx, hk⟩
      obtain ⟨y, hy⟩ := Option.isSome_iff_exists.mp this
      rw [hy]
      rfl
    · rfl
  · rename_i h
    rw [List.find?_append]
    by_cases e : k' = k
    · subst e
      have : (D.find? fun kv => decide (kv.1 = k')) = none := by
        rw [List.find?_eq_none]
        intro x hx hk
        exact h (List.any_eq_true.mpr ⟨x, hx, hk⟩)
      rw [this, if_pos rfl]
      simp
    · rw [if_neg e]
      have h4 : ¬ k = k' := fun z => e z.symm
      cases D.find? (fun kv => decide (kv.1 = k')) <;> simp [h4]
theorem len_put {T : Type} [DecidableEq T] (D : List (T × LV)) (k : T) (v : LV) : (putKL D k v).length ≤ D.length + 1 := by
  unfold putKL
  split
  · rw [List.length_map]; exact Nat.le_succ _
  · simp
theorem ky_eq {c r c' r' : Int} : (ky c' r' = ky c r) ↔ (c' = c ∧ r' = r) := by simp
theorem Dic.put {D : List (List Key × LV)} {f : Pic} {m : Nat} (h : Dic D f m) (c r : Int) (x : Cl) : Dic (putKL D (ky c r) (.tup x.vs)) (f.put c r x) (m + 1) := by
  refine ⟨Nat.le_trans (len_put _ _ _) (Nat.succ_le_succ h.len), fun c' r' => ?_⟩
  rw [look_put]
  unfold Pic.put
  by_cases e : c' = c ∧ r' = r
  · rw [if_pos (ky_eq.mpr e), if_pos e]; exact .inl rfl
  · rw [if_neg (fun z => e (ky_eq.mp z)), if_neg e]; exact h.at_ c' r'
/-- a canvas with its dict, behind the die and the law's own dict -/
abbrev St (d : LO) (D : List (List Key × LV)) (w h : Int) (C : List (List Key × LV)) (T : LH) : LH := d :: .dT D :: .ins i_Canvas [("width", .int w), ("height", .int h), ("cells", .ref 3)] :: .dT C :: T
section
variable {d : LO} {D C : List (List Key × LV)} {w h c r : Int} {T : LH} {f g : Pic} {m n : Nat} {Z : LV → LH → Prop}
theorem e_wid : fldOf i_Canvas "width" (St d D w h C T) (.ref 2) = some (.int w) := rfl
theorem e_hei : fldOf i_Canvas "height" (St d D w h C T) (.ref 2) = some (.int h) := rfl
theorem e_cel : fldOf i_Canvas "cells" (St d D w h C T) (.ref 2) = some (.ref 3) := by rfl
theorem e_dg : dGet (St d D w h C T) (.ref 3) (.tup [.int c, .int r]) = some (lookK C (ky c r)) := rfl
theorem e_isD : isDL (St d D w h C T) (.ref 3) = true := rfl
/-- as it is shown: in a tuple of one kind or the other -/
def Shows (v : LV) (x : Cl) : Prop := v = .tup x.vs ∨ v = .st x.vs
theorem Dic.get (k : Dic C g m) (c r : Int) : Shows ((lookK C (ky c r)).getD (.st Cl.e.vs)) (g c r) := by
  rcases k.at_ c r with e | ⟨e, e2⟩
  · rw [e]; exact .inl rfl
  · rw [e, e2]; exact .inr rfl
theorem cell_ok (k : Dic C g m) (h0 : 0 ≤ c) (h1 : c < w) (h2 : 0 ≤ r) (h3 : r < h) (hz : ∀ v, Shows v (g c r) → Z v (St d D w h C T)) : WP (F_Canvas_cell [.ref 2, .int c, .int r] (St d D w h C T)) Z := by
  unfold F_Canvas_cell B_Canvas_cell V_EMPTY_CELL
  simp only [WP_bind, WP_ok, WP_no, WP_ite, WS_lift', WS_next, WS_ret, WS_brk, WS_cont, WS_seq, WS_ite, WP_call, mSeq, mIfS, mAsg, mRet, mRetN, mSetIx, mDrop, mOr, mAnd, mNot, mTest, mOp, mVar, mC, mCons, mNil, mBlt, mTup, mFl, mLst, mIf, mUn, mNotV, mAndV, mOrV, toB, mSkip, mBreak, mCont, mPar, e_gI, e_gIc, e_gMul, e_gAdd, e_gCmp, e_gEq, e_gEqS, e_ix30, e_ix31, e_ix32, e_set30, e_set31, e_set32, e_t40, e_t41, e_t42, e_t43, Bool.false_eq_true, gN, gT, gNil, gCons, Option.bind_some, Option.bind_none, fAbs, fMax, fMin, fInt,   List.map_cons, List.map_nil, List.cons_append, List.nil_append, List.length_cons, List.length_nil, List.replicate, List.set_cons_succ, List.set_cons_zero, List.getElem?_cons_succ, List.getElem?_cons_zero, Nat.reduceSub, Nat.reduceAdd, Nat.reduceLeDiff, if_true, if_false, true_and, and_true, false_and, and_false, mChain, mRaise, mBM, mFld, mDGet1, mDGet2, mDPut, mSetFld, mMeth, mCall, mMake, mDNew, isNon, mFor, mI, mIt, mLc, mYes, mTupG, gTupG, mSl, mNoP, mPart, mJoin, wipeL, List.append_nil, Bool.not_true, Bool.not_false, decide_true, true_implies, false_implies, implies_true, reduceCtorEq, Bool.true_eq_false, Bool.and_true, Bool.true_and, WP_exc, WS_exc, e_wid, e_hei, e_cel, e_dg, e_isD, decide_eq_true h0, decide_eq_true h1, decide_eq_true h2, decide_eq_true h3]
  exact hz _ (k.get c r)
theorem Dic.congr {f' : Pic} (k : Dic C f m) (e : ∀ c r, f c r = f' c r) : Dic C f' m := by
  have : f = f' := by funext c r; exact e c r
  exact this ▸ k
theorem Dic.mono (k : Dic C f m) (h : m ≤ n) : Dic C f n := ⟨Nat.le_trans k.len h, k.at_⟩
/-- a place and a size -/
structure A4 where
  l : Int
  t : Int
  w : Int
  h : Int
abbrev A4.v (a : A4) : LV := .tup [.int a.l, .int a.t, .int a.w, .int a.h]
def meet (a b : A4) : A4 := ⟨mx a.l b.l, mx a.t b.t, mx 0 (mn (a.l + a.w) (b.l + b.w) - mx a.l b.l), mx 0 (mn (a.t + a.h) (b.t + b.h) - mx a.t b.t)⟩
theorem e_meet (a0 a1 a2 a3 b0 b1 b2 b3 : Int) (L : LH) : F_meeting [.tup [.int a0, .int a1, .int a2, .int a3], .tup [.int b0, .int b1, .int b2, .int b3]] L = .ok (meet ⟨a0, a1, a2, a3⟩ ⟨b0, b1, b2, b3⟩).v L := rfl
theorem e_ins (mm : Str) (hm : (([("width", LV.int w), ("height", LV.int h), ("cells", LV.ref 3)] : List (Str × LV)).lookup mm).isNone = true) : insAt (St d D w h C T) (.ref 2) mm i_Canvas = true := by
  show ((i_Canvas == i_Canvas) && _) = true
  rw [hm]
  rfl
theorem i_vis : insAt (St d D w h C T) (.ref 2) "visible" i_Canvas = true := e_ins _ (by rfl)
theorem i_cell : insAt (St d D w h C T) (.ref 2) "cell" i_Canvas = true := e_ins _ (by rfl)
theorem i_fill : insAt (St d D w h C T) (.ref 2) "fill" i_Canvas = true := e_ins _ (by rfl)
theorem i_write : insAt (St d D w h C T) (.ref 2) "write" i_Canvas = true := e_ins _ (by rfl)
theorem i_shown : insAt (St d D w h C T) (.ref 2) "shown" i_Canvas = true := e_ins _ (by rfl)
theorem i_rows : insAt (St d D w h C T) (.ref 2) "letter_rows" i_Canvas = true := e_ins _ (by rfl)
theorem visible_ok (a b : A4) (hz : Z (meet (meet a b) ⟨0, 0, w, h⟩).v (St d D w h C T)) : WP (F_Canvas_visible [.ref 2, a.v, b.v] (St d D w h C T)) Z := by
  unfold F_Canvas_visible B_Canvas_visible
  simp only [WP_bind, WP_ok, WP_no, WP_ite, WS_lift', WS_next, WS_ret, WS_brk, WS_cont, WS_seq, WS_ite, WP_call, mSeq, mIfS, mAsg, mRet, mRetN, mSetIx, mDrop, mOr, mAnd, mNot, mTest, mOp, mVar, mC, mCons, mNil, mBlt, mTup, mFl, mLst, mIf, mUn, mNotV, mAndV, mOrV, toB, mSkip, mBreak, mCont, mPar, e_gI, e_gIc, e_gMul, e_gAdd, e_gCmp, e_gEq, e_gEqS, e_ix30, e_ix31, e_ix32, e_set30, e_set31, e_set32, e_t40, e_t41, e_t42, e_t43, Bool.false_eq_true, gN, gT, gNil, gCons, Option.bind_some, Option.bind_none, fAbs, fMax, fMin, fInt,   List.map_cons, List.map_nil, List.cons_append, List.nil_append, List.length_cons, List.length_nil, List.replicate, List.set_cons_succ, List.set_cons_zero, List.getElem?_cons_succ, List.getElem?_cons_zero, Nat.reduceSub, Nat.reduceAdd, Nat.reduceLeDiff, if_true, if_false, true_and, and_true, false_and, and_false, mChain, mRaise, mBM, mFld, mDGet1, mDGet2, mDPut, mSetFld, mMeth, mCall, mMake, mDNew, isNon, mFor, mI, mIt, mLc, mYes, mTupG, gTupG, mSl, mNoP, mPart, mJoin, wipeL, List.append_nil, Bool.not_true, Bool.not_false, decide_true, true_implies, false_implies, implies_true, reduceCtorEq, Bool.true_eq_false, Bool.and_true, Bool.true_and, WP_exc, WS_exc, e_wid, e_hei, e_meet]
  exact hz
theorem e_sw : setFld i_Canvas "width" (.int w) (d :: .dT D :: [.ins i_Canvas []]) (.ref 2) = some (d :: .dT D :: [.ins i_Canvas [("width", .int w)]]) := by rfl
theorem e_sh : setFld i_Canvas "height" (.int h) (d :: .dT D :: [.ins i_Canvas [("width", .int w)]]) (.ref 2) = some (d :: .dT D :: [.ins i_Canvas [("width", .int w), ("height", .int h)]]) := by rfl
theorem e_sc : setFld i_Canvas "cells" (.ref 3) (d :: .dT D :: [.ins i_Canvas [("width", .int w), ("height", .int h)], .dT []]) (.ref 2) = some (St d D w h [] []) := by rfl
theorem init_ok (h0 : 1 ≤ w) (h1 : 0 ≤ h) (h2 : w * h ≤ 20000) (h3 : w < 100) (hz : Z .non (St d D w h [] [])) : WP (F_Canvas_init [.ref 2, .int w, .int h] (d :: .dT D :: [.ins i_Canvas []])) Z := by
  unfold F_Canvas_init B_Canvas_init V_MOST_CELLS
  have e : cMul w h = true := by simp [cMul]; omega
  simp only [WP_bind, WP_ok, WP_no, WP_ite, WS_lift', WS_next, WS_ret, WS_brk, WS_cont, WS_seq, WS_ite, WP_call, mSeq, mIfS, mAsg, mRet, mRetN, mSetIx, mDrop, mOr, mAnd, mNot, mTest, mOp, mVar, mC, mCons, mNil, mBlt, mTup, mFl, mLst, mIf, mUn, mNotV, mAndV, mOrV, toB, mSkip, mBreak, mCont, mPar, e_gI, e_gIc, e_gMul, e_gAdd, e_gCmp, e_gEq, e_gEqS, e_ix30, e_ix31, e_ix32, e_set30, e_set31, e_set32, e_t40, e_t41, e_t42, e_t43, Bool.false_eq_true, gN, gT, gNil, gCons, Option.bind_some, Option.bind_none, fAbs, fMax, fMin, fInt,   List.map_cons, List.map_nil, List.cons_append, List.nil_append, List.length_cons, List.length_nil, List.replicate, List.set_cons_succ, List.set_cons_zero, List.getElem?_cons_succ, List.getElem?_cons_zero, Nat.reduceSub, Nat.reduceAdd, Nat.reduceLeDiff, if_true, if_false, true_and, and_true, false_and, and_false, mChain, mRaise, mBM, mFld, mDGet1, mDGet2, mDPut, mSetFld, mMeth, mCall, mMake, mDNew, isNon, mFor, mI, mIt, mLc, mYes, mTupG, gTupG, mSl, mNoP, mPart, mJoin, wipeL, List.append_nil, Bool.not_true, Bool.not_false, decide_true, true_implies, false_implies, implies_true, reduceCtorEq, Bool.true_eq_false, Bool.and_true, Bool.true_and, WP_exc, WS_exc, decide_eq_false (show ¬ w < 1 by omega), decide_eq_false (show ¬ h < 0 by omega), decide_eq_false (show ¬ 20000 < w * h by omega), e, e_sw, e_sh, e_sc]
  exact hz
theorem range2_ok {i j : Int} {L : LH} {Y : IT → LH → Prop} (h1 : -1000000000 < i) (h2 : i < 1000000000) (h3 : -1000000000 < j) (h4 : j < 1000000000) (h : Y (itR i (j - i).toNat) L) : WP (range2 [.int i, .int j] L) Y := by
  unfold range2
  simp only []
  rw [if_pos ⟨h1, h2, h3, h4⟩]
  exact h
theorem itR_at {lo : Int} {n i : Nat} {L : LH} (h : i < n) : itR lo n i L = some (some (.int (lo + i))) := by
  unfold itR
  rw [if_pos h]
theorem itR_end {lo : Int} {n : Nat} {L : LH} : itR lo n n L = some none := by
  unfold itR
  rw [if_neg (Nat.lt_irrefl n)]
theorem e_dp {c r : Int} {x : LV} (hl : C.length < 1000000) : dPut (St d D w h C T) (.ref 3) (.tup [.int c, .int r]) x = some (St d D w h (putKL C (ky c r) x) T) := by
  show (if C.length < 1000000 then some (St d D w h (putKL C (ky c r) x) T) else none) = _
  rw [if_pos hl]
/-- a cell that is filled -/
def fl (col : Str) (num : Int) (x : Cl) : Cl := if col = "none" then { x with num := some num } else ⟨" ", "black", col, some num⟩
/-- the picture where only the done cells are filled -/
def part (g : Pic) (p : Cl → Cl) (done : Int → Int → Bool) : Pic := fun c r => if done c r = true then p (g c r) else g c r
def rowD (v : A4) (j : Int) (c r : Int) : Bool := decide (v.l ≤ c) && decide (c < v.l + v.w) && decide (v.t ≤ r) && decide (r < v.t + j)
def celD (v : A4) (j i : Int) (c r : Int) : Bool := rowD v j c r || (decide (r = v.t + j) && decide (v.l ≤ c) && decide (c < v.l + i))
theorem vis_l {a : A4} {c : Int} (h1 : (meet a ⟨0, 0, w, h⟩).l ≤ c) (h2 : c < (meet a ⟨0, 0, w, h⟩).l + (meet a ⟨0, 0, w, h⟩).w) : 0 ≤ c ∧ c < w := by
  unfold meet mx mn at h1 h2
  simp only [] at h1 h2
  constructor <;> (split at h1 <;> split at h2 <;> (try split at h2) <;> (try split at h2) <;> omega)
theorem vis_t {a : A4} {r : Int} (h1 : (meet a ⟨0, 0, w, h⟩).t ≤ r) (h2 : r < (meet a ⟨0, 0, w, h⟩).t + (meet a ⟨0, 0, w, h⟩).h) : 0 ≤ r ∧ r < h := by
  unfold meet mx mn at h1 h2
  simp only [] at h1 h2
  constructor <;> (split at h1 <;> split at h2 <;> (try split at h2) <;> (try split at h2) <;> omega)
theorem step_row {v : A4} {j : Int} (hw : 0 ≤ v.w) (hj : 0 ≤ j) {g : Pic} {p : Cl → Cl} (c r : Int) : part g p (celD v j v.w) c r = part g p (rowD v (j + 1)) c r := by
  unfold part
  have : celD v j v.w c r = rowD v (j + 1) c r := by
    unfold celD rowD
    rw [Bool.eq_iff_iff]
    simp only [Bool.or_eq_true, Bool.and_eq_true, decide_eq_true_eq]
    omega
  rw [this]
theorem start_row {v : A4} {j : Int} {g : Pic} {p : Cl → Cl} (c r : Int) : part g p (rowD v j) c r = part g p (celD v j 0) c r := by
  unfold part
  have : rowD v j c r = celD v j 0 c r := by
    unfold celD rowD
    rw [Bool.eq_iff_iff]
    simp only [Bool.or_eq_true, Bool.and_eq_true, decide_eq_true_eq]
    omega
  rw [this]
theorem not_yet {v : A4} {j i : Int} {g : Pic} {p : Cl → Cl} : part g p (celD v j i) (v.l + i) (v.t + j) = g (v.l + i) (v.t + j) := by
  unfold part
  have : ¬ celD v j i (v.l + i) (v.t + j) = true := by
    unfold celD rowD
    simp only [Bool.or_eq_true, Bool.and_eq_true, decide_eq_true_eq]
    omega
  rw [if_neg this]
theorem step_cel {v : A4} {j i : Int} (hi : 0 ≤ i) (hw : i < v.w) (hj : 0 ≤ j) {g : Pic} {p : Cl → Cl} (c r : Int) : (part g p (celD v j i)).put (v.l + i) (v.t + j) (p (g (v.l + i) (v.t + j))) c r = part g p (celD v j (i + 1)) c r := by
  unfold Pic.put
  by_cases e : c = v.l + i ∧ r = v.t + j
  · obtain ⟨e1, e2⟩ := e
    subst e1 e2
    rw [if_pos ⟨rfl, rfl⟩]
    unfold part
    have q : celD v j (i + 1) (v.l + i) (v.t + j) = true := by
      unfold celD
      refine Bool.or_eq_true_iff.mpr (.inr ?_)
      simp only [Bool.and_eq_true, decide_eq_true_eq]
      exact ⟨⟨trivial, by omega⟩, by omega⟩
    rw [q, if_pos rfl]
  · rw [if_neg e]
    unfold part
    have : celD v j i c r = celD v j (i + 1) c r := by
      unfold celD rowD
      rw [Bool.eq_iff_iff]
      simp only [Bool.or_eq_true, Bool.and_eq_true, decide_eq_true_eq]
      constructor <;> intro q <;> omega
    rw [this]
theorem fill_ok {ar cl v : A4} {col : Str} {num : Int} (k : Dic C g m) (hv : meet (meet ar cl) ⟨0, 0, w, h⟩ = v) (hb1 : w ≤ 1000) (hb2 : h ≤ 1000) (hb3 : -1000 ≤ v.l ∧ v.l ≤ 1000 ∧ -1000 ≤ v.t ∧ v.t ≤ 1000 ∧ 0 ≤ v.w ∧ v.w ≤ 1000 ∧ 0 ≤ v.h ∧ v.h ≤ 1000)
    (hm : m + v.h.toNat * v.w.toNat < 1000000) (hz : ∀ C', Dic C' (part g (fl col num) (rowD v v.h)) (m + v.h.toNat * v.w.toNat) → Z .non (St d D w h C' T)) : WP (F_Canvas_fill [.ref 2, ar.v, .str col, .int num, cl.v] (St d D w h C T)) Z := by
  unfold F_Canvas_fill B_Canvas_fill
  simp only [WP_bind, WP_ok, WP_no, WP_ite, WS_lift', WS_next, WS_ret, WS_brk, WS_cont, WS_seq, WS_ite, WP_call, mSeq, mIfS, mAsg, mRet, mRetN, mSetIx, mDrop, mOr, mAnd, mNot, mTest, mOp, mVar, mC, mCons, mNil, mBlt, mTup, mFl, mLst, mIf, mUn, mNotV, mAndV, mOrV, toB, mSkip, mBreak, mCont, mPar, e_gI, e_gIc, e_gMul, e_gAdd, e_gCmp, e_gEq, e_gEqS, e_ix30, e_ix31, e_ix32, e_set30, e_set31, e_set32, e_t40, e_t41, e_t42, e_t43, Bool.false_eq_true, gN, gT, gNil, gCons, Option.bind_some, Option.bind_none, fAbs, fMax, fMin, fInt,   List.map_cons, List.map_nil, List.cons_append, List.nil_append, List.length_cons, List.length_nil, List.replicate, List.set_cons_succ, List.set_cons_zero, List.getElem?_cons_succ, List.getElem?_cons_zero, Nat.reduceSub, Nat.reduceAdd, Nat.reduceLeDiff, if_true, if_false, true_and, and_true, false_and, and_false, mChain, mRaise, mBM, mFld, mDGet1, mDGet2, mDPut, mSetFld, mMeth, mCall, mMake, mDNew, isNon, mFor, mI, mIt, mLc, mYes, mTupG, gTupG, mSl, mNoP, mPart, mJoin, wipeL, List.append_nil, Bool.not_true, Bool.not_false, decide_true, true_implies, false_implies, implies_true, reduceCtorEq, Bool.true_eq_false, Bool.and_true, Bool.true_and, WP_exc, WS_exc, i_vis]
  refine visible_ok ar cl ?_
  rw [hv]
  simp only [WP_bind, WP_ok, WP_no, WP_ite, WS_lift', WS_next, WS_ret, WS_brk, WS_cont, WS_seq, WS_ite, WP_call, mSeq, mIfS, mAsg, mRet, mRetN, mSetIx, mDrop, mOr, mAnd, mNot, mTest, mOp, mVar, mC, mCons, mNil, mBlt, mTup, mFl, mLst, mIf, mUn, mNotV, mAndV, mOrV, toB, mSkip, mBreak, mCont, mPar, e_gI, e_gIc, e_gMul, e_gAdd, e_gCmp, e_gEq, e_gEqS, e_ix30, e_ix31, e_ix32, e_set30, e_set31, e_set32, e_t40, e_t41, e_t42, e_t43, Bool.false_eq_true, gN, gT, gNil, gCons, Option.bind_some, Option.bind_none, fAbs, fMax, fMin, fInt,   List.map_cons, List.map_nil, List.cons_append, List.nil_append, List.length_cons, List.length_nil, List.replicate, List.set_cons_succ, List.set_cons_zero, List.getElem?_cons_succ, List.getElem?_cons_zero, Nat.reduceSub, Nat.reduceAdd, Nat.reduceLeDiff, if_true, if_false, true_and, and_true, false_and, and_false, mChain, mRaise, mBM, mFld, mDGet1, mDGet2, mDPut, mSetFld, mMeth, mCall, mMake, mDNew, isNon, mFor, mI, mIt, mLc, mYes, mTupG, gTupG, mSl, mNoP, mPart, mJoin, wipeL, List.append_nil, Bool.not_true, Bool.not_false, decide_true, true_implies, false_implies, implies_true, reduceCtorEq, Bool.true_eq_false, Bool.and_true, Bool.true_and, WP_exc, WS_exc, i_vis]
  obtain ⟨b1, b2, b3, b4, b5, b6, b7, b8⟩ := hb3
  refine range2_ok (by omega) (by omega) (by omega) (by omega) ?_
  have eh : (v.t + v.h - v.t).toNat = v.h.toNat := by congr 1; omega
  rw [eh]
  refine WS_for (n := v.h.toNat) (fun j s L => ∃ C' x9 x10 x11 x12 x13 x14, s = [some (LV.ref 2), some ar.v, some (LV.str col), some (LV.int num), some cl.v, some (LV.int v.l), some (LV.int v.t), some (LV.int v.w), some (LV.int v.h), x9, x10, x11, x12, x13, x14] ∧ L = St d D w h C' T ∧ Dic C' (part g (fl col num) (rowD v j)) (m + j * v.w.toNat)) (by unfold FUEL; omega) ?_ ?_ ?_
  · rintro j s L hj ⟨C', x9, x10, x11, x12, x13, x14, rfl, rfl, kd⟩
    refine ⟨_, _, itR_at hj, rfl, ?_⟩
    simp only [WP_bind, WP_ok, WP_no, WP_ite, WS_lift', WS_next, WS_ret, WS_brk, WS_cont, WS_seq, WS_ite, WP_call, mSeq, mIfS, mAsg, mRet, mRetN, mSetIx, mDrop, mOr, mAnd, mNot, mTest, mOp, mVar, mC, mCons, mNil, mBlt, mTup, mFl, mLst, mIf, mUn, mNotV, mAndV, mOrV, toB, mSkip, mBreak, mCont, mPar, e_gI, e_gIc, e_gMul, e_gAdd, e_gCmp, e_gEq, e_gEqS, e_ix30, e_ix31, e_ix32, e_set30, e_set31, e_set32, e_t40, e_t41, e_t42, e_t43, Bool.false_eq_true, gN, gT, gNil, gCons, Option.bind_some, Option.bind_none, fAbs, fMax, fMin, fInt,   List.map_cons, List.map_nil, List.cons_append, List.nil_append, List.length_cons, List.length_nil, List.replicate, List.set_cons_succ, List.set_cons_zero, List.getElem?_cons_succ, List.getElem?_cons_zero, Nat.reduceSub, Nat.reduceAdd, Nat.reduceLeDiff, if_true, if_false, true_and, and_true, false_and, and_false, mChain, mRaise, mBM, mFld, mDGet1, mDGet2, mDPut, mSetFld, mMeth, mCall, mMake, mDNew, isNon, mFor, mI, mIt, mLc, mYes, mTupG, gTupG, mSl, mNoP, mPart, mJoin, wipeL, List.append_nil, Bool.not_true, Bool.not_false, decide_true, true_implies, false_implies, implies_true, reduceCtorEq, Bool.true_eq_false, Bool.and_true, Bool.true_and, WP_exc, WS_exc, i_cell]
    refine range2_ok (by omega) (by omega) (by omega) (by omega) ?_
    have ew : (v.l + v.w - v.l).toNat = v.w.toNat := by congr 1; omega
    rw [ew]
    refine WS_for (n := v.w.toNat) (fun i s L => ∃ C' x10 x11 x12 x13 x14, s = [some (LV.ref 2), some ar.v, some (LV.str col), some (LV.int num), some cl.v, some (LV.int v.l), some (LV.int v.t), some (LV.int v.w), some (LV.int v.h), some (LV.int (v.t + (j : Int))), x10, x11, x12, x13, x14] ∧ L = St d D w h C' T ∧ Dic C' (part g (fl col num) (celD v j i)) (m + j * v.w.toNat + i)) (by unfold FUEL; omega) ?_ ?_ ?_
    · rintro i s L hi ⟨C', x10, x11, x12, x13, x14, rfl, rfl, kd⟩
      refine ⟨_, _, itR_at hi, rfl, ?_⟩
      have hin : (v.l + (i : Int)) < v.l + v.w := by omega
      have hjn : (v.t + (j : Int)) < v.t + v.h := by omega
      have c1 := vis_l (a := meet ar cl) (w := w) (h := h) (c := v.l + i) (by rw [hv]; omega) (by rw [hv]; omega)
      have c2 := vis_t (a := meet ar cl) (w := w) (h := h) (r := v.t + j) (by rw [hv]; omega) (by rw [hv]; omega)
      have hmul : j * v.w.toNat + v.w.toNat ≤ v.h.toNat * v.w.toNat := by
        have := Nat.mul_le_mul_right v.w.toNat (show j + 1 ≤ v.h.toNat by omega)
        rw [Nat.succ_mul] at this
        exact this
      have hl : C'.length < 1000000 := by have := kd.len; omega
      have fin : ∀ x : Cl, x = fl col num (g (v.l + i) (v.t + j)) → Dic (putKL C' (ky (v.l + i) (v.t + j)) (.tup x.vs)) (part g (fl col num) (celD v j (i + 1 : Nat))) (m + j * v.w.toNat + (i + 1)) := fun x hx => by
        subst hx
        refine (kd.put _ _ _).congr fun c r => ?_
        rw [step_cel (by omega) (by omega) (by omega)]
        rfl
      by_cases hc : col = "none"
      · simp only [WP_bind, WP_ok, WP_no, WP_ite, WS_lift', WS_next, WS_ret, WS_brk, WS_cont, WS_seq, WS_ite, WP_call, mSeq, mIfS, mAsg, mRet, mRetN, mSetIx, mDrop, mOr, mAnd, mNot, mTest, mOp, mVar, mC, mCons, mNil, mBlt, mTup, mFl, mLst, mIf, mUn, mNotV, mAndV, mOrV, toB, mSkip, mBreak, mCont, mPar, e_gI, e_gIc, e_gMul, e_gAdd, e_gCmp, e_gEq, e_gEqS, e_ix30, e_ix31, e_ix32, e_set30, e_set31, e_set32, e_t40, e_t41, e_t42, e_t43, Bool.false_eq_true, gN, gT, gNil, gCons, Option.bind_some, Option.bind_none, fAbs, fMax, fMin, fInt,   List.map_cons, List.map_nil, List.cons_append, List.nil_append, List.length_cons, List.length_nil, List.replicate, List.set_cons_succ, List.set_cons_zero, List.getElem?_cons_succ, List.getElem?_cons_zero, Nat.reduceSub, Nat.reduceAdd, Nat.reduceLeDiff, if_true, if_false, true_and, and_true, false_and, and_false, mChain, mRaise, mBM, mFld, mDGet1, mDGet2, mDPut, mSetFld, mMeth, mCall, mMake, mDNew, isNon, mFor, mI, mIt, mLc, mYes, mTupG, gTupG, mSl, mNoP, mPart, mJoin, wipeL, List.append_nil, Bool.not_true, Bool.not_false, decide_true, true_implies, false_implies, implies_true, reduceCtorEq, Bool.true_eq_false, Bool.and_true, Bool.true_and, WP_exc, WS_exc, i_cell, e_cel, decide_eq_true hc]
        refine cell_ok kd c1.1 c1.2 c2.1 c2.2 fun y hy => ?_
        rw [not_yet] at hy
        rcases hy with rfl | rfl
        · simp only [WP_bind, WP_ok, WP_no, WP_ite, WS_lift', WS_next, WS_ret, WS_brk, WS_cont, WS_seq, WS_ite, WP_call, mSeq, mIfS, mAsg, mRet, mRetN, mSetIx, mDrop, mOr, mAnd, mNot, mTest, mOp, mVar, mC, mCons, mNil, mBlt, mTup, mFl, mLst, mIf, mUn, mNotV, mAndV, mOrV, toB, mSkip, mBreak, mCont, mPar, e_gI, e_gIc, e_gMul, e_gAdd, e_gCmp, e_gEq, e_gEqS, e_ix30, e_ix31, e_ix32, e_set30, e_set31, e_set32, e_t40, e_t41, e_t42, e_t43, Bool.false_eq_true, gN, gT, gNil, gCons, Option.bind_some, Option.bind_none, fAbs, fMax, fMin, fInt,   List.map_cons, List.map_nil, List.cons_append, List.nil_append, List.length_cons, List.length_nil, List.replicate, List.set_cons_succ, List.set_cons_zero, List.getElem?_cons_succ, List.getElem?_cons_zero, Nat.reduceSub, Nat.reduceAdd, Nat.reduceLeDiff, if_true, if_false, true_and, and_true, false_and, and_false, mChain, mRaise, mBM, mFld, mDGet1, mDGet2, mDPut, mSetFld, mMeth, mCall, mMake, mDNew, isNon, mFor, mI, mIt, mLc, mYes, mTupG, gTupG, mSl, mNoP, mPart, mJoin, wipeL, List.append_nil, Bool.not_true, Bool.not_false, decide_true, true_implies, false_implies, implies_true, reduceCtorEq, Bool.true_eq_false, Bool.and_true, Bool.true_and, WP_exc, WS_exc, e_cel, e_dp hl]
          refine ⟨_, _, _, _, _, _, rfl, rfl, fin { g (v.l + i) (v.t + j) with num := some num } ?_⟩
          unfold fl
          rw [if_pos hc]
        · simp only [WP_bind, WP_ok, WP_no, WP_ite, WS_lift', WS_next, WS_ret, WS_brk, WS_cont, WS_seq, WS_ite, WP_call, mSeq, mIfS, mAsg, mRet, mRetN, mSetIx, mDrop, mOr, mAnd, mNot, mTest, mOp, mVar, mC, mCons, mNil, mBlt, mTup, mFl, mLst, mIf, mUn, mNotV, mAndV, mOrV, toB, mSkip, mBreak, mCont, mPar, e_gI, e_gIc, e_gMul, e_gAdd, e_gCmp, e_gEq, e_gEqS, e_ix30, e_ix31, e_ix32, e_set30, e_set31, e_set32, e_t40, e_t41, e_t42, e_t43, Bool.false_eq_true, gN, gT, gNil, gCons, Option.bind_some, Option.bind_none, fAbs, fMax, fMin, fInt,   List.map_cons, List.map_nil, List.cons_append, List.nil_append, List.length_cons, List.length_nil, List.replicate, List.set_cons_succ, List.set_cons_zero, List.getElem?_cons_succ, List.getElem?_cons_zero, Nat.reduceSub, Nat.reduceAdd, Nat.reduceLeDiff, if_true, if_false, true_and, and_true, false_and, and_false, mChain, mRaise, mBM, mFld, mDGet1, mDGet2, mDPut, mSetFld, mMeth, mCall, mMake, mDNew, isNon, mFor, mI, mIt, mLc, mYes, mTupG, gTupG, mSl, mNoP, mPart, mJoin, wipeL, List.append_nil, Bool.not_true, Bool.not_false, decide_true, true_implies, false_implies, implies_true, reduceCtorEq, Bool.true_eq_false, Bool.and_true, Bool.true_and, WP_exc, WS_exc, e_cel, e_dp hl]
          refine ⟨_, _, _, _, _, _, rfl, rfl, fin { g (v.l + i) (v.t + j) with num := some num } ?_⟩
          unfold fl
          rw [if_pos hc]
      · simp only [WP_bind, WP_ok, WP_no, WP_ite, WS_lift', WS_next, WS_ret, WS_brk, WS_cont, WS_seq, WS_ite, WP_call, mSeq, mIfS, mAsg, mRet, mRetN, mSetIx, mDrop, mOr, mAnd, mNot, mTest, mOp, mVar, mC, mCons, mNil, mBlt, mTup, mFl, mLst, mIf, mUn, mNotV, mAndV, mOrV, toB, mSkip, mBreak, mCont, mPar, e_gI, e_gIc, e_gMul, e_gAdd, e_gCmp, e_gEq, e_gEqS, e_ix30, e_ix31, e_ix32, e_set30, e_set31, e_set32, e_t40, e_t41, e_t42, e_t43, Bool.false_eq_true, gN, gT, gNil, gCons, Option.bind_some, Option.bind_none, fAbs, fMax, fMin, fInt,   List.map_cons, List.map_nil, List.cons_append, List.nil_append, List.length_cons, List.length_nil, List.replicate, List.set_cons_succ, List.set_cons_zero, List.getElem?_cons_succ, List.getElem?_cons_zero, Nat.reduceSub, Nat.reduceAdd, Nat.reduceLeDiff, if_true, if_false, true_and, and_true, false_and, and_false, mChain, mRaise, mBM, mFld, mDGet1, mDGet2, mDPut, mSetFld, mMeth, mCall, mMake, mDNew, isNon, mFor, mI, mIt, mLc, mYes, mTupG, gTupG, mSl, mNoP, mPart, mJoin, wipeL, List.append_nil, Bool.not_true, Bool.not_false, decide_true, true_implies, false_implies, implies_true, reduceCtorEq, Bool.true_eq_false, Bool.and_true, Bool.true_and, WP_exc, WS_exc, i_cell, e_cel, decide_eq_false hc, e_dp hl]
        refine ⟨_, _, _, _, _, _, rfl, rfl, fin ⟨" ", "black", col, some num⟩ ?_⟩
        unfold fl
        rw [if_neg hc]
    · rintro s L ⟨C', x10, x11, x12, x13, x14, rfl, rfl, kd⟩
      refine ⟨itR_end, _, _, _, _, _, _, _, rfl, rfl, ?_⟩
      refine (kd.congr fun c r => ?_).mono ?_
      · rw [show ((v.w.toNat : Nat) : Int) = v.w by omega, step_row b5 (by omega), show ((j + 1 : Nat) : Int) = (j : Int) + 1 by omega]
      · rw [Nat.succ_mul]; omega
    · exact ⟨C', _, _, _, _, _, rfl, rfl, kd.congr fun c r => start_row c r⟩
  · rintro s L ⟨C', x9, x10, x11, x12, x13, x14, rfl, rfl, kd⟩
    refine ⟨itR_end, hz C' ?_⟩
    have e : ((v.h.toNat : Nat) : Int) = v.h := by omega
    rw [e] at kd
    exact kd
  · refine ⟨C, _, _, _, _, _, _, rfl, rfl, (k.congr fun c r => ?_).mono (by omega)⟩
    unfold part
    have : ¬ rowD v ((0 : Nat) : Int) c r = true := by
      unfold rowD
      simp only [Bool.and_eq_true, decide_eq_true_eq]
      omega
    rw [if_neg this]
end
end Q.K07
end
section
set_option Elab.async false
set_option linter.all false
set_option maxRecDepth 100000
set_option maxHeartbeats 1000000
namespace Q.K07
open PySem L2 Q
section
variable {d : LO} {D C : List (List Key × LV)} {w h c r : Int} {T : LH} {f g : Pic} {m n : Nat} {Z : LV → LH → Prop}
theorem e_len {z : Str} {L : LH} (hz : z.length ≤ 16777216) : fLen [.str z] L = .ok (.int z.length) L := by
  show (if z.length ≤ 16777216 then Res.ok (LV.int z.length) L else .no) = _
  rw [if_pos hz]
/-- the i-th sign of a text -/
def sign (z : Str) (i : Int) : Str := match atI z.cps.toList i with
  | some k => ⟨#[k]⟩
  | none => ""
theorem e_sign {z : Str} {i : Int} {L : LH} (hz : z.length ≤ 16777216) (h0 : 0 ≤ i) (h1 : i < z.length) : gIx (.str z) (.int i) L = .ok (.str (sign z i)) L := by
  have hl : z.cps.toList.length = z.length := by simp [Str.length]
  have e : atI z.cps.toList i = some (z.cps.toList[i.toNat]'(by omega)) := by
    have := atI_nat (xs := z.cps.toList) (j := i.toNat) (List.getElem?_eq_getElem (by omega))
    rw [show ((i.toNat : Nat) : Int) = i by omega] at this
    exact this
  show (if z.length ≤ 16777216 then (match atI z.cps.toList i with | some c => Res.ok (LV.str ⟨#[c]⟩) L | none => .no) else .no) = _
  rw [if_pos hz, e]
  unfold sign
  rw [e]
/-- a cell that is written -/
def wr (z ink bg : Str) (num k : Int) (x : Cl) : Cl := ⟨sign z k, ink, if bg = "none" then x.paper else bg, some num⟩
def wpic (g : Pic) (v : A4) (z ink bg : Str) (num col : Int) (i : Int) : Pic := fun c r => if (decide (r = v.t) && decide (v.l ≤ c) && decide (c < v.l + i)) = true then wr z ink bg num (c - col) (g c r) else g c r
theorem wpic_step {v : A4} {z ink bg : Str} {num col i : Int} (hi : 0 ≤ i) (c r : Int) : (wpic g v z ink bg num col i).put (v.l + i) v.t (wr z ink bg num (v.l + i - col) (g (v.l + i) v.t)) c r = wpic g v z ink bg num col (i + 1) c r := by
  unfold Pic.put wpic
  by_cases e : c = v.l + i ∧ r = v.t
  · obtain ⟨e1, e2⟩ := e
    subst e1 e2
    have q : (decide (v.t = v.t) && decide (v.l ≤ v.l + i) && decide (v.l + i < v.l + (i + 1))) = true := by
      simp only [Bool.and_eq_true, decide_eq_true_eq]
      exact ⟨⟨trivial, by omega⟩, by omega⟩
    rw [if_pos ⟨rfl, rfl⟩, q, if_pos rfl]
  · have q : (decide (r = v.t) && decide (v.l ≤ c) && decide (c < v.l + i)) = (decide (r = v.t) && decide (v.l ≤ c) && decide (c < v.l + (i + 1))) := by
      rw [Bool.eq_iff_iff]
      simp only [Bool.and_eq_true, decide_eq_true_eq]
      constructor <;> intro q <;> omega
    rw [if_neg e, q]
theorem wpic_not {v : A4} {z ink bg : Str} {num col i : Int} : wpic g v z ink bg num col i (v.l + i) v.t = g (v.l + i) v.t := by
  unfold wpic
  have : ¬ (decide (v.t = v.t) && decide (v.l ≤ v.l + i) && decide (v.l + i < v.l + i)) = true := by
    simp only [Bool.and_eq_true, decide_eq_true_eq]
    omega
  rw [if_neg this]
theorem e_t30 {a b e : LV} {L : LH} : gIx (.tup [a, b, e]) (.int 2) L = .ok e L := rfl
theorem e_s42 {a b e k : LV} {L : LH} : gIx (.st [a, b, e, k]) (.int 2) L = .ok e L := rfl
theorem write_ok {cl v : A4} {z ink bg : Str} {num col row : Int} (k : Dic C g m) (hz1 : z.length ≤ 100) (hv : meet (meet ⟨col, row, z.length, 1⟩ cl) ⟨0, 0, w, h⟩ = v) (hb1 : w ≤ 1000)
    (hb3 : -1000 ≤ v.l ∧ v.l ≤ 1000 ∧ 0 ≤ v.w ∧ v.w ≤ 1000 ∧ col ≤ v.l ∧ (0 < v.w → v.l + v.w ≤ col + z.length) ∨ v.h = 0) (hrow : v.h = 0 ∨ (v.h = 1 ∧ v.t = row))
    (hm : m + v.w.toNat < 1000000) (hz : ∀ C', Dic C' (if v.h = 0 then g else wpic g v z ink bg num col v.w) (m + v.w.toNat) → Z .non (St d D w h C' T)) :
    WP (F_Canvas_write [.ref 2, .int col, .int row, .str z, .tup [.str ink, .str bg, .int num], cl.v] (St d D w h C T)) Z := by
  unfold F_Canvas_write B_Canvas_write
  simp only [WP_bind, WP_ok, WP_no, WP_ite, WS_lift', WS_next, WS_ret, WS_brk, WS_cont, WS_seq, WS_ite, WP_call, mSeq, mIfS, mAsg, mRet, mRetN, mSetIx, mDrop, mOr, mAnd, mNot, mTest, mOp, mVar, mC, mCons, mNil, mBlt, mTup, mFl, mLst, mIf, mUn, mNotV, mAndV, mOrV, toB, mSkip, mBreak, mCont, mPar, e_gI, e_gIc, e_gMul, e_gAdd, e_gCmp, e_gEq, e_gEqS, e_ix30, e_ix31, e_ix32, e_set30, e_set31, e_set32, e_t40, e_t41, e_t42, e_t43, Bool.false_eq_true, gN, gT, gNil, gCons, Option.bind_some, Option.bind_none, fAbs, fMax, fMin, fInt,   List.map_cons, List.map_nil, List.cons_append, List.nil_append, List.length_cons, List.length_nil, List.replicate, List.set_cons_succ, List.set_cons_zero, List.getElem?_cons_succ, List.getElem?_cons_zero, Nat.reduceSub, Nat.reduceAdd, Nat.reduceLeDiff, if_true, if_false, true_and, and_true, false_and, and_false, mChain, mRaise, mBM, mFld, mDGet1, mDGet2, mDPut, mSetFld, mMeth, mCall, mMake, mDNew, isNon, mFor, mI, mIt, mLc, mYes, mTupG, gTupG, mSl, mNoP, mPart, mJoin, wipeL, List.append_nil, Bool.not_true, Bool.not_false, decide_true, true_implies, false_implies, implies_true, reduceCtorEq, Bool.true_eq_false, Bool.and_true, Bool.true_and, WP_exc, WS_exc, i_vis, e_len (show z.length ≤ 16777216 by omega)]
  refine visible_ok ⟨col, row, z.length, 1⟩ cl ?_
  rw [hv]
  simp only [WP_bind, WP_ok, WP_no, WP_ite, WS_lift', WS_next, WS_ret, WS_brk, WS_cont, WS_seq, WS_ite, WP_call, mSeq, mIfS, mAsg, mRet, mRetN, mSetIx, mDrop, mOr, mAnd, mNot, mTest, mOp, mVar, mC, mCons, mNil, mBlt, mTup, mFl, mLst, mIf, mUn, mNotV, mAndV, mOrV, toB, mSkip, mBreak, mCont, mPar, e_gI, e_gIc, e_gMul, e_gAdd, e_gCmp, e_gEq, e_gEqS, e_ix30, e_ix31, e_ix32, e_set30, e_set31, e_set32, e_t40, e_t41, e_t42, e_t43, Bool.false_eq_true, gN, gT, gNil, gCons, Option.bind_some, Option.bind_none, fAbs, fMax, fMin, fInt,   List.map_cons, List.map_nil, List.cons_append, List.nil_append, List.length_cons, List.length_nil, List.replicate, List.set_cons_succ, List.set_cons_zero, List.getElem?_cons_succ, List.getElem?_cons_zero, Nat.reduceSub, Nat.reduceAdd, Nat.reduceLeDiff, if_true, if_false, true_and, and_true, false_and, and_false, mChain, mRaise, mBM, mFld, mDGet1, mDGet2, mDPut, mSetFld, mMeth, mCall, mMake, mDNew, isNon, mFor, mI, mIt, mLc, mYes, mTupG, gTupG, mSl, mNoP, mPart, mJoin, wipeL, List.append_nil, Bool.not_true, Bool.not_false, decide_true, true_implies, false_implies, implies_true, reduceCtorEq, Bool.true_eq_false, Bool.and_true, Bool.true_and, WP_exc, WS_exc, i_vis]
  by_cases h0 : v.h = 0
  · simp only [WP_bind, WP_ok, WP_no, WP_ite, WS_lift', WS_next, WS_ret, WS_brk, WS_cont, WS_seq, WS_ite, WP_call, mSeq, mIfS, mAsg, mRet, mRetN, mSetIx, mDrop, mOr, mAnd, mNot, mTest, mOp, mVar, mC, mCons, mNil, mBlt, mTup, mFl, mLst, mIf, mUn, mNotV, mAndV, mOrV, toB, mSkip, mBreak, mCont, mPar, e_gI, e_gIc, e_gMul, e_gAdd, e_gCmp, e_gEq, e_gEqS, e_ix30, e_ix31, e_ix32, e_set30, e_set31, e_set32, e_t40, e_t41, e_t42, e_t43, Bool.false_eq_true, gN, gT, gNil, gCons, Option.bind_some, Option.bind_none, fAbs, fMax, fMin, fInt,   List.map_cons, List.map_nil, List.cons_append, List.nil_append, List.length_cons, List.length_nil, List.replicate, List.set_cons_succ, List.set_cons_zero, List.getElem?_cons_succ, List.getElem?_cons_zero, Nat.reduceSub, Nat.reduceAdd, Nat.reduceLeDiff, if_true, if_false, true_and, and_true, false_and, and_false, mChain, mRaise, mBM, mFld, mDGet1, mDGet2, mDPut, mSetFld, mMeth, mCall, mMake, mDNew, isNon, mFor, mI, mIt, mLc, mYes, mTupG, gTupG, mSl, mNoP, mPart, mJoin, wipeL, List.append_nil, Bool.not_true, Bool.not_false, decide_true, true_implies, false_implies, implies_true, reduceCtorEq, Bool.true_eq_false, Bool.and_true, Bool.true_and, WP_exc, WS_exc, decide_eq_true h0]
    refine hz C ?_
    rw [if_pos h0]
    exact k.mono (by omega)
  obtain ⟨b1, b2, b3, b4, b5, b6⟩ := hb3.resolve_right h0
  obtain ⟨h1, ht⟩ := hrow.resolve_left h0
  simp only [WP_bind, WP_ok, WP_no, WP_ite, WS_lift', WS_next, WS_ret, WS_brk, WS_cont, WS_seq, WS_ite, WP_call, mSeq, mIfS, mAsg, mRet, mRetN, mSetIx, mDrop, mOr, mAnd, mNot, mTest, mOp, mVar, mC, mCons, mNil, mBlt, mTup, mFl, mLst, mIf, mUn, mNotV, mAndV, mOrV, toB, mSkip, mBreak, mCont, mPar, e_gI, e_gIc, e_gMul, e_gAdd, e_gCmp, e_gEq, e_gEqS, e_ix30, e_ix31, e_ix32, e_set30, e_set31, e_set32, e_t40, e_t41, e_t42, e_t43, Bool.false_eq_true, gN, gT, gNil, gCons, Option.bind_some, Option.bind_none, fAbs, fMax, fMin, fInt,   List.map_cons, List.map_nil, List.cons_append, List.nil_append, List.length_cons, List.length_nil, List.replicate, List.set_cons_succ, List.set_cons_zero, List.getElem?_cons_succ, List.getElem?_cons_zero, Nat.reduceSub, Nat.reduceAdd, Nat.reduceLeDiff, if_true, if_false, true_and, and_true, false_and, and_false, mChain, mRaise, mBM, mFld, mDGet1, mDGet2, mDPut, mSetFld, mMeth, mCall, mMake, mDNew, isNon, mFor, mI, mIt, mLc, mYes, mTupG, gTupG, mSl, mNoP, mPart, mJoin, wipeL, List.append_nil, Bool.not_true, Bool.not_false, decide_true, true_implies, false_implies, implies_true, reduceCtorEq, Bool.true_eq_false, Bool.and_true, Bool.true_and, WP_exc, WS_exc, decide_eq_false h0]
  refine range2_ok (by omega) (by omega) (by omega) (by omega) ?_
  rw [show (v.l + v.w - v.l).toNat = v.w.toNat by congr 1; omega]
  rw [if_neg h0] at hz
  refine WS_for (n := v.w.toNat) (fun i s L => ∃ C' x13 x14, s = [some (LV.ref 2), some (LV.int col), some (LV.int row), some (LV.str z), some (.tup [.str ink, .str bg, .int num]), some cl.v, some (LV.str ink), some (LV.str bg), some (LV.int num), some (LV.int v.l), some (LV.int v.t), some (LV.int v.w), some (LV.int v.h), x13, x14] ∧ L = St d D w h C' T ∧ Dic C' (wpic g v z ink bg num col i) (m + i)) (by unfold FUEL; omega) ?_ ?_ ?_
  · rintro i s L hi ⟨C', x13, x14, rfl, rfl, kd⟩
    refine ⟨_, _, itR_at hi, rfl, ?_⟩
    have c1 := vis_l (a := meet ⟨col, row, z.length, 1⟩ cl) (w := w) (h := h) (c := v.l + i) (by rw [hv]; omega) (by rw [hv]; omega)
    have c2 := vis_t (a := meet ⟨col, row, z.length, 1⟩ cl) (w := w) (h := h) (r := v.t) (by rw [hv]; omega) (by rw [hv]; omega)
    have hl : C'.length < 1000000 := by have := kd.len; omega
    have fin : ∀ x : Cl, x = wr z ink bg num (v.l + i - col) (g (v.l + i) v.t) → Dic (putKL C' (ky (v.l + i) row) (.tup x.vs)) (wpic g v z ink bg num col (i + 1 : Nat)) (m + (i + 1)) := fun x hx => by
      subst hx
      rw [← ht]
      refine (kd.put _ _ _).congr fun c r => ?_
      rw [wpic_step (by omega)]
      rfl
    have b7 := b6 (by omega)
    have es : ∀ L, gIx (.str z) (.int (v.l + i - col)) L = .ok (.str (sign z (v.l + i - col))) L := fun L => e_sign (by omega) (by omega) (by omega)
    by_cases hc : bg = "none"
    · simp only [WP_bind, WP_ok, WP_no, WP_ite, WS_lift', WS_next, WS_ret, WS_brk, WS_cont, WS_seq, WS_ite, WP_call, mSeq, mIfS, mAsg, mRet, mRetN, mSetIx, mDrop, mOr, mAnd, mNot, mTest, mOp, mVar, mC, mCons, mNil, mBlt, mTup, mFl, mLst, mIf, mUn, mNotV, mAndV, mOrV, toB, mSkip, mBreak, mCont, mPar, e_gI, e_gIc, e_gMul, e_gAdd, e_gCmp, e_gEq, e_gEqS, e_ix30, e_ix31, e_ix32, e_set30, e_set31, e_set32, e_t40, e_t41, e_t42, e_t43, Bool.false_eq_true, gN, gT, gNil, gCons, Option.bind_some, Option.bind_none, fAbs, fMax, fMin, fInt,   List.map_cons, List.map_nil, List.cons_append, List.nil_append, List.length_cons, List.length_nil, List.replicate, List.set_cons_succ, List.set_cons_zero, List.getElem?_cons_succ, List.getElem?_cons_zero, Nat.reduceSub, Nat.reduceAdd, Nat.reduceLeDiff, if_true, if_false, true_and, and_true, false_and, and_false, mChain, mRaise, mBM, mFld, mDGet1, mDGet2, mDPut, mSetFld, mMeth, mCall, mMake, mDNew, isNon, mFor, mI, mIt, mLc, mYes, mTupG, gTupG, mSl, mNoP, mPart, mJoin, wipeL, List.append_nil, Bool.not_true, Bool.not_false, decide_true, true_implies, false_implies, implies_true, reduceCtorEq, Bool.true_eq_false, Bool.and_true, Bool.true_and, WP_exc, WS_exc, i_cell, decide_eq_true hc]
      refine cell_ok kd c1.1 c1.2 (by rw [← ht]; exact c2.1) (by rw [← ht]; exact c2.2) fun y hy => ?_
      rw [← ht, wpic_not, ht] at hy
      rcases hy with rfl | rfl
      · simp only [WP_bind, WP_ok, WP_no, WP_ite, WS_lift', WS_next, WS_ret, WS_brk, WS_cont, WS_seq, WS_ite, WP_call, mSeq, mIfS, mAsg, mRet, mRetN, mSetIx, mDrop, mOr, mAnd, mNot, mTest, mOp, mVar, mC, mCons, mNil, mBlt, mTup, mFl, mLst, mIf, mUn, mNotV, mAndV, mOrV, toB, mSkip, mBreak, mCont, mPar, e_gI, e_gIc, e_gMul, e_gAdd, e_gCmp, e_gEq, e_gEqS, e_ix30, e_ix31, e_ix32, e_set30, e_set31, e_set32, e_t40, e_t41, e_t42, e_t43, Bool.false_eq_true, gN, gT, gNil, gCons, Option.bind_some, Option.bind_none, fAbs, fMax, fMin, fInt,   List.map_cons, List.map_nil, List.cons_append, List.nil_append, List.length_cons, List.length_nil, List.replicate, List.set_cons_succ, List.set_cons_zero, List.getElem?_cons_succ, List.getElem?_cons_zero, Nat.reduceSub, Nat.reduceAdd, Nat.reduceLeDiff, if_true, if_false, true_and, and_true, false_and, and_false, mChain, mRaise, mBM, mFld, mDGet1, mDGet2, mDPut, mSetFld, mMeth, mCall, mMake, mDNew, isNon, mFor, mI, mIt, mLc, mYes, mTupG, gTupG, mSl, mNoP, mPart, mJoin, wipeL, List.append_nil, Bool.not_true, Bool.not_false, decide_true, true_implies, false_implies, implies_true, reduceCtorEq, Bool.true_eq_false, Bool.and_true, Bool.true_and, WP_exc, WS_exc, e_cel, e_dp hl, es, e_s42]
        refine ⟨_, _, _, rfl, rfl, fin ⟨sign z (v.l + i - col), ink, (g (v.l + i) row).paper, some num⟩ ?_⟩
        unfold wr
        rw [if_pos hc, ht]
      · simp only [WP_bind, WP_ok, WP_no, WP_ite, WS_lift', WS_next, WS_ret, WS_brk, WS_cont, WS_seq, WS_ite, WP_call, mSeq, mIfS, mAsg, mRet, mRetN, mSetIx, mDrop, mOr, mAnd, mNot, mTest, mOp, mVar, mC, mCons, mNil, mBlt, mTup, mFl, mLst, mIf, mUn, mNotV, mAndV, mOrV, toB, mSkip, mBreak, mCont, mPar, e_gI, e_gIc, e_gMul, e_gAdd, e_gCmp, e_gEq, e_gEqS, e_ix30, e_ix31, e_ix32, e_set30, e_set31, e_set32, e_t40, e_t41, e_t42, e_t43, Bool.false_eq_true, gN, gT, gNil, gCons, Option.bind_some, Option.bind_none, fAbs, fMax, fMin, fInt,   List.map_cons, List.map_nil, List.cons_append, List.nil_append, List.length_cons, List.length_nil, List.replicate, List.set_cons_succ, List.set_cons_zero, List.getElem?_cons_succ, List.getElem?_cons_zero, Nat.reduceSub, Nat.reduceAdd, Nat.reduceLeDiff, if_true, if_false, true_and, and_true, false_and, and_false, mChain, mRaise, mBM, mFld, mDGet1, mDGet2, mDPut, mSetFld, mMeth, mCall, mMake, mDNew, isNon, mFor, mI, mIt, mLc, mYes, mTupG, gTupG, mSl, mNoP, mPart, mJoin, wipeL, List.append_nil, Bool.not_true, Bool.not_false, decide_true, true_implies, false_implies, implies_true, reduceCtorEq, Bool.true_eq_false, Bool.and_true, Bool.true_and, WP_exc, WS_exc, e_cel, e_dp hl, es, e_s42]
        refine ⟨_, _, _, rfl, rfl, fin ⟨sign z (v.l + i - col), ink, (g (v.l + i) row).paper, some num⟩ ?_⟩
        unfold wr
        rw [if_pos hc, ht]
    · simp only [WP_bind, WP_ok, WP_no, WP_ite, WS_lift', WS_next, WS_ret, WS_brk, WS_cont, WS_seq, WS_ite, WP_call, mSeq, mIfS, mAsg, mRet, mRetN, mSetIx, mDrop, mOr, mAnd, mNot, mTest, mOp, mVar, mC, mCons, mNil, mBlt, mTup, mFl, mLst, mIf, mUn, mNotV, mAndV, mOrV, toB, mSkip, mBreak, mCont, mPar, e_gI, e_gIc, e_gMul, e_gAdd, e_gCmp, e_gEq, e_gEqS, e_ix30, e_ix31, e_ix32, e_set30, e_set31, e_set32, e_t40, e_t41, e_t42, e_t43, Bool.false_eq_true, gN, gT, gNil, gCons, Option.bind_some, Option.bind_none, fAbs, fMax, fMin, fInt,   List.map_cons, List.map_nil, List.cons_append, List.nil_append, List.length_cons, List.length_nil, List.replicate, List.set_cons_succ, List.set_cons_zero, List.getElem?_cons_succ, List.getElem?_cons_zero, Nat.reduceSub, Nat.reduceAdd, Nat.reduceLeDiff, if_true, if_false, true_and, and_true, false_and, and_false, mChain, mRaise, mBM, mFld, mDGet1, mDGet2, mDPut, mSetFld, mMeth, mCall, mMake, mDNew, isNon, mFor, mI, mIt, mLc, mYes, mTupG, gTupG, mSl, mNoP, mPart, mJoin, wipeL, List.append_nil, Bool.not_true, Bool.not_false, decide_true, true_implies, false_implies, implies_true, reduceCtorEq, Bool.true_eq_false, Bool.and_true, Bool.true_and, WP_exc, WS_exc, i_cell, e_cel, decide_eq_false hc, e_dp hl, es]
      refine ⟨_, _, _, rfl, rfl, fin ⟨sign z (v.l + i - col), ink, bg, some num⟩ ?_⟩
      unfold wr
      rw [if_neg hc]
  · rintro s L ⟨C', x13, x14, rfl, rfl, kd⟩
    refine ⟨itR_end, hz C' ?_⟩
    rw [show ((v.w.toNat : Nat) : Int) = v.w by omega] at kd
    exact kd
  · refine ⟨C, _, _, rfl, rfl, (k.congr fun c r => ?_).mono (by omega)⟩
    unfold wpic
    have : ¬ (decide (r = v.t) && decide (v.l ≤ c) && decide (c < v.l + ((0 : Nat) : Int))) = true := by
      simp only [Bool.and_eq_true, decide_eq_true_eq]
      omega
    rw [if_neg this]
end
end Q.K07
end
section
set_option Elab.async false
set_option linter.all false
set_option maxRecDepth 100000
set_option maxHeartbeats 1000000
namespace Q.K07
open PySem L2 Q
section
variable {d : LO} {D C : List (List Key × LV)} {w h c r : Int} {T : LH} {f g : Pic} {m n : Nat} {Z : LV → LH → Prop}
theorem range1_ok {j : Int} {L : LH} {Y : IT → LH → Prop} (h3 : -1000000000 < j) (h4 : j < 1000000000) (h : Y (itR 0 j.toNat) L) : WP (range1 [.int j] L) Y := by
  unfold range1
  simp only []
  rw [if_pos ⟨h3, h4⟩]
  exact h
/-- the letter and the two colours -/
abbrev Cl.v3 (x : Cl) : LV := .tup [.str x.ch, .str x.ink, .str x.paper]
theorem e_sl3t {a b e k : LV} {L : LH} : gSl (.tup [a, b, e, k]) none (some 3) L = .ok (.tup [a, b, e]) L := by rfl
theorem e_sl3s {a b e k : LV} {L : LH} : gSl (.st [a, b, e, k]) none (some 3) L = .ok (.tup [a, b, e]) L := by rfl
/-- one row -/
def row3 (g : Pic) (r : Int) (n : Nat) : List LV := (List.range n).map fun (k : Nat) => (g k r).v3
theorem row3_succ (g : Pic) (r : Int) (n : Nat) : row3 g r (n + 1) = row3 g r n ++ [(g n r).v3] := by
  unfold row3
  rw [List.range_succ, List.map_append]
  rfl
def rows3 (g : Pic) (w n : Nat) : List LV := (List.range n).map fun (k : Nat) => .tup (row3 g k w)
theorem rows3_succ (g : Pic) (w n : Nat) : rows3 g w (n + 1) = rows3 g w n ++ [.tup (row3 g n w)] := by
  unfold rows3
  rw [List.range_succ, List.map_append]
  rfl
theorem at_last {P : LH} {o : LO} : (P ++ [o])[P.length]? = some o := by simp
theorem set_last {P : LH} {o o' : LO} : (P ++ [o]).set P.length o' = P ++ [o'] := by simp
theorem append_ok {P : LH} {acc : List LV} {y : LV} (hl : acc.length < 1000000) : gAppend (.ref P.length) [y] (P ++ [.lst acc]) = .ok .non (P ++ [.lst (acc ++ [y])]) := by
  show chgL (P ++ [.lst acc]) (.ref P.length) _ = _
  unfold chgL
  simp only [at_last, set_last]
  rw [if_pos hl]
theorem ty_last {P : LH} {acc : List LV} : tyL "list" (.ref P.length) (P ++ [.lst acc]) = true := by
  show ("list" == "list" && (lviewR (P ++ [.lst acc]) (.ref P.length)).isSome) = true
  unfold lviewR lview
  simp only [at_last]
  rfl
theorem tuple_last {P : LH} {acc : List LV} : fTuple [.ref P.length] (P ++ [LO.lst acc] : LH) = Res.ok (.tup acc) (P ++ [LO.lst acc] : LH) := by
  show (match lviewR (P ++ [LO.lst acc] : LH) (.ref P.length) with | some ys => Res.ok (LV.tup ys) (P ++ [LO.lst acc] : LH) | none => .no) = _
  unfold lviewR lview
  simp only [at_last]
theorem shown_ok (k : Dic C g m) (h0 : 0 ≤ w) (h1 : w ≤ 1000) (h2 : 0 ≤ h) (h3 : h ≤ 1000) (hz : ∀ T', Z (.tup (rows3 g w.toNat h.toNat)) (St d D w h C T')) : WP (F_Canvas_shown [.ref 2] (St d D w h C T)) Z := by
  unfold F_Canvas_shown B_Canvas_shown
  generalize hP : (St d D w h C T) = P
  have eP : ∀ o, P ++ [o] = St d D w h C (T ++ [o]) := fun o => by rw [← hP]; rfl
  simp only [WP_bind, WP_ok, WP_no, WP_ite, WS_lift', WS_next, WS_ret, WS_brk, WS_cont, WS_seq, WS_ite, WP_call, mSeq, mIfS, mAsg, mRet, mRetN, mSetIx, mDrop, mOr, mAnd, mNot, mTest, mOp, mVar, mC, mCons, mNil, mBlt, mTup, mFl, mLst, mIf, mUn, mNotV, mAndV, mOrV, toB, mSkip, mBreak, mCont, mPar, e_gI, e_gIc, e_gMul, e_gAdd, e_gCmp, e_gEq, e_gEqS, e_ix30, e_ix31, e_ix32, e_set30, e_set31, e_set32, e_t40, e_t41, e_t42, e_t43, Bool.false_eq_true, gN, gT, gNil, gCons, Option.bind_some, Option.bind_none, fAbs, fMax, fMin, fInt,   List.map_cons, List.map_nil, List.cons_append, List.nil_append, List.length_cons, List.length_nil, List.replicate, List.set_cons_succ, List.set_cons_zero, List.getElem?_cons_succ, List.getElem?_cons_zero, Nat.reduceSub, Nat.reduceAdd, Nat.reduceLeDiff, if_true, if_false, true_and, and_true, false_and, and_false, mChain, mRaise, mBM, mFld, mDGet1, mDGet2, mDPut, mSetFld, mMeth, mCall, mMake, mDNew, isNon, mFor, mI, mIt, mLc, mYes, mTupG, gTupG, mSl, mNoP, mPart, mJoin, wipeL, List.append_nil, Bool.not_true, Bool.not_false, decide_true, true_implies, false_implies, implies_true, reduceCtorEq, Bool.true_eq_false, Bool.and_true, Bool.true_and, WP_exc, WS_exc, show (0 : Nat) ≤ 1000 from Nat.zero_le _]
  rw [eP]
  simp only [WP_bind, WP_ok, WP_no, WP_ite, WS_lift', WS_next, WS_ret, WS_brk, WS_cont, WS_seq, WS_ite, WP_call, mSeq, mIfS, mAsg, mRet, mRetN, mSetIx, mDrop, mOr, mAnd, mNot, mTest, mOp, mVar, mC, mCons, mNil, mBlt, mTup, mFl, mLst, mIf, mUn, mNotV, mAndV, mOrV, toB, mSkip, mBreak, mCont, mPar, e_gI, e_gIc, e_gMul, e_gAdd, e_gCmp, e_gEq, e_gEqS, e_ix30, e_ix31, e_ix32, e_set30, e_set31, e_set32, e_t40, e_t41, e_t42, e_t43, Bool.false_eq_true, gN, gT, gNil, gCons, Option.bind_some, Option.bind_none, fAbs, fMax, fMin, fInt,   List.map_cons, List.map_nil, List.cons_append, List.nil_append, List.length_cons, List.length_nil, List.replicate, List.set_cons_succ, List.set_cons_zero, List.getElem?_cons_succ, List.getElem?_cons_zero, Nat.reduceSub, Nat.reduceAdd, Nat.reduceLeDiff, if_true, if_false, true_and, and_true, false_and, and_false, mChain, mRaise, mBM, mFld, mDGet1, mDGet2, mDPut, mSetFld, mMeth, mCall, mMake, mDNew, isNon, mFor, mI, mIt, mLc, mYes, mTupG, gTupG, mSl, mNoP, mPart, mJoin, wipeL, List.append_nil, Bool.not_true, Bool.not_false, decide_true, true_implies, false_implies, implies_true, reduceCtorEq, Bool.true_eq_false, Bool.and_true, Bool.true_and, WP_exc, WS_exc, e_hei]
  refine range1_ok (by omega) (by omega) ?_
  refine WS_for (n := h.toNat) (fun j s L => ∃ x2 x3, s = [some (.ref 2), some (.ref P.length), x2, x3] ∧ L = P ++ [.lst (rows3 g w.toNat j)]) (by unfold FUEL; omega) ?_ ?_ ?_
  · rintro j s L hj ⟨x2, x3, rfl, rfl⟩
    refine ⟨_, _, itR_at hj, rfl, ?_⟩
    simp only [WP_bind, WP_ok, WP_no, WP_ite, WS_lift', WS_next, WS_ret, WS_brk, WS_cont, WS_seq, WS_ite, WP_call, mSeq, mIfS, mAsg, mRet, mRetN, mSetIx, mDrop, mOr, mAnd, mNot, mTest, mOp, mVar, mC, mCons, mNil, mBlt, mTup, mFl, mLst, mIf, mUn, mNotV, mAndV, mOrV, toB, mSkip, mBreak, mCont, mPar, e_gI, e_gIc, e_gMul, e_gAdd, e_gCmp, e_gEq, e_gEqS, e_ix30, e_ix31, e_ix32, e_set30, e_set31, e_set32, e_t40, e_t41, e_t42, e_t43, Bool.false_eq_true, gN, gT, gNil, gCons, Option.bind_some, Option.bind_none, fAbs, fMax, fMin, fInt,   List.map_cons, List.map_nil, List.cons_append, List.nil_append, List.length_cons, List.length_nil, List.replicate, List.set_cons_succ, List.set_cons_zero, List.getElem?_cons_succ, List.getElem?_cons_zero, Nat.reduceSub, Nat.reduceAdd, Nat.reduceLeDiff, if_true, if_false, true_and, and_true, false_and, and_false, mChain, mRaise, mBM, mFld, mDGet1, mDGet2, mDPut, mSetFld, mMeth, mCall, mMake, mDNew, isNon, mFor, mI, mIt, mLc, mYes, mTupG, gTupG, mSl, mNoP, mPart, mJoin, wipeL, List.append_nil, Bool.not_true, Bool.not_false, decide_true, true_implies, false_implies, implies_true, reduceCtorEq, Bool.true_eq_false, Bool.and_true, Bool.true_and, WP_exc, WS_exc, ty_last]
    rw [eP]
    simp only [WP_bind, WP_ok, WP_no, WP_ite, WS_lift', WS_next, WS_ret, WS_brk, WS_cont, WS_seq, WS_ite, WP_call, mSeq, mIfS, mAsg, mRet, mRetN, mSetIx, mDrop, mOr, mAnd, mNot, mTest, mOp, mVar, mC, mCons, mNil, mBlt, mTup, mFl, mLst, mIf, mUn, mNotV, mAndV, mOrV, toB, mSkip, mBreak, mCont, mPar, e_gI, e_gIc, e_gMul, e_gAdd, e_gCmp, e_gEq, e_gEqS, e_ix30, e_ix31, e_ix32, e_set30, e_set31, e_set32, e_t40, e_t41, e_t42, e_t43, Bool.false_eq_true, gN, gT, gNil, gCons, Option.bind_some, Option.bind_none, fAbs, fMax, fMin, fInt,   List.map_cons, List.map_nil, List.cons_append, List.nil_append, List.length_cons, List.length_nil, List.replicate, List.set_cons_succ, List.set_cons_zero, List.getElem?_cons_succ, List.getElem?_cons_zero, Nat.reduceSub, Nat.reduceAdd, Nat.reduceLeDiff, if_true, if_false, true_and, and_true, false_and, and_false, mChain, mRaise, mBM, mFld, mDGet1, mDGet2, mDPut, mSetFld, mMeth, mCall, mMake, mDNew, isNon, mFor, mI, mIt, mLc, mYes, mTupG, gTupG, mSl, mNoP, mPart, mJoin, wipeL, List.append_nil, Bool.not_true, Bool.not_false, decide_true, true_implies, false_implies, implies_true, reduceCtorEq, Bool.true_eq_false, Bool.and_true, Bool.true_and, WP_exc, WS_exc, e_wid, i_cell]
    refine range1_ok (by omega) (by omega) ?_
    refine WP_lc (n := w.toNat) (fun i acc L => acc = row3 g (0 + (j : Int)) i ∧ L = St d D w h C (T ++ [.lst (rows3 g w.toNat j)])) (by unfold FUEL; omega) (fun i acc L hi ⟨e, _⟩ => by rw [e]; unfold row3; rw [List.length_map, List.length_range]; omega) ?_ ?_ ?_
    · rintro i acc L hi ⟨rfl, rfl⟩
      refine ⟨_, _, itR_at hi, rfl, ?_⟩
      simp only [WP_bind, WP_ok, WP_no, WP_ite, WS_lift', WS_next, WS_ret, WS_brk, WS_cont, WS_seq, WS_ite, WP_call, mSeq, mIfS, mAsg, mRet, mRetN, mSetIx, mDrop, mOr, mAnd, mNot, mTest, mOp, mVar, mC, mCons, mNil, mBlt, mTup, mFl, mLst, mIf, mUn, mNotV, mAndV, mOrV, toB, mSkip, mBreak, mCont, mPar, e_gI, e_gIc, e_gMul, e_gAdd, e_gCmp, e_gEq, e_gEqS, e_ix30, e_ix31, e_ix32, e_set30, e_set31, e_set32, e_t40, e_t41, e_t42, e_t43, Bool.false_eq_true, gN, gT, gNil, gCons, Option.bind_some, Option.bind_none, fAbs, fMax, fMin, fInt,   List.map_cons, List.map_nil, List.cons_append, List.nil_append, List.length_cons, List.length_nil, List.replicate, List.set_cons_succ, List.set_cons_zero, List.getElem?_cons_succ, List.getElem?_cons_zero, Nat.reduceSub, Nat.reduceAdd, Nat.reduceLeDiff, if_true, if_false, true_and, and_true, false_and, and_false, mChain, mRaise, mBM, mFld, mDGet1, mDGet2, mDPut, mSetFld, mMeth, mCall, mMake, mDNew, isNon, mFor, mI, mIt, mLc, mYes, mTupG, gTupG, mSl, mNoP, mPart, mJoin, wipeL, List.append_nil, Bool.not_true, Bool.not_false, decide_true, true_implies, false_implies, implies_true, reduceCtorEq, Bool.true_eq_false, Bool.and_true, Bool.true_and, WP_exc, WS_exc, i_cell]
      refine cell_ok k (by omega) (by omega) (by omega) (by omega) fun y hy => ?_
      have e : (0 + (i : Int)) = (i : Int) := by omega
      rcases hy with rfl | rfl
      · simp only [WP_bind, WP_ok, WP_no, WP_ite, WS_lift', WS_next, WS_ret, WS_brk, WS_cont, WS_seq, WS_ite, WP_call, mSeq, mIfS, mAsg, mRet, mRetN, mSetIx, mDrop, mOr, mAnd, mNot, mTest, mOp, mVar, mC, mCons, mNil, mBlt, mTup, mFl, mLst, mIf, mUn, mNotV, mAndV, mOrV, toB, mSkip, mBreak, mCont, mPar, e_gI, e_gIc, e_gMul, e_gAdd, e_gCmp, e_gEq, e_gEqS, e_ix30, e_ix31, e_ix32, e_set30, e_set31, e_set32, e_t40, e_t41, e_t42, e_t43, Bool.false_eq_true, gN, gT, gNil, gCons, Option.bind_some, Option.bind_none, fAbs, fMax, fMin, fInt,   List.map_cons, List.map_nil, List.cons_append, List.nil_append, List.length_cons, List.length_nil, List.replicate, List.set_cons_succ, List.set_cons_zero, List.getElem?_cons_succ, List.getElem?_cons_zero, Nat.reduceSub, Nat.reduceAdd, Nat.reduceLeDiff, if_true, if_false, true_and, and_true, false_and, and_false, mChain, mRaise, mBM, mFld, mDGet1, mDGet2, mDPut, mSetFld, mMeth, mCall, mMake, mDNew, isNon, mFor, mI, mIt, mLc, mYes, mTupG, gTupG, mSl, mNoP, mPart, mJoin, wipeL, List.append_nil, Bool.not_true, Bool.not_false, decide_true, true_implies, false_implies, implies_true, reduceCtorEq, Bool.true_eq_false, Bool.and_true, Bool.true_and, WP_exc, WS_exc, e_sl3t]
        rw [row3_succ, e]
      · simp only [WP_bind, WP_ok, WP_no, WP_ite, WS_lift', WS_next, WS_ret, WS_brk, WS_cont, WS_seq, WS_ite, WP_call, mSeq, mIfS, mAsg, mRet, mRetN, mSetIx, mDrop, mOr, mAnd, mNot, mTest, mOp, mVar, mC, mCons, mNil, mBlt, mTup, mFl, mLst, mIf, mUn, mNotV, mAndV, mOrV, toB, mSkip, mBreak, mCont, mPar, e_gI, e_gIc, e_gMul, e_gAdd, e_gCmp, e_gEq, e_gEqS, e_ix30, e_ix31, e_ix32, e_set30, e_set31, e_set32, e_t40, e_t41, e_t42, e_t43, Bool.false_eq_true, gN, gT, gNil, gCons, Option.bind_some, Option.bind_none, fAbs, fMax, fMin, fInt,   List.map_cons, List.map_nil, List.cons_append, List.nil_append, List.length_cons, List.length_nil, List.replicate, List.set_cons_succ, List.set_cons_zero, List.getElem?_cons_succ, List.getElem?_cons_zero, Nat.reduceSub, Nat.reduceAdd, Nat.reduceLeDiff, if_true, if_false, true_and, and_true, false_and, and_false, mChain, mRaise, mBM, mFld, mDGet1, mDGet2, mDPut, mSetFld, mMeth, mCall, mMake, mDNew, isNon, mFor, mI, mIt, mLc, mYes, mTupG, gTupG, mSl, mNoP, mPart, mJoin, wipeL, List.append_nil, Bool.not_true, Bool.not_false, decide_true, true_implies, false_implies, implies_true, reduceCtorEq, Bool.true_eq_false, Bool.and_true, Bool.true_and, WP_exc, WS_exc, e_sl3s]
        rw [row3_succ, e]
    · rintro acc L ⟨rfl, rfl⟩
      refine ⟨itR_end, ?_⟩
      simp only [WP_bind, WP_ok, WP_no, WP_ite, WS_lift', WS_next, WS_ret, WS_brk, WS_cont, WS_seq, WS_ite, WP_call, mSeq, mIfS, mAsg, mRet, mRetN, mSetIx, mDrop, mOr, mAnd, mNot, mTest, mOp, mVar, mC, mCons, mNil, mBlt, mTup, mFl, mLst, mIf, mUn, mNotV, mAndV, mOrV, toB, mSkip, mBreak, mCont, mPar, e_gI, e_gIc, e_gMul, e_gAdd, e_gCmp, e_gEq, e_gEqS, e_ix30, e_ix31, e_ix32, e_set30, e_set31, e_set32, e_t40, e_t41, e_t42, e_t43, Bool.false_eq_true, gN, gT, gNil, gCons, Option.bind_some, Option.bind_none, fAbs, fMax, fMin, fInt,   List.map_cons, List.map_nil, List.cons_append, List.nil_append, List.length_cons, List.length_nil, List.replicate, List.set_cons_succ, List.set_cons_zero, List.getElem?_cons_succ, List.getElem?_cons_zero, Nat.reduceSub, Nat.reduceAdd, Nat.reduceLeDiff, if_true, if_false, true_and, and_true, false_and, and_false, mChain, mRaise, mBM, mFld, mDGet1, mDGet2, mDPut, mSetFld, mMeth, mCall, mMake, mDNew, isNon, mFor, mI, mIt, mLc, mYes, mTupG, gTupG, mSl, mNoP, mPart, mJoin, wipeL, List.append_nil, Bool.not_true, Bool.not_false, decide_true, true_implies, false_implies, implies_true, reduceCtorEq, Bool.true_eq_false, Bool.and_true, Bool.true_and, WP_exc, WS_exc, if_true]
      rw [← eP]
      simp only [WP_bind, WP_ok, WP_no, WP_ite, WS_lift', WS_next, WS_ret, WS_brk, WS_cont, WS_seq, WS_ite, WP_call, mSeq, mIfS, mAsg, mRet, mRetN, mSetIx, mDrop, mOr, mAnd, mNot, mTest, mOp, mVar, mC, mCons, mNil, mBlt, mTup, mFl, mLst, mIf, mUn, mNotV, mAndV, mOrV, toB, mSkip, mBreak, mCont, mPar, e_gI, e_gIc, e_gMul, e_gAdd, e_gCmp, e_gEq, e_gEqS, e_ix30, e_ix31, e_ix32, e_set30, e_set31, e_set32, e_t40, e_t41, e_t42, e_t43, Bool.false_eq_true, gN, gT, gNil, gCons, Option.bind_some, Option.bind_none, fAbs, fMax, fMin, fInt,   List.map_cons, List.map_nil, List.cons_append, List.nil_append, List.length_cons, List.length_nil, List.replicate, List.set_cons_succ, List.set_cons_zero, List.getElem?_cons_succ, List.getElem?_cons_zero, Nat.reduceSub, Nat.reduceAdd, Nat.reduceLeDiff, if_true, if_false, true_and, and_true, false_and, and_false, mChain, mRaise, mBM, mFld, mDGet1, mDGet2, mDPut, mSetFld, mMeth, mCall, mMake, mDNew, isNon, mFor, mI, mIt, mLc, mYes, mTupG, gTupG, mSl, mNoP, mPart, mJoin, wipeL, List.append_nil, Bool.not_true, Bool.not_false, decide_true, true_implies, false_implies, implies_true, reduceCtorEq, Bool.true_eq_false, Bool.and_true, Bool.true_and, WP_exc, WS_exc, append_ok (P := P) (acc := rows3 g w.toNat j) (show (rows3 g w.toNat j).length < 1000000 by unfold rows3; rw [List.length_map, List.length_range]; omega)]
      refine ⟨_, _, rfl, ?_⟩
      rw [rows3_succ, show (0 + (j : Int)) = (j : Int) by omega]
    · exact ⟨rfl, rfl⟩
  · rintro s L ⟨x2, x3, rfl, rfl⟩
    refine ⟨itR_end, ?_⟩
    simp only [WP_bind, WP_ok, WP_no, WP_ite, WS_lift', WS_next, WS_ret, WS_brk, WS_cont, WS_seq, WS_ite, WP_call, mSeq, mIfS, mAsg, mRet, mRetN, mSetIx, mDrop, mOr, mAnd, mNot, mTest, mOp, mVar, mC, mCons, mNil, mBlt, mTup, mFl, mLst, mIf, mUn, mNotV, mAndV, mOrV, toB, mSkip, mBreak, mCont, mPar, e_gI, e_gIc, e_gMul, e_gAdd, e_gCmp, e_gEq, e_gEqS, e_ix30, e_ix31, e_ix32, e_set30, e_set31, e_set32, e_t40, e_t41, e_t42, e_t43, Bool.false_eq_true, gN, gT, gNil, gCons, Option.bind_some, Option.bind_none, fAbs, fMax, fMin, fInt,   List.map_cons, List.map_nil, List.cons_append, List.nil_append, List.length_cons, List.length_nil, List.replicate, List.set_cons_succ, List.set_cons_zero, List.getElem?_cons_succ, List.getElem?_cons_zero, Nat.reduceSub, Nat.reduceAdd, Nat.reduceLeDiff, if_true, if_false, true_and, and_true, false_and, and_false, mChain, mRaise, mBM, mFld, mDGet1, mDGet2, mDPut, mSetFld, mMeth, mCall, mMake, mDNew, isNon, mFor, mI, mIt, mLc, mYes, mTupG, gTupG, mSl, mNoP, mPart, mJoin, wipeL, List.append_nil, Bool.not_true, Bool.not_false, decide_true, true_implies, false_implies, implies_true, reduceCtorEq, Bool.true_eq_false, Bool.and_true, Bool.true_and, WP_exc, WS_exc, tuple_last]
    rw [eP]
    exact hz _
  · exact ⟨_, _, rfl, by rw [eP]; rfl⟩
end
end Q.K07
end
section
set_option Elab.async false
set_option linter.all false
set_option maxRecDepth 100000
set_option maxHeartbeats 1000000
namespace Q.K07
open PySem L2 Q
section
variable {d : LO} {D C : List (List Key × LV)} {w h c r : Int} {T : LH} {f g : Pic} {m n : Nat} {Z : LV → LH → Prop}
theorem e_itT {xs : List LV} {L : LH} : itOf (.tup xs) L = .ok (itV xs) L := rfl
theorem e_itF {xs : List LV} {L : LH} : itOf (.fl xs) L = .ok (itV xs) L := rfl
def lets (g : Pic) (r : Int) (n : Nat) : List Str := (List.range n).map fun (k : Nat) => (g k r).ch
def lrows (g : Pic) (w n : Nat) : List LV := (List.range n).map fun (k : Nat) => .str (Txt.join "" (lets g k w))
theorem lrows_succ (g : Pic) (w n : Nat) : lrows g w (n + 1) = lrows g w n ++ [.str (Txt.join "" (lets g n w))] := by
  unfold lrows
  rw [List.range_succ, List.map_append]
  rfl
theorem lets_succ (g : Pic) (r : Int) (n : Nat) : (lets g r (n + 1)).map LV.str = (lets g r n).map LV.str ++ [.str (g n r).ch] := by
  unfold lets
  rw [List.range_succ, List.map_append, List.map_append]
  rfl
theorem strsOf_map : ∀ ys : List Str, strsOf (ys.map LV.str) = some ys
  | [] => rfl
  | y :: r => by
    rw [List.map_cons]
    unfold strsOf
    rw [strsOf_map r]
    rfl
theorem sum_lets (hc : ∀ c r, (g c r).ch.length ≤ 1) (r : Int) (n : Nat) : ((lets g r n).map (·.length)).sum ≤ n := by
  induction n with
  | zero => exact Nat.le_refl _
  | succ n ih =>
    unfold lets at ih ⊢
    rw [List.range_succ, List.map_append, List.map_append, List.sum_append]
    have := hc n r
    simp only [List.map_cons, List.map_nil, List.sum_cons, List.sum_nil]
    omega
theorem e_join {ys : List Str} {L : LH} (h : (ys.map (·.length)).sum ≤ 16777216) : gJoin "" (.fl (ys.map LV.str)) L = .ok (.str (Txt.join "" ys)) L := by
  unfold gJoin
  have e : (itemsV (.fl (ys.map LV.str))).bind strsOf = some ys := strsOf_map ys
  rw [e]
  simp only []
  rw [if_pos]
  have : ("" : Str).length = 0 := by decide +kernel
  rw [this]
  omega
theorem rows3_at {w n j : Nat} (hj : j < n) : (rows3 g w n)[j]? = some (.tup (row3 g j w)) := by
  unfold rows3
  rw [List.getElem?_map, List.getElem?_range hj]
  rfl
theorem row3_at {r : Int} {n j : Nat} (hj : j < n) : (row3 g r n)[j]? = some (g j r).v3 := by
  unfold row3
  rw [List.getElem?_map, List.getElem?_range hj]
  rfl
theorem rows3_len {w n : Nat} : (rows3 g w n).length = n := by unfold rows3; simp
theorem row3_len {r : Int} {n : Nat} : (row3 g r n).length = n := by unfold row3; simp
theorem letter_rows_ok (k : Dic C g m) (hc : ∀ c r, (g c r).ch.length ≤ 1) (h0 : 0 ≤ w) (h1 : w ≤ 1000) (h2 : 0 ≤ h) (h3 : h ≤ 1000) (hz : ∀ T', Z (.tup (lrows g w.toNat h.toNat)) (St d D w h C T')) : WP (F_Canvas_letter_rows [.ref 2] (St d D w h C T)) Z := by
  unfold F_Canvas_letter_rows B_Canvas_letter_rows
  simp only [WP_bind, WP_ok, WP_no, WP_ite, WS_lift', WS_next, WS_ret, WS_brk, WS_cont, WS_seq, WS_ite, WP_call, mSeq, mIfS, mAsg, mRet, mRetN, mSetIx, mDrop, mOr, mAnd, mNot, mTest, mOp, mVar, mC, mCons, mNil, mBlt, mTup, mFl, mLst, mIf, mUn, mNotV, mAndV, mOrV, toB, mSkip, mBreak, mCont, mPar, e_gI, e_gIc, e_gMul, e_gAdd, e_gCmp, e_gEq, e_gEqS, e_ix30, e_ix31, e_ix32, e_set30, e_set31, e_set32, e_t40, e_t41, e_t42, e_t43, Bool.false_eq_true, gN, gT, gNil, gCons, Option.bind_some, Option.bind_none, fAbs, fMax, fMin, fInt,   List.map_cons, List.map_nil, List.cons_append, List.nil_append, List.length_cons, List.length_nil, List.replicate, List.set_cons_succ, List.set_cons_zero, List.getElem?_cons_succ, List.getElem?_cons_zero, Nat.reduceSub, Nat.reduceAdd, Nat.reduceLeDiff, if_true, if_false, true_and, and_true, false_and, and_false, mChain, mRaise, mBM, mFld, mDGet1, mDGet2, mDPut, mSetFld, mMeth, mCall, mMake, mDNew, isNon, mFor, mI, mIt, mLc, mYes, mTupG, gTupG, mSl, mNoP, mPart, mJoin, wipeL, List.append_nil, Bool.not_true, Bool.not_false, decide_true, true_implies, false_implies, implies_true, reduceCtorEq, Bool.true_eq_false, Bool.and_true, Bool.true_and, WP_exc, WS_exc, i_shown]
  refine shown_ok k h0 h1 h2 h3 fun T' => ?_
  simp only [WP_bind, WP_ok, WP_no, WP_ite, WS_lift', WS_next, WS_ret, WS_brk, WS_cont, WS_seq, WS_ite, WP_call, mSeq, mIfS, mAsg, mRet, mRetN, mSetIx, mDrop, mOr, mAnd, mNot, mTest, mOp, mVar, mC, mCons, mNil, mBlt, mTup, mFl, mLst, mIf, mUn, mNotV, mAndV, mOrV, toB, mSkip, mBreak, mCont, mPar, e_gI, e_gIc, e_gMul, e_gAdd, e_gCmp, e_gEq, e_gEqS, e_ix30, e_ix31, e_ix32, e_set30, e_set31, e_set32, e_t40, e_t41, e_t42, e_t43, Bool.false_eq_true, gN, gT, gNil, gCons, Option.bind_some, Option.bind_none, fAbs, fMax, fMin, fInt,   List.map_cons, List.map_nil, List.cons_append, List.nil_append, List.length_cons, List.length_nil, List.replicate, List.set_cons_succ, List.set_cons_zero, List.getElem?_cons_succ, List.getElem?_cons_zero, Nat.reduceSub, Nat.reduceAdd, Nat.reduceLeDiff, if_true, if_false, true_and, and_true, false_and, and_false, mChain, mRaise, mBM, mFld, mDGet1, mDGet2, mDPut, mSetFld, mMeth, mCall, mMake, mDNew, isNon, mFor, mI, mIt, mLc, mYes, mTupG, gTupG, mSl, mNoP, mPart, mJoin, wipeL, List.append_nil, Bool.not_true, Bool.not_false, decide_true, true_implies, false_implies, implies_true, reduceCtorEq, Bool.true_eq_false, Bool.and_true, Bool.true_and, WP_exc, WS_exc, e_itT]
  refine WP_lc (n := h.toNat) (fun i acc L => acc = lrows g w.toNat i ∧ L = St d D w h C T') (by unfold FUEL; omega) (fun i acc L hi ⟨e, _⟩ => by rw [e]; unfold lrows; rw [List.length_map, List.length_range]; omega) ?_ ?_ ?_
  · rintro i acc L hi ⟨rfl, rfl⟩
    refine ⟨.tup (row3 g i w.toNat), _, by unfold itV; rw [rows3_at hi], rfl, ?_⟩
    simp only [WP_bind, WP_ok, WP_no, WP_ite, WS_lift', WS_next, WS_ret, WS_brk, WS_cont, WS_seq, WS_ite, WP_call, mSeq, mIfS, mAsg, mRet, mRetN, mSetIx, mDrop, mOr, mAnd, mNot, mTest, mOp, mVar, mC, mCons, mNil, mBlt, mTup, mFl, mLst, mIf, mUn, mNotV, mAndV, mOrV, toB, mSkip, mBreak, mCont, mPar, e_gI, e_gIc, e_gMul, e_gAdd, e_gCmp, e_gEq, e_gEqS, e_ix30, e_ix31, e_ix32, e_set30, e_set31, e_set32, e_t40, e_t41, e_t42, e_t43, Bool.false_eq_true, gN, gT, gNil, gCons, Option.bind_some, Option.bind_none, fAbs, fMax, fMin, fInt,   List.map_cons, List.map_nil, List.cons_append, List.nil_append, List.length_cons, List.length_nil, List.replicate, List.set_cons_succ, List.set_cons_zero, List.getElem?_cons_succ, List.getElem?_cons_zero, Nat.reduceSub, Nat.reduceAdd, Nat.reduceLeDiff, if_true, if_false, true_and, and_true, false_and, and_false, mChain, mRaise, mBM, mFld, mDGet1, mDGet2, mDPut, mSetFld, mMeth, mCall, mMake, mDNew, isNon, mFor, mI, mIt, mLc, mYes, mTupG, gTupG, mSl, mNoP, mPart, mJoin, wipeL, List.append_nil, Bool.not_true, Bool.not_false, decide_true, true_implies, false_implies, implies_true, reduceCtorEq, Bool.true_eq_false, Bool.and_true, Bool.true_and, WP_exc, WS_exc, e_itT]
    refine WP_lc (n := w.toNat) (fun j acc L => acc = (lets g i j).map LV.str ∧ L = St d D w h C T') (by unfold FUEL; omega) (fun j acc L hj ⟨e, _⟩ => by rw [e]; unfold lets; rw [List.length_map, List.length_map, List.length_range]; omega) ?_ ?_ ?_
    · rintro j acc L hj ⟨rfl, rfl⟩
      refine ⟨(g j i).v3, _, by unfold itV; rw [row3_at hj], rfl, ?_⟩
      simp only [WP_bind, WP_ok, WP_no, WP_ite, WS_lift', WS_next, WS_ret, WS_brk, WS_cont, WS_seq, WS_ite, WP_call, mSeq, mIfS, mAsg, mRet, mRetN, mSetIx, mDrop, mOr, mAnd, mNot, mTest, mOp, mVar, mC, mCons, mNil, mBlt, mTup, mFl, mLst, mIf, mUn, mNotV, mAndV, mOrV, toB, mSkip, mBreak, mCont, mPar, e_gI, e_gIc, e_gMul, e_gAdd, e_gCmp, e_gEq, e_gEqS, e_ix30, e_ix31, e_ix32, e_set30, e_set31, e_set32, e_t40, e_t41, e_t42, e_t43, Bool.false_eq_true, gN, gT, gNil, gCons, Option.bind_some, Option.bind_none, fAbs, fMax, fMin, fInt,   List.map_cons, List.map_nil, List.cons_append, List.nil_append, List.length_cons, List.length_nil, List.replicate, List.set_cons_succ, List.set_cons_zero, List.getElem?_cons_succ, List.getElem?_cons_zero, Nat.reduceSub, Nat.reduceAdd, Nat.reduceLeDiff, if_true, if_false, true_and, and_true, false_and, and_false, mChain, mRaise, mBM, mFld, mDGet1, mDGet2, mDPut, mSetFld, mMeth, mCall, mMake, mDNew, isNon, mFor, mI, mIt, mLc, mYes, mTupG, gTupG, mSl, mNoP, mPart, mJoin, wipeL, List.append_nil, Bool.not_true, Bool.not_false, decide_true, true_implies, false_implies, implies_true, reduceCtorEq, Bool.true_eq_false, Bool.and_true, Bool.true_and, WP_exc, WS_exc, if_true]
      exact (lets_succ g i j).symm
    · rintro acc L ⟨rfl, rfl⟩
      refine ⟨by unfold itV; rw [List.getElem?_eq_none (by rw [row3_len]; exact Nat.le_refl _)], ?_⟩
      have := sum_lets hc (i : Int) w.toNat
      simp only [WP_bind, WP_ok, WP_no, WP_ite, WS_lift', WS_next, WS_ret, WS_brk, WS_cont, WS_seq, WS_ite, WP_call, mSeq, mIfS, mAsg, mRet, mRetN, mSetIx, mDrop, mOr, mAnd, mNot, mTest, mOp, mVar, mC, mCons, mNil, mBlt, mTup, mFl, mLst, mIf, mUn, mNotV, mAndV, mOrV, toB, mSkip, mBreak, mCont, mPar, e_gI, e_gIc, e_gMul, e_gAdd, e_gCmp, e_gEq, e_gEqS, e_ix30, e_ix31, e_ix32, e_set30, e_set31, e_set32, e_t40, e_t41, e_t42, e_t43, Bool.false_eq_true, gN, gT, gNil, gCons, Option.bind_some, Option.bind_none, fAbs, fMax, fMin, fInt,   List.map_cons, List.map_nil, List.cons_append, List.nil_append, List.length_cons, List.length_nil, List.replicate, List.set_cons_succ, List.set_cons_zero, List.getElem?_cons_succ, List.getElem?_cons_zero, Nat.reduceSub, Nat.reduceAdd, Nat.reduceLeDiff, if_true, if_false, true_and, and_true, false_and, and_false, mChain, mRaise, mBM, mFld, mDGet1, mDGet2, mDPut, mSetFld, mMeth, mCall, mMake, mDNew, isNon, mFor, mI, mIt, mLc, mYes, mTupG, gTupG, mSl, mNoP, mPart, mJoin, wipeL, List.append_nil, Bool.not_true, Bool.not_false, decide_true, true_implies, false_implies, implies_true, reduceCtorEq, Bool.true_eq_false, Bool.and_true, Bool.true_and, WP_exc, WS_exc, e_join (ys := lets g i w.toNat) (show _ ≤ 16777216 by omega)]
      rw [lrows_succ]
    · exact ⟨rfl, rfl⟩
  · rintro acc L ⟨rfl, rfl⟩
    refine ⟨by unfold itV; rw [List.getElem?_eq_none (by rw [rows3_len]; exact Nat.le_refl _)], ?_⟩
    simp only [WP_bind, WP_ok, WP_no, WP_ite, WS_lift', WS_next, WS_ret, WS_brk, WS_cont, WS_seq, WS_ite, WP_call, mSeq, mIfS, mAsg, mRet, mRetN, mSetIx, mDrop, mOr, mAnd, mNot, mTest, mOp, mVar, mC, mCons, mNil, mBlt, mTup, mFl, mLst, mIf, mUn, mNotV, mAndV, mOrV, toB, mSkip, mBreak, mCont, mPar, e_gI, e_gIc, e_gMul, e_gAdd, e_gCmp, e_gEq, e_gEqS, e_ix30, e_ix31, e_ix32, e_set30, e_set31, e_set32, e_t40, e_t41, e_t42, e_t43, Bool.false_eq_true, gN, gT, gNil, gCons, Option.bind_some, Option.bind_none, fAbs, fMax, fMin, fInt,   List.map_cons, List.map_nil, List.cons_append, List.nil_append, List.length_cons, List.length_nil, List.replicate, List.set_cons_succ, List.set_cons_zero, List.getElem?_cons_succ, List.getElem?_cons_zero, Nat.reduceSub, Nat.reduceAdd, Nat.reduceLeDiff, if_true, if_false, true_and, and_true, false_and, and_false, mChain, mRaise, mBM, mFld, mDGet1, mDGet2, mDPut, mSetFld, mMeth, mCall, mMake, mDNew, isNon, mFor, mI, mIt, mLc, mYes, mTupG, gTupG, mSl, mNoP, mPart, mJoin, wipeL, List.append_nil, Bool.not_true, Bool.not_false, decide_true, true_implies, false_implies, implies_true, reduceCtorEq, Bool.true_eq_false, Bool.and_true, Bool.true_and, WP_exc, WS_exc, if_true]
    exact hz T'
  · exact ⟨rfl, rfl⟩
theorem e_t43' {a b e k : LV} {L : LH} : gIx (.st [a, b, e, k]) (.int 3) L = .ok k L := rfl
theorem element_ok (k : Dic C g m) (h0 : 0 ≤ c) (h1 : c < w) (h2 : 0 ≤ r) (h3 : r < h) (hz : Z (nV (g c r).num) (St d D w h C T)) : WP (F_element_at [.ref 2, .int c, .int r] (St d D w h C T)) Z := by
  unfold F_element_at B_element_at
  simp only [WP_bind, WP_ok, WP_no, WP_ite, WS_lift', WS_next, WS_ret, WS_brk, WS_cont, WS_seq, WS_ite, WP_call, mSeq, mIfS, mAsg, mRet, mRetN, mSetIx, mDrop, mOr, mAnd, mNot, mTest, mOp, mVar, mC, mCons, mNil, mBlt, mTup, mFl, mLst, mIf, mUn, mNotV, mAndV, mOrV, toB, mSkip, mBreak, mCont, mPar, e_gI, e_gIc, e_gMul, e_gAdd, e_gCmp, e_gEq, e_gEqS, e_ix30, e_ix31, e_ix32, e_set30, e_set31, e_set32, e_t40, e_t41, e_t42, e_t43, Bool.false_eq_true, gN, gT, gNil, gCons, Option.bind_some, Option.bind_none, fAbs, fMax, fMin, fInt,   List.map_cons, List.map_nil, List.cons_append, List.nil_append, List.length_cons, List.length_nil, List.replicate, List.set_cons_succ, List.set_cons_zero, List.getElem?_cons_succ, List.getElem?_cons_zero, Nat.reduceSub, Nat.reduceAdd, Nat.reduceLeDiff, if_true, if_false, true_and, and_true, false_and, and_false, mChain, mRaise, mBM, mFld, mDGet1, mDGet2, mDPut, mSetFld, mMeth, mCall, mMake, mDNew, isNon, mFor, mI, mIt, mLc, mYes, mTupG, gTupG, mSl, mNoP, mPart, mJoin, wipeL, List.append_nil, Bool.not_true, Bool.not_false, decide_true, true_implies, false_implies, implies_true, reduceCtorEq, Bool.true_eq_false, Bool.and_true, Bool.true_and, WP_exc, WS_exc, i_cell]
  refine cell_ok k h0 h1 h2 h3 fun y hy => ?_
  rcases hy with rfl | rfl
  · simp only [WP_bind, WP_ok, WP_no, WP_ite, WS_lift', WS_next, WS_ret, WS_brk, WS_cont, WS_seq, WS_ite, WP_call, mSeq, mIfS, mAsg, mRet, mRetN, mSetIx, mDrop, mOr, mAnd, mNot, mTest, mOp, mVar, mC, mCons, mNil, mBlt, mTup, mFl, mLst, mIf, mUn, mNotV, mAndV, mOrV, toB, mSkip, mBreak, mCont, mPar, e_gI, e_gIc, e_gMul, e_gAdd, e_gCmp, e_gEq, e_gEqS, e_ix30, e_ix31, e_ix32, e_set30, e_set31, e_set32, e_t40, e_t41, e_t42, e_t43, Bool.false_eq_true, gN, gT, gNil, gCons, Option.bind_some, Option.bind_none, fAbs, fMax, fMin, fInt,   List.map_cons, List.map_nil, List.cons_append, List.nil_append, List.length_cons, List.length_nil, List.replicate, List.set_cons_succ, List.set_cons_zero, List.getElem?_cons_succ, List.getElem?_cons_zero, Nat.reduceSub, Nat.reduceAdd, Nat.reduceLeDiff, if_true, if_false, true_and, and_true, false_and, and_false, mChain, mRaise, mBM, mFld, mDGet1, mDGet2, mDPut, mSetFld, mMeth, mCall, mMake, mDNew, isNon, mFor, mI, mIt, mLc, mYes, mTupG, gTupG, mSl, mNoP, mPart, mJoin, wipeL, List.append_nil, Bool.not_true, Bool.not_false, decide_true, true_implies, false_implies, implies_true, reduceCtorEq, Bool.true_eq_false, Bool.and_true, Bool.true_and, WP_exc, WS_exc, e_t43']
    exact hz
  · simp only [WP_bind, WP_ok, WP_no, WP_ite, WS_lift', WS_next, WS_ret, WS_brk, WS_cont, WS_seq, WS_ite, WP_call, mSeq, mIfS, mAsg, mRet, mRetN, mSetIx, mDrop, mOr, mAnd, mNot, mTest, mOp, mVar, mC, mCons, mNil, mBlt, mTup, mFl, mLst, mIf, mUn, mNotV, mAndV, mOrV, toB, mSkip, mBreak, mCont, mPar, e_gI, e_gIc, e_gMul, e_gAdd, e_gCmp, e_gEq, e_gEqS, e_ix30, e_ix31, e_ix32, e_set30, e_set31, e_set32, e_t40, e_t41, e_t42, e_t43, Bool.false_eq_true, gN, gT, gNil, gCons, Option.bind_some, Option.bind_none, fAbs, fMax, fMin, fInt,   List.map_cons, List.map_nil, List.cons_append, List.nil_append, List.length_cons, List.length_nil, List.replicate, List.set_cons_succ, List.set_cons_zero, List.getElem?_cons_succ, List.getElem?_cons_zero, Nat.reduceSub, Nat.reduceAdd, Nat.reduceLeDiff, if_true, if_false, true_and, and_true, false_and, and_false, mChain, mRaise, mBM, mFld, mDGet1, mDGet2, mDPut, mSetFld, mMeth, mCall, mMake, mDNew, isNon, mFor, mI, mIt, mLc, mYes, mTupG, gTupG, mSl, mNoP, mPart, mJoin, wipeL, List.append_nil, Bool.not_true, Bool.not_false, decide_true, true_implies, false_implies, implies_true, reduceCtorEq, Bool.true_eq_false, Bool.and_true, Bool.true_and, WP_exc, WS_exc, e_t43']
    exact hz
end
end Q.K07
end
section
set_option Elab.async false
set_option linter.all false
set_option maxRecDepth 100000
set_option maxHeartbeats 1000000
namespace Q.K07
open PySem L2 Q
section
variable {d : LO} {D C : List (List Key × LV)} {w h c r : Int} {T : LH} {f g : Pic} {m n : Nat} {Z : LV → LH → Prop}
theorem e_dg1 : dGet (St d D w h C T) (.ref 1) (.tup [.int c, .int r]) = some (lookK D (ky c r)) := rfl
theorem e_isD1 : isDL (St d D w h C T) (.ref 1) = true := rfl
theorem e_dp1 {c r : Int} {x : LV} (hl : D.length < 1000000) : dPut (St d D w h C T) (.ref 1) (.tup [.int c, .int r]) x = some (St d (putKL D (ky c r) x) w h C T) := by
  show (if D.length < 1000000 then some (St d (putKL D (ky c r) x) w h C T) else none) = _
  rw [if_pos hl]
theorem Dic.getT (k : Dic D f m) (c r : Int) : (lookK D (ky c r)).getD (.tup Cl.e.vs) = .tup (f c r).vs := by
  rcases k.at_ c r with e | ⟨e, e2⟩
  · rw [e]; rfl
  · rw [e, e2]; rfl
theorem e_add31 {a b e k : LV} {L : LH} : gAdd (.tup [a, b, e]) (.tup [k]) L = .ok (.tup [a, b, e, k]) L := by rfl
def inn (a : A4) (c r : Int) : Bool := decide (a.l ≤ c ∧ c < a.l + a.w ∧ a.t ≤ r ∧ r < a.t + a.h)
def colD (a wh : A4) (j : Int) (c r : Int) : Bool := decide (a.l ≤ c) && decide (c < a.l + j) && decide (a.t ≤ r) && decide (r < a.t + a.h) && inn wh c r
def colE (a wh : A4) (j i : Int) (c r : Int) : Bool := colD a wh j c r || (decide (c = a.l + j) && decide (a.t ≤ r) && decide (r < a.t + i) && inn wh c r)
theorem col_step {a wh : A4} {j : Int} (hh : 0 ≤ a.h) (hj : 0 ≤ j) {p : Cl → Cl} (c r : Int) : part f p (colE a wh j a.h) c r = part f p (colD a wh (j + 1)) c r := by
  unfold part
  have : colE a wh j a.h c r = colD a wh (j + 1) c r := by
    unfold colE colD
    cases inn wh c r
    · simp
    · rw [Bool.eq_iff_iff]
      simp only [Bool.and_true, Bool.or_eq_true, Bool.and_eq_true, decide_eq_true_eq]
      omega
  rw [this]
theorem col_start {a wh : A4} {j : Int} {p : Cl → Cl} (c r : Int) : part f p (colD a wh j) c r = part f p (colE a wh j 0) c r := by
  unfold part
  have : colD a wh j c r = colE a wh j 0 c r := by
    unfold colE colD
    cases inn wh c r
    · simp
    · rw [Bool.eq_iff_iff]
      simp only [Bool.and_true, Bool.or_eq_true, Bool.and_eq_true, decide_eq_true_eq]
      omega
  rw [this]
theorem col_not {a wh : A4} {j i : Int} {p : Cl → Cl} : part f p (colE a wh j i) (a.l + j) (a.t + i) = f (a.l + j) (a.t + i) := by
  unfold part
  have : ¬ colE a wh j i (a.l + j) (a.t + i) = true := by
    unfold colE colD
    simp only [Bool.or_eq_true, Bool.and_eq_true, decide_eq_true_eq]
    omega
  rw [if_neg this]
theorem col_in {a wh : A4} {j i : Int} (hi : 0 ≤ i) (hq : inn wh (a.l + j) (a.t + i) = true) {p : Cl → Cl} (c r : Int) : (part f p (colE a wh j i)).put (a.l + j) (a.t + i) (p (f (a.l + j) (a.t + i))) c r = part f p (colE a wh j (i + 1)) c r := by
  unfold Pic.put
  by_cases e : c = a.l + j ∧ r = a.t + i
  · obtain ⟨e1, e2⟩ := e
    subst e1 e2
    rw [if_pos ⟨rfl, rfl⟩]
    unfold part
    have q : colE a wh j (i + 1) (a.l + j) (a.t + i) = true := by
      unfold colE
      refine Bool.or_eq_true_iff.mpr (.inr ?_)
      rw [hq]
      simp only [Bool.and_eq_true, decide_eq_true_eq]
      exact ⟨⟨⟨trivial, by omega⟩, by omega⟩, trivial⟩
    rw [q, if_pos rfl]
  · rw [if_neg e]
    unfold part
    have : colE a wh j i c r = colE a wh j (i + 1) c r := by
      unfold colE colD
      cases inn wh c r
      · simp
      · rw [Bool.eq_iff_iff]
        simp only [Bool.and_true, Bool.or_eq_true, Bool.and_eq_true, decide_eq_true_eq]
        constructor <;> intro q <;> omega
    rw [this]
theorem col_out {a wh : A4} {j i : Int} (hq : inn wh (a.l + j) (a.t + i) = false) {p : Cl → Cl} (c r : Int) : part f p (colE a wh j i) c r = part f p (colE a wh j (i + 1)) c r := by
  unfold part
  have : colE a wh j i c r = colE a wh j (i + 1) c r := by
    unfold colE colD
    by_cases e : c = a.l + j ∧ r = a.t + i
    · obtain ⟨e1, e2⟩ := e
      subst e1 e2
      rw [hq]
      simp
    · cases inn wh c r
      · simp
      · rw [Bool.eq_iff_iff]
        simp only [Bool.and_true, Bool.or_eq_true, Bool.and_eq_true, decide_eq_true_eq]
        constructor <;> intro q <;> omega
  rw [this]
/-- the law's own filling -/
def LF : MS := (mFor (mI range2 (mCons (mOp gIx (mVar 6) (mC (.int 0))) (mCons (mOp gAdd (mOp gIx (mVar 6) (mC (.int 0))) (mOp gIx (mVar 6) (mC (.int 2)))) mNil))) (gN 16)
  (mFor (mI range2 (mCons (mOp gIx (mVar 6) (mC (.int 1))) (mCons (mOp gAdd (mOp gIx (mVar 6) (mC (.int 1))) (mOp gIx (mVar 6) (mC (.int 3)))) mNil))) (gN 15)
  (mIfS (mTest (mCall F_law_in [] (mCons (mVar 10) (mCons (mVar 16) (mCons (mVar 15) mNil)))))
  (mSeq (mAsg (mDGet2 (mVar 4) (mTup (mCons (mVar 16) (mCons (mVar 15) mNil))) (mTup (mCons (mC (.str " ")) (mCons (mC (.str "black")) (mCons (mC (.str "white")) (mCons (mC .non) mNil)))))) (gN 11))
  (mDPut (mVar 4) (mTup (mCons (mVar 16) (mCons (mVar 15) mNil))) (mIf (mTest (mOp (gEq false) (mVar 8) (mC (.str "none")))) (mOp gAdd (mSl (mVar 11) mNoP (mPart (mC (.int 3)))) (mTup (mCons (mVar 9) mNil))) (mTup (mCons (mC (.str " ")) (mCons (mC (.str "black")) (mCons (mVar 8) (mCons (mVar 9) mNil))))))))
  mSkip)))
theorem lawFill_ok {a wh : A4} {col : Str} {num : Int} {x0 x1 x2 x3 x5 x7 x11 x12 x13 x14 x15 x16 x17 x18 x19 x20 x21 x22 x23 x24 : Option LV} {DD : EW} (k : Dic D f m)
    (hb : -1000 ≤ a.l ∧ a.l ≤ 1000 ∧ -1000 ≤ a.t ∧ a.t ≤ 1000 ∧ 0 ≤ a.w ∧ a.w ≤ 1000 ∧ 0 ≤ a.h ∧ a.h ≤ 1000) (hm : m + a.w.toNat * a.h.toNat < 1000000)
    (hz : ∀ D' x11 x15 x16, Dic D' (part f (fl col num) (colD a wh a.w)) (m + a.w.toNat * a.h.toNat) → DD.nx [x0, x1, x2, x3, some (.ref 1), x5, some a.v, x7, some (.str col), some (.int num), some wh.v, x11, x12, x13, x14, x15, x16, x17, x18, x19, x20, x21, x22, x23, x24] (St d D' w h C T)) :
    WS (LF [x0, x1, x2, x3, some (.ref 1), x5, some a.v, x7, some (.str col), some (.int num), some wh.v, x11, x12, x13, x14, x15, x16, x17, x18, x19, x20, x21, x22, x23, x24] (St d D w h C T)) DD := by
  unfold LF
  obtain ⟨b1, b2, b3, b4, b5, b6, b7, b8⟩ := hb
  simp only [WP_bind, WP_ok, WP_no, WP_ite, WS_lift', WS_next, WS_ret, WS_brk, WS_cont, WS_seq, WS_ite, WP_call, mSeq, mIfS, mAsg, mRet, mRetN, mSetIx, mDrop, mOr, mAnd, mNot, mTest, mOp, mVar, mC, mCons, mNil, mBlt, mTup, mFl, mLst, mIf, mUn, mNotV, mAndV, mOrV, toB, mSkip, mBreak, mCont, mPar, e_gI, e_gIc, e_gMul, e_gAdd, e_gCmp, e_gEq, e_gEqS, e_ix30, e_ix31, e_ix32, e_set30, e_set31, e_set32, e_t40, e_t41, e_t42, e_t43, Bool.false_eq_true, gN, gT, gNil, gCons, Option.bind_some, Option.bind_none, fAbs, fMax, fMin, fInt,   List.map_cons, List.map_nil, List.cons_append, List.nil_append, List.length_cons, List.length_nil, List.replicate, List.set_cons_succ, List.set_cons_zero, List.getElem?_cons_succ, List.getElem?_cons_zero, Nat.reduceSub, Nat.reduceAdd, Nat.reduceLeDiff, if_true, if_false, true_and, and_true, false_and, and_false, mChain, mRaise, mBM, mFld, mDGet1, mDGet2, mDPut, mSetFld, mMeth, mCall, mMake, mDNew, isNon, mFor, mI, mIt, mLc, mYes, mTupG, gTupG, mSl, mNoP, mPart, mJoin, wipeL, List.append_nil, Bool.not_true, Bool.not_false, decide_true, true_implies, false_implies, implies_true, reduceCtorEq, Bool.true_eq_false, Bool.and_true, Bool.true_and, WP_exc, WS_exc, if_true]
  refine range2_ok (by omega) (by omega) (by omega) (by omega) ?_
  rw [show (a.l + a.w - a.l).toNat = a.w.toNat by congr 1; omega]
  refine WS_for (n := a.w.toNat) (fun j s L => ∃ D' x11 x15 x16, s = [x0, x1, x2, x3, some (.ref 1), x5, some a.v, x7, some (.str col), some (.int num), some wh.v, x11, x12, x13, x14, x15, x16, x17, x18, x19, x20, x21, x22, x23, x24] ∧ L = St d D' w h C T ∧ Dic D' (part f (fl col num) (colD a wh j)) (m + j * a.h.toNat)) (by unfold FUEL; omega) ?_ ?_ ?_
  · rintro j s L hj ⟨D', x11, x15, x16, rfl, rfl, kd⟩
    refine ⟨_, _, itR_at hj, rfl, ?_⟩
    simp only [WP_bind, WP_ok, WP_no, WP_ite, WS_lift', WS_next, WS_ret, WS_brk, WS_cont, WS_seq, WS_ite, WP_call, mSeq, mIfS, mAsg, mRet, mRetN, mSetIx, mDrop, mOr, mAnd, mNot, mTest, mOp, mVar, mC, mCons, mNil, mBlt, mTup, mFl, mLst, mIf, mUn, mNotV, mAndV, mOrV, toB, mSkip, mBreak, mCont, mPar, e_gI, e_gIc, e_gMul, e_gAdd, e_gCmp, e_gEq, e_gEqS, e_ix30, e_ix31, e_ix32, e_set30, e_set31, e_set32, e_t40, e_t41, e_t42, e_t43, Bool.false_eq_true, gN, gT, gNil, gCons, Option.bind_some, Option.bind_none, fAbs, fMax, fMin, fInt,   List.map_cons, List.map_nil, List.cons_append, List.nil_append, List.length_cons, List.length_nil, List.replicate, List.set_cons_succ, List.set_cons_zero, List.getElem?_cons_succ, List.getElem?_cons_zero, Nat.reduceSub, Nat.reduceAdd, Nat.reduceLeDiff, if_true, if_false, true_and, and_true, false_and, and_false, mChain, mRaise, mBM, mFld, mDGet1, mDGet2, mDPut, mSetFld, mMeth, mCall, mMake, mDNew, isNon, mFor, mI, mIt, mLc, mYes, mTupG, gTupG, mSl, mNoP, mPart, mJoin, wipeL, List.append_nil, Bool.not_true, Bool.not_false, decide_true, true_implies, false_implies, implies_true, reduceCtorEq, Bool.true_eq_false, Bool.and_true, Bool.true_and, WP_exc, WS_exc, if_true]
    refine range2_ok (by omega) (by omega) (by omega) (by omega) ?_
    rw [show (a.t + a.h - a.t).toNat = a.h.toNat by congr 1; omega]
    refine WS_for (n := a.h.toNat) (fun i s L => ∃ D' x11 x15, s = [x0, x1, x2, x3, some (.ref 1), x5, some a.v, x7, some (.str col), some (.int num), some wh.v, x11, x12, x13, x14, x15, some (.int (a.l + (j : Int))), x17, x18, x19, x20, x21, x22, x23, x24] ∧ L = St d D' w h C T ∧ Dic D' (part f (fl col num) (colE a wh j i)) (m + j * a.h.toNat + i)) (by unfold FUEL; omega) ?_ ?_ ?_
    · rintro i s L hi ⟨D', x11, x15, rfl, rfl, kd⟩
      refine ⟨_, _, itR_at hi, rfl, ?_⟩
      have hmul : j * a.h.toNat + a.h.toNat ≤ a.w.toNat * a.h.toNat := by
        have := Nat.mul_le_mul_right a.h.toNat (show j + 1 ≤ a.w.toNat by omega)
        rw [Nat.succ_mul] at this
        exact this
      have hl : D'.length < 1000000 := by have := kd.len; omega
      have ge := kd.getT (a.l + j) (a.t + i)
      rw [col_not] at ge
      simp only [WP_bind, WP_ok, WP_no, WP_ite, WS_lift', WS_next, WS_ret, WS_brk, WS_cont, WS_seq, WS_ite, WP_call, mSeq, mIfS, mAsg, mRet, mRetN, mSetIx, mDrop, mOr, mAnd, mNot, mTest, mOp, mVar, mC, mCons, mNil, mBlt, mTup, mFl, mLst, mIf, mUn, mNotV, mAndV, mOrV, toB, mSkip, mBreak, mCont, mPar, e_gI, e_gIc, e_gMul, e_gAdd, e_gCmp, e_gEq, e_gEqS, e_ix30, e_ix31, e_ix32, e_set30, e_set31, e_set32, e_t40, e_t41, e_t42, e_t43, Bool.false_eq_true, gN, gT, gNil, gCons, Option.bind_some, Option.bind_none, fAbs, fMax, fMin, fInt,   List.map_cons, List.map_nil, List.cons_append, List.nil_append, List.length_cons, List.length_nil, List.replicate, List.set_cons_succ, List.set_cons_zero, List.getElem?_cons_succ, List.getElem?_cons_zero, Nat.reduceSub, Nat.reduceAdd, Nat.reduceLeDiff, if_true, if_false, true_and, and_true, false_and, and_false, mChain, mRaise, mBM, mFld, mDGet1, mDGet2, mDPut, mSetFld, mMeth, mCall, mMake, mDNew, isNon, mFor, mI, mIt, mLc, mYes, mTupG, gTupG, mSl, mNoP, mPart, mJoin, wipeL, List.append_nil, Bool.not_true, Bool.not_false, decide_true, true_implies, false_implies, implies_true, reduceCtorEq, Bool.true_eq_false, Bool.and_true, Bool.true_and, WP_exc, WS_exc, if_true]
      refine in_ok ?_
      cases hq : inn wh (a.l + j) (a.t + i) with
      | false =>
        have hq' : decide (wh.l ≤ a.l + ↑j ∧ a.l + ↑j < wh.l + wh.w ∧ wh.t ≤ a.t + ↑i ∧ a.t + ↑i < wh.t + wh.h) = false := hq
        simp only [WP_bind, WP_ok, WP_no, WP_ite, WS_lift', WS_next, WS_ret, WS_brk, WS_cont, WS_seq, WS_ite, WP_call, mSeq, mIfS, mAsg, mRet, mRetN, mSetIx, mDrop, mOr, mAnd, mNot, mTest, mOp, mVar, mC, mCons, mNil, mBlt, mTup, mFl, mLst, mIf, mUn, mNotV, mAndV, mOrV, toB, mSkip, mBreak, mCont, mPar, e_gI, e_gIc, e_gMul, e_gAdd, e_gCmp, e_gEq, e_gEqS, e_ix30, e_ix31, e_ix32, e_set30, e_set31, e_set32, e_t40, e_t41, e_t42, e_t43, Bool.false_eq_true, gN, gT, gNil, gCons, Option.bind_some, Option.bind_none, fAbs, fMax, fMin, fInt,   List.map_cons, List.map_nil, List.cons_append, List.nil_append, List.length_cons, List.length_nil, List.replicate, List.set_cons_succ, List.set_cons_zero, List.getElem?_cons_succ, List.getElem?_cons_zero, Nat.reduceSub, Nat.reduceAdd, Nat.reduceLeDiff, if_true, if_false, true_and, and_true, false_and, and_false, mChain, mRaise, mBM, mFld, mDGet1, mDGet2, mDPut, mSetFld, mMeth, mCall, mMake, mDNew, isNon, mFor, mI, mIt, mLc, mYes, mTupG, gTupG, mSl, mNoP, mPart, mJoin, wipeL, List.append_nil, Bool.not_true, Bool.not_false, decide_true, true_implies, false_implies, implies_true, reduceCtorEq, Bool.true_eq_false, Bool.and_true, Bool.true_and, WP_exc, WS_exc, hq']
        exact ⟨_, _, _, rfl, rfl, (kd.congr fun c r => col_out hq c r).mono (by omega)⟩
      | true =>
        have hq' : decide (wh.l ≤ a.l + ↑j ∧ a.l + ↑j < wh.l + wh.w ∧ wh.t ≤ a.t + ↑i ∧ a.t + ↑i < wh.t + wh.h) = true := hq
        have fin : ∀ x : Cl, x = fl col num (f (a.l + j) (a.t + i)) → Dic (putKL D' (ky (a.l + j) (a.t + i)) (.tup x.vs)) (part f (fl col num) (colE a wh j (i + 1 : Nat))) (m + j * a.h.toNat + (i + 1)) := fun x hx => by
          subst hx
          refine (kd.put _ _ _).congr fun c r => ?_
          rw [col_in (by omega) hq]
          rfl
        have ge' : (lookK D' (ky (a.l + ↑j) (a.t + ↑i))).getD (LV.tup [LV.str " ", LV.str "black", LV.str "white", LV.non]) = .tup (f (a.l + j) (a.t + i)).vs := ge
        by_cases hc : col = "none"
        · simp only [WP_bind, WP_ok, WP_no, WP_ite, WS_lift', WS_next, WS_ret, WS_brk, WS_cont, WS_seq, WS_ite, WP_call, mSeq, mIfS, mAsg, mRet, mRetN, mSetIx, mDrop, mOr, mAnd, mNot, mTest, mOp, mVar, mC, mCons, mNil, mBlt, mTup, mFl, mLst, mIf, mUn, mNotV, mAndV, mOrV, toB, mSkip, mBreak, mCont, mPar, e_gI, e_gIc, e_gMul, e_gAdd, e_gCmp, e_gEq, e_gEqS, e_ix30, e_ix31, e_ix32, e_set30, e_set31, e_set32, e_t40, e_t41, e_t42, e_t43, Bool.false_eq_true, gN, gT, gNil, gCons, Option.bind_some, Option.bind_none, fAbs, fMax, fMin, fInt,   List.map_cons, List.map_nil, List.cons_append, List.nil_append, List.length_cons, List.length_nil, List.replicate, List.set_cons_succ, List.set_cons_zero, List.getElem?_cons_succ, List.getElem?_cons_zero, Nat.reduceSub, Nat.reduceAdd, Nat.reduceLeDiff, if_true, if_false, true_and, and_true, false_and, and_false, mChain, mRaise, mBM, mFld, mDGet1, mDGet2, mDPut, mSetFld, mMeth, mCall, mMake, mDNew, isNon, mFor, mI, mIt, mLc, mYes, mTupG, gTupG, mSl, mNoP, mPart, mJoin, wipeL, List.append_nil, Bool.not_true, Bool.not_false, decide_true, true_implies, false_implies, implies_true, reduceCtorEq, Bool.true_eq_false, Bool.and_true, Bool.true_and, WP_exc, WS_exc, hq', e_isD1, e_dg1, ge', e_dp1 hl, decide_eq_true hc, e_sl3t, e_add31]
          refine ⟨_, _, _, rfl, rfl, fin { f (a.l + j) (a.t + i) with num := some num } ?_⟩
          unfold fl
          rw [if_pos hc]
        · simp only [WP_bind, WP_ok, WP_no, WP_ite, WS_lift', WS_next, WS_ret, WS_brk, WS_cont, WS_seq, WS_ite, WP_call, mSeq, mIfS, mAsg, mRet, mRetN, mSetIx, mDrop, mOr, mAnd, mNot, mTest, mOp, mVar, mC, mCons, mNil, mBlt, mTup, mFl, mLst, mIf, mUn, mNotV, mAndV, mOrV, toB, mSkip, mBreak, mCont, mPar, e_gI, e_gIc, e_gMul, e_gAdd, e_gCmp, e_gEq, e_gEqS, e_ix30, e_ix31, e_ix32, e_set30, e_set31, e_set32, e_t40, e_t41, e_t42, e_t43, Bool.false_eq_true, gN, gT, gNil, gCons, Option.bind_some, Option.bind_none, fAbs, fMax, fMin, fInt,   List.map_cons, List.map_nil, List.cons_append, List.nil_append, List.length_cons, List.length_nil, List.replicate, List.set_cons_succ, List.set_cons_zero, List.getElem?_cons_succ, List.getElem?_cons_zero, Nat.reduceSub, Nat.reduceAdd, Nat.reduceLeDiff, if_true, if_false, true_and, and_true, false_and, and_false, mChain, mRaise, mBM, mFld, mDGet1, mDGet2, mDPut, mSetFld, mMeth, mCall, mMake, mDNew, isNon, mFor, mI, mIt, mLc, mYes, mTupG, gTupG, mSl, mNoP, mPart, mJoin, wipeL, List.append_nil, Bool.not_true, Bool.not_false, decide_true, true_implies, false_implies, implies_true, reduceCtorEq, Bool.true_eq_false, Bool.and_true, Bool.true_and, WP_exc, WS_exc, hq', e_isD1, e_dg1, ge', e_dp1 hl, decide_eq_false hc]
          refine ⟨_, _, _, rfl, rfl, fin ⟨" ", "black", col, some num⟩ ?_⟩
          unfold fl
          rw [if_neg hc]
    · rintro s L ⟨D', x11, x15, rfl, rfl, kd⟩
      refine ⟨itR_end, _, _, _, _, rfl, rfl, ?_⟩
      refine (kd.congr fun c r => ?_).mono ?_
      · rw [show ((a.h.toNat : Nat) : Int) = a.h by omega, col_step b7 (by omega), show ((j + 1 : Nat) : Int) = (j : Int) + 1 by omega]
      · rw [Nat.succ_mul]; omega
    · exact ⟨D', _, _, rfl, rfl, kd.congr fun c r => col_start c r⟩
  · rintro s L ⟨D', x11, x15, x16, rfl, rfl, kd⟩
    refine ⟨itR_end, hz D' _ _ _ ?_⟩
    rw [show ((a.w.toNat : Nat) : Int) = a.w by omega] at kd
    exact kd
  · refine ⟨D, _, _, _, rfl, rfl, (k.congr fun c r => ?_).mono (by omega)⟩
    unfold part
    have : ¬ colD a wh ((0 : Nat) : Int) c r = true := by
      unfold colD
      simp only [Bool.and_eq_true, decide_eq_true_eq]
      omega
    rw [if_neg this]
end
end Q.K07
end
section
set_option Elab.async false
set_option linter.all false
set_option maxRecDepth 100000
set_option maxHeartbeats 1000000
namespace Q.K07
open PySem L2 Q
section
variable {d : LO} {D C : List (List Key × LV)} {w h c r : Int} {T : LH} {f g : Pic} {m n : Nat} {Z : LV → LH → Prop}
theorem sign_at {z : Str} {i k : Nat} (e : z.cps[i]? = some k) : sign z (i : Int) = ⟨#[k]⟩ := by
  unfold sign
  have : z.cps.toList[i]? = some k := by rw [Array.getElem?_toList]; exact e
  rw [atI_nat this]
def lwp (f : Pic) (a wh : A4) (z ink bg : Str) (num : Int) (i : Int) : Pic := fun c r => if (decide (r = a.t) && decide (a.l ≤ c) && decide (c < a.l + i) && inn wh c r) = true then wr z ink bg num (c - a.l) (f c r) else f c r
theorem lwp_in {a wh : A4} {z ink bg : Str} {num i : Int} (hi : 0 ≤ i) (hq : inn wh (a.l + i) a.t = true) (c r : Int) : (lwp f a wh z ink bg num i).put (a.l + i) a.t (wr z ink bg num i (f (a.l + i) a.t)) c r = lwp f a wh z ink bg num (i + 1) c r := by
  unfold Pic.put lwp
  by_cases e : c = a.l + i ∧ r = a.t
  · obtain ⟨e1, e2⟩ := e
    subst e1 e2
    have q : (decide (a.t = a.t) && decide (a.l ≤ a.l + i) && decide (a.l + i < a.l + (i + 1)) && inn wh (a.l + i) a.t) = true := by
      rw [hq]
      simp only [Bool.and_true, Bool.and_eq_true, decide_eq_true_eq]
      exact ⟨⟨trivial, by omega⟩, by omega⟩
    rw [if_pos ⟨rfl, rfl⟩, q, if_pos rfl, show a.l + i - a.l = i by omega]
  · have q : (decide (r = a.t) && decide (a.l ≤ c) && decide (c < a.l + i) && inn wh c r) = (decide (r = a.t) && decide (a.l ≤ c) && decide (c < a.l + (i + 1)) && inn wh c r) := by
      cases inn wh c r
      · simp
      · rw [Bool.eq_iff_iff]
        simp only [Bool.and_true, Bool.and_eq_true, decide_eq_true_eq]
        constructor <;> intro q <;> omega
    rw [if_neg e, q]
theorem lwp_out {a wh : A4} {z ink bg : Str} {num i : Int} (hq : inn wh (a.l + i) a.t = false) (c r : Int) : lwp f a wh z ink bg num i c r = lwp f a wh z ink bg num (i + 1) c r := by
  unfold lwp
  have q : (decide (r = a.t) && decide (a.l ≤ c) && decide (c < a.l + i) && inn wh c r) = (decide (r = a.t) && decide (a.l ≤ c) && decide (c < a.l + (i + 1)) && inn wh c r) := by
    by_cases e : c = a.l + i ∧ r = a.t
    · obtain ⟨e1, e2⟩ := e
      subst e1 e2
      rw [hq]
      simp
    · cases inn wh c r
      · simp
      · rw [Bool.eq_iff_iff]
        simp only [Bool.and_true, Bool.and_eq_true, decide_eq_true_eq]
        constructor <;> intro q <;> omega
  rw [q]
theorem lwp_not {a wh : A4} {z ink bg : Str} {num i : Int} : lwp f a wh z ink bg num i (a.l + i) a.t = f (a.l + i) a.t := by
  unfold lwp
  have : ¬ (decide (a.t = a.t) && decide (a.l ≤ a.l + i) && decide (a.l + i < a.l + i) && inn wh (a.l + i) a.t) = true := by
    simp only [Bool.and_eq_true, decide_eq_true_eq]
    omega
  rw [if_neg this]
theorem e_t20 {a b : LV} {L : LH} : gIx (.tup [a, b]) (.int 0) L = .ok a L := rfl
theorem e_enumS {z : Str} {L : LH} {Y : IT → LH → Prop} (hz : Y (itEnS z) L) (h : z.length ≤ 100) : WP (enumS [.str z] L) Y := by
  unfold enumS
  simp only []
  exact hz
/-- the law's own writing -/
def LW : MS := (mFor (mI enumS (mCons (mVar 12) mNil)) (gT 2 (gCons (gN 13) (gCons (gN 14) gNil)))
  (mIfS (mTest (mCall F_law_in [] (mCons (mVar 10) (mCons (mOp gAdd (mOp gIx (mVar 6) (mC (.int 0))) (mVar 13)) (mCons (mOp gIx (mVar 6) (mC (.int 1))) mNil)))))
  (mSeq (mAsg (mDGet2 (mVar 4) (mTup (mCons (mOp gAdd (mOp gIx (mVar 6) (mC (.int 0))) (mVar 13)) (mCons (mOp gIx (mVar 6) (mC (.int 1))) mNil))) (mTup (mCons (mC (.str " ")) (mCons (mC (.str "black")) (mCons (mC (.str "white")) (mCons (mC .non) mNil)))))) (gN 11))
  (mDPut (mVar 4) (mTup (mCons (mOp gAdd (mOp gIx (mVar 6) (mC (.int 0))) (mVar 13)) (mCons (mOp gIx (mVar 6) (mC (.int 1))) mNil))) (mTup (mCons (mVar 14) (mCons (mC (.str "green")) (mCons (mIf (mTest (mOp (gEq false) (mVar 8) (mC (.str "none")))) (mOp gIx (mVar 11) (mC (.int 2))) (mVar 8)) (mCons (mVar 9) mNil)))))))
  mSkip))
theorem lawWrite_ok {a wh : A4} {col z : Str} {num : Int} {x0 x1 x2 x3 x5 x7 x11 x13 x14 x15 x16 x17 x18 x19 x20 x21 x22 x23 x24 : Option LV} {DD : EW} (k : Dic D f m) (hzl : z.length ≤ 100) (hm : m + z.length < 1000000)
    (hz : ∀ D' x11 x13 x14, Dic D' (lwp f a wh z "green" col num z.length) (m + z.length) → DD.nx [x0, x1, x2, x3, some (.ref 1), x5, some a.v, x7, some (.str col), some (.int num), some wh.v, x11, some (.str z), x13, x14, x15, x16, x17, x18, x19, x20, x21, x22, x23, x24] (St d D' w h C T)) :
    WS (LW [x0, x1, x2, x3, some (.ref 1), x5, some a.v, x7, some (.str col), some (.int num), some wh.v, x11, some (.str z), x13, x14, x15, x16, x17, x18, x19, x20, x21, x22, x23, x24] (St d D w h C T)) DD := by
  unfold LW
  simp only [WP_bind, WP_ok, WP_no, WP_ite, WS_lift', WS_next, WS_ret, WS_brk, WS_cont, WS_seq, WS_ite, WP_call, mSeq, mIfS, mAsg, mRet, mRetN, mSetIx, mDrop, mOr, mAnd, mNot, mTest, mOp, mVar, mC, mCons, mNil, mBlt, mTup, mFl, mLst, mIf, mUn, mNotV, mAndV, mOrV, toB, mSkip, mBreak, mCont, mPar, e_gI, e_gIc, e_gMul, e_gAdd, e_gCmp, e_gEq, e_gEqS, e_ix30, e_ix31, e_ix32, e_set30, e_set31, e_set32, e_t40, e_t41, e_t42, e_t43, Bool.false_eq_true, gN, gT, gNil, gCons, Option.bind_some, Option.bind_none, fAbs, fMax, fMin, fInt,   List.map_cons, List.map_nil, List.cons_append, List.nil_append, List.length_cons, List.length_nil, List.replicate, List.set_cons_succ, List.set_cons_zero, List.getElem?_cons_succ, List.getElem?_cons_zero, Nat.reduceSub, Nat.reduceAdd, Nat.reduceLeDiff, if_true, if_false, true_and, and_true, false_and, and_false, mChain, mRaise, mBM, mFld, mDGet1, mDGet2, mDPut, mSetFld, mMeth, mCall, mMake, mDNew, isNon, mFor, mI, mIt, mLc, mYes, mTupG, gTupG, mSl, mNoP, mPart, mJoin, wipeL, List.append_nil, Bool.not_true, Bool.not_false, decide_true, true_implies, false_implies, implies_true, reduceCtorEq, Bool.true_eq_false, Bool.and_true, Bool.true_and, WP_exc, WS_exc, if_true]
  refine e_enumS ?_ hzl
  have hcs : z.cps.size = z.length := rfl
  refine WS_for (n := z.length) (fun i s L => ∃ D' x11 x13 x14, s = [x0, x1, x2, x3, some (.ref 1), x5, some a.v, x7, some (.str col), some (.int num), some wh.v, x11, some (.str z), x13, x14, x15, x16, x17, x18, x19, x20, x21, x22, x23, x24] ∧ L = St d D' w h C T ∧ Dic D' (lwp f a wh z "green" col num i) (m + i)) (by unfold FUEL; omega) ?_ ?_ ?_
  · rintro i s L hi ⟨D', x11, x13, x14, rfl, rfl, kd⟩
    have eg : z.cps[i]? = some z.cps[i] := Array.getElem?_eq_getElem hi
    refine ⟨.tup [.int (i : Nat), .str ⟨#[z.cps[i]]⟩], _, by unfold itEnS; rw [eg]; rfl, rfl, ?_⟩
    have hl : D'.length < 1000000 := by have := kd.len; omega
    have ge := kd.getT (a.l + i) a.t
    rw [lwp_not] at ge
    simp only [WP_bind, WP_ok, WP_no, WP_ite, WS_lift', WS_next, WS_ret, WS_brk, WS_cont, WS_seq, WS_ite, WP_call, mSeq, mIfS, mAsg, mRet, mRetN, mSetIx, mDrop, mOr, mAnd, mNot, mTest, mOp, mVar, mC, mCons, mNil, mBlt, mTup, mFl, mLst, mIf, mUn, mNotV, mAndV, mOrV, toB, mSkip, mBreak, mCont, mPar, e_gI, e_gIc, e_gMul, e_gAdd, e_gCmp, e_gEq, e_gEqS, e_ix30, e_ix31, e_ix32, e_set30, e_set31, e_set32, e_t40, e_t41, e_t42, e_t43, Bool.false_eq_true, gN, gT, gNil, gCons, Option.bind_some, Option.bind_none, fAbs, fMax, fMin, fInt,   List.map_cons, List.map_nil, List.cons_append, List.nil_append, List.length_cons, List.length_nil, List.replicate, List.set_cons_succ, List.set_cons_zero, List.getElem?_cons_succ, List.getElem?_cons_zero, Nat.reduceSub, Nat.reduceAdd, Nat.reduceLeDiff, if_true, if_false, true_and, and_true, false_and, and_false, mChain, mRaise, mBM, mFld, mDGet1, mDGet2, mDPut, mSetFld, mMeth, mCall, mMake, mDNew, isNon, mFor, mI, mIt, mLc, mYes, mTupG, gTupG, mSl, mNoP, mPart, mJoin, wipeL, List.append_nil, Bool.not_true, Bool.not_false, decide_true, true_implies, false_implies, implies_true, reduceCtorEq, Bool.true_eq_false, Bool.and_true, Bool.true_and, WP_exc, WS_exc, if_true]
    refine in_ok ?_
    cases hq : inn wh (a.l + i) a.t with
    | false =>
      have hq' : decide (wh.l ≤ a.l + ↑i ∧ a.l + ↑i < wh.l + wh.w ∧ wh.t ≤ a.t ∧ a.t < wh.t + wh.h) = false := hq
      simp only [WP_bind, WP_ok, WP_no, WP_ite, WS_lift', WS_next, WS_ret, WS_brk, WS_cont, WS_seq, WS_ite, WP_call, mSeq, mIfS, mAsg, mRet, mRetN, mSetIx, mDrop, mOr, mAnd, mNot, mTest, mOp, mVar, mC, mCons, mNil, mBlt, mTup, mFl, mLst, mIf, mUn, mNotV, mAndV, mOrV, toB, mSkip, mBreak, mCont, mPar, e_gI, e_gIc, e_gMul, e_gAdd, e_gCmp, e_gEq, e_gEqS, e_ix30, e_ix31, e_ix32, e_set30, e_set31, e_set32, e_t40, e_t41, e_t42, e_t43, Bool.false_eq_true, gN, gT, gNil, gCons, Option.bind_some, Option.bind_none, fAbs, fMax, fMin, fInt,   List.map_cons, List.map_nil, List.cons_append, List.nil_append, List.length_cons, List.length_nil, List.replicate, List.set_cons_succ, List.set_cons_zero, List.getElem?_cons_succ, List.getElem?_cons_zero, Nat.reduceSub, Nat.reduceAdd, Nat.reduceLeDiff, if_true, if_false, true_and, and_true, false_and, and_false, mChain, mRaise, mBM, mFld, mDGet1, mDGet2, mDPut, mSetFld, mMeth, mCall, mMake, mDNew, isNon, mFor, mI, mIt, mLc, mYes, mTupG, gTupG, mSl, mNoP, mPart, mJoin, wipeL, List.append_nil, Bool.not_true, Bool.not_false, decide_true, true_implies, false_implies, implies_true, reduceCtorEq, Bool.true_eq_false, Bool.and_true, Bool.true_and, WP_exc, WS_exc, hq']
      exact ⟨_, _, _, _, rfl, rfl, (kd.congr fun c r => lwp_out hq c r).mono (by omega)⟩
    | true =>
      have hq' : decide (wh.l ≤ a.l + ↑i ∧ a.l + ↑i < wh.l + wh.w ∧ wh.t ≤ a.t ∧ a.t < wh.t + wh.h) = true := hq
      have fin : ∀ x : Cl, x = wr z "green" col num i (f (a.l + i) a.t) → Dic (putKL D' (ky (a.l + i) a.t) (.tup x.vs)) (lwp f a wh z "green" col num (i + 1 : Nat)) (m + (i + 1)) := fun x hx => by
        subst hx
        refine (kd.put _ _ _).congr fun c r => ?_
        rw [lwp_in (by omega) hq]
        rfl
      have ge' : (lookK D' (ky (a.l + ↑i) a.t)).getD (LV.tup [LV.str " ", LV.str "black", LV.str "white", LV.non]) = .tup (f (a.l + i) a.t).vs := ge
      by_cases hc : col = "none"
      · simp only [WP_bind, WP_ok, WP_no, WP_ite, WS_lift', WS_next, WS_ret, WS_brk, WS_cont, WS_seq, WS_ite, WP_call, mSeq, mIfS, mAsg, mRet, mRetN, mSetIx, mDrop, mOr, mAnd, mNot, mTest, mOp, mVar, mC, mCons, mNil, mBlt, mTup, mFl, mLst, mIf, mUn, mNotV, mAndV, mOrV, toB, mSkip, mBreak, mCont, mPar, e_gI, e_gIc, e_gMul, e_gAdd, e_gCmp, e_gEq, e_gEqS, e_ix30, e_ix31, e_ix32, e_set30, e_set31, e_set32, e_t40, e_t41, e_t42, e_t43, Bool.false_eq_true, gN, gT, gNil, gCons, Option.bind_some, Option.bind_none, fAbs, fMax, fMin, fInt,   List.map_cons, List.map_nil, List.cons_append, List.nil_append, List.length_cons, List.length_nil, List.replicate, List.set_cons_succ, List.set_cons_zero, List.getElem?_cons_succ, List.getElem?_cons_zero, Nat.reduceSub, Nat.reduceAdd, Nat.reduceLeDiff, if_true, if_false, true_and, and_true, false_and, and_false, mChain, mRaise, mBM, mFld, mDGet1, mDGet2, mDPut, mSetFld, mMeth, mCall, mMake, mDNew, isNon, mFor, mI, mIt, mLc, mYes, mTupG, gTupG, mSl, mNoP, mPart, mJoin, wipeL, List.append_nil, Bool.not_true, Bool.not_false, decide_true, true_implies, false_implies, implies_true, reduceCtorEq, Bool.true_eq_false, Bool.and_true, Bool.true_and, WP_exc, WS_exc, hq', e_isD1, e_dg1, ge', e_dp1 hl, decide_eq_true hc]
        refine ⟨_, _, _, _, rfl, rfl, fin ⟨⟨#[z.cps[i]]⟩, "green", (f (a.l + i) a.t).paper, some num⟩ ?_⟩
        unfold wr
        rw [if_pos hc, sign_at eg]
      · simp only [WP_bind, WP_ok, WP_no, WP_ite, WS_lift', WS_next, WS_ret, WS_brk, WS_cont, WS_seq, WS_ite, WP_call, mSeq, mIfS, mAsg, mRet, mRetN, mSetIx, mDrop, mOr, mAnd, mNot, mTest, mOp, mVar, mC, mCons, mNil, mBlt, mTup, mFl, mLst, mIf, mUn, mNotV, mAndV, mOrV, toB, mSkip, mBreak, mCont, mPar, e_gI, e_gIc, e_gMul, e_gAdd, e_gCmp, e_gEq, e_gEqS, e_ix30, e_ix31, e_ix32, e_set30, e_set31, e_set32, e_t40, e_t41, e_t42, e_t43, Bool.false_eq_true, gN, gT, gNil, gCons, Option.bind_some, Option.bind_none, fAbs, fMax, fMin, fInt,   List.map_cons, List.map_nil, List.cons_append, List.nil_append, List.length_cons, List.length_nil, List.replicate, List.set_cons_succ, List.set_cons_zero, List.getElem?_cons_succ, List.getElem?_cons_zero, Nat.reduceSub, Nat.reduceAdd, Nat.reduceLeDiff, if_true, if_false, true_and, and_true, false_and, and_false, mChain, mRaise, mBM, mFld, mDGet1, mDGet2, mDPut, mSetFld, mMeth, mCall, mMake, mDNew, isNon, mFor, mI, mIt, mLc, mYes, mTupG, gTupG, mSl, mNoP, mPart, mJoin, wipeL, List.append_nil, Bool.not_true, Bool.not_false, decide_true, true_implies, false_implies, implies_true, reduceCtorEq, Bool.true_eq_false, Bool.and_true, Bool.true_and, WP_exc, WS_exc, hq', e_isD1, e_dg1, ge', e_dp1 hl, decide_eq_false hc]
        refine ⟨_, _, _, _, rfl, rfl, fin ⟨⟨#[z.cps[i]]⟩, "green", col, some num⟩ ?_⟩
        unfold wr
        rw [if_neg hc, sign_at eg]
  · rintro s L ⟨D', x11, x13, x14, rfl, rfl, kd⟩
    exact ⟨by unfold itEnS; rw [Array.getElem?_eq_none (by rw [hcs]; exact Nat.le_refl _)]; rfl, hz D' _ _ _ kd⟩
  · refine ⟨D, _, _, _, rfl, rfl, (k.congr fun c r => ?_).mono (by omega)⟩
    unfold lwp
    have : ¬ (decide (r = a.t) && decide (a.l ≤ c) && decide (c < a.l + ((0 : Nat) : Int)) && inn wh c r) = true := by
      simp only [Bool.and_eq_true, decide_eq_true_eq]
      omega
    rw [if_neg this]
end
end Q.K07
end
section
set_option Elab.async false
set_option linter.all false
set_option maxRecDepth 100000
set_option maxHeartbeats 1000000
namespace Q.K07
open PySem L2 Q
theorem mx_le {a b c : Int} : mx a b ≤ c ↔ a ≤ c ∧ b ≤ c := by unfold mx; split <;> omega
theorem lt_mn {a b c : Int} : c < mn a b ↔ c < a ∧ c < b := by unfold mn; split <;> omega
theorem seg {l t c : Int} (h : l ≤ c) : c < l + mx 0 (t - l) ↔ c < t := by unfold mx; split <;> omega
/-- one way of a meeting of three -/
theorem way {a aw k kw w c : Int} : (mx (mx a k) 0 ≤ c ∧ c < mx (mx a k) 0 + mx 0 (mn (mx a k + mx 0 (mn (a + aw) (k + kw) - mx a k)) (0 + w) - mx (mx a k) 0)) ↔ (a ≤ c ∧ c < a + aw) ∧ (mx 0 k ≤ c ∧ c < mx 0 k + (mn w (k + kw) - mx 0 k)) := by
  constructor
  · rintro ⟨h1, h2⟩
    have h3 := mx_le.mp h1
    have h4 := mx_le.mp h3.1
    rw [seg h1, lt_mn, seg h3.1, lt_mn] at h2
    have h5 : mx 0 k ≤ c := mx_le.mpr ⟨h3.2, h4.2⟩
    refine ⟨⟨h4.1, h2.1.1⟩, h5, ?_⟩
    have : c < mn w (k + kw) := lt_mn.mpr ⟨by omega, h2.1.2⟩
    omega
  · rintro ⟨⟨h1, h2⟩, h3, h4⟩
    have h5 := mx_le.mp h3
    have h6 : c < mn w (k + kw) := by omega
    have h7 := lt_mn.mp h6
    have h8 : mx a k ≤ c := mx_le.mpr ⟨h1, h5.2⟩
    have h9 : mx (mx a k) 0 ≤ c := mx_le.mpr ⟨h8, h5.1⟩
    refine ⟨h9, ?_⟩
    rw [seg h9, lt_mn, seg h8, lt_mn]
    exact ⟨⟨h2, h7.2⟩, by omega⟩
/-- what of the canvas a clip leaves -/
def whole (w h : Int) (k : A4) : A4 := ⟨mx 0 k.l, mx 0 k.t, mn w (k.l + k.w) - mx 0 k.l, mn h (k.t + k.h) - mx 0 k.t⟩
theorem fill_same {w h : Int} {a k : A4} (c r : Int) : rowD (meet (meet a k) ⟨0, 0, w, h⟩) (meet (meet a k) ⟨0, 0, w, h⟩).h c r = colD a (whole w h k) a.w c r := by
  unfold rowD colD inn meet whole
  rw [Bool.eq_iff_iff]
  simp only [Bool.and_eq_true, decide_eq_true_eq]
  have h1 := way (a := a.l) (aw := a.w) (k := k.l) (kw := k.w) (w := w) (c := c)
  have h2 := way (a := a.t) (aw := a.h) (k := k.t) (kw := k.h) (w := h) (c := r)
  constructor
  · rintro ⟨⟨⟨q1, q2⟩, q3⟩, q4⟩
    obtain ⟨⟨p1, p2⟩, p3, p4⟩ := h1.mp ⟨q1, q2⟩
    obtain ⟨⟨p5, p6⟩, p7, p8⟩ := h2.mp ⟨q3, q4⟩
    exact ⟨⟨⟨⟨p1, p2⟩, p5⟩, p6⟩, p3, p4, p7, p8⟩
  · rintro ⟨⟨⟨⟨p1, p2⟩, p5⟩, p6⟩, p3, p4, p7, p8⟩
    obtain ⟨q1, q2⟩ := h1.mpr ⟨⟨p1, p2⟩, p3, p4⟩
    obtain ⟨q3, q4⟩ := h2.mpr ⟨⟨p5, p6⟩, p7, p8⟩
    exact ⟨⟨⟨q1, q2⟩, q3⟩, q4⟩
theorem part_same {w h : Int} {a k : A4} {f : Pic} {p : Cl → Cl} (c r : Int) : part f p (rowD (meet (meet a k) ⟨0, 0, w, h⟩) (meet (meet a k) ⟨0, 0, w, h⟩).h) c r = part f p (colD a (whole w h k) a.w) c r := by
  unfold part
  rw [fill_same]
theorem mx_nn {a : Int} : 0 ≤ mx 0 a := by unfold mx; split <;> omega
/-- the way of one row -/
theorem row_one {w h row col len : Int} {k : A4} : ((meet (meet ⟨col, row, len, 1⟩ k) ⟨0, 0, w, h⟩).h = 0 ∧ ¬ (mx 0 k.t ≤ row ∧ row < mx 0 k.t + (mn h (k.t + k.h) - mx 0 k.t))) ∨
    ((meet (meet ⟨col, row, len, 1⟩ k) ⟨0, 0, w, h⟩).h = 1 ∧ (meet (meet ⟨col, row, len, 1⟩ k) ⟨0, 0, w, h⟩).t = row ∧ (mx 0 k.t ≤ row ∧ row < mx 0 k.t + (mn h (k.t + k.h) - mx 0 k.t))) := by
  have key := fun r => way (a := row) (aw := 1) (k := k.t) (kw := k.h) (w := h) (c := r)
  generalize hv : meet (meet ⟨col, row, len, 1⟩ k) ⟨0, 0, w, h⟩ = v
  have key : ∀ r, (v.t ≤ r ∧ r < v.t + v.h) ↔ (row ≤ r ∧ r < row + 1) ∧ (mx 0 k.t ≤ r ∧ r < mx 0 k.t + (mn h (k.t + k.h) - mx 0 k.t)) := fun r => by rw [← hv]; exact key r
  have nn : 0 ≤ v.h := by rw [← hv]; exact mx_nn
  by_cases e : v.h = 0
  · refine .inl ⟨e, fun q => ?_⟩
    have := (key row).mpr ⟨⟨by omega, by omega⟩, q⟩
    omega
  · have k1 := (key v.t).mp ⟨by omega, by omega⟩
    have e1 : v.t = row := by omega
    refine .inr ⟨?_, e1, by rw [e1] at k1; exact k1.2⟩
    have k2 := fun q => (key (v.t + 1)).mp q
    by_cases e2 : v.h = 1
    · exact e2
    · have := k2 ⟨by omega, by omega⟩
      omega
theorem write_same {w h row col : Int} {k : A4} {z ink bg : Str} {num : Int} {f : Pic} (c r : Int) :
    (if (meet (meet ⟨col, row, z.length, 1⟩ k) ⟨0, 0, w, h⟩).h = 0 then f else wpic f (meet (meet ⟨col, row, z.length, 1⟩ k) ⟨0, 0, w, h⟩) z ink bg num col (meet (meet ⟨col, row, z.length, 1⟩ k) ⟨0, 0, w, h⟩).w) c r = lwp f ⟨col, row, 0, 0⟩ (whole w h k) z ink bg num z.length c r := by
  have key := way (a := col) (aw := z.length) (k := k.l) (kw := k.w) (w := w) (c := c)
  rcases row_one (w := w) (h := h) (row := row) (col := col) (len := z.length) (k := k) with ⟨e, q⟩ | ⟨e, et, q⟩
  · rw [if_pos e]
    unfold lwp
    have : ¬ (decide (r = row) && decide (col ≤ c) && decide (c < col + z.length) && inn (whole w h k) c r) = true := by
      intro y
      unfold inn whole at y
      simp only [Bool.and_eq_true, decide_eq_true_eq] at y
      obtain ⟨⟨⟨z1, _⟩, _⟩, _, _, z2⟩ := y
      subst z1
      exact q z2
    rw [if_neg this]
  · rw [if_neg (by rw [e]; decide)]
    unfold wpic lwp
    have : (decide (r = (meet (meet ⟨col, row, z.length, 1⟩ k) ⟨0, 0, w, h⟩).t) && decide ((meet (meet ⟨col, row, z.length, 1⟩ k) ⟨0, 0, w, h⟩).l ≤ c) && decide (c < (meet (meet ⟨col, row, z.length, 1⟩ k) ⟨0, 0, w, h⟩).l + (meet (meet ⟨col, row, z.length, 1⟩ k) ⟨0, 0, w, h⟩).w)) = (decide (r = row) && decide (col ≤ c) && decide (c < col + z.length) && inn (whole w h k) c r) := by
      rw [et, Bool.eq_iff_iff]
      unfold inn whole
      simp only [Bool.and_eq_true, decide_eq_true_eq]
      constructor
      · rintro ⟨⟨q1, q2⟩, q3⟩
        obtain ⟨⟨p1, p2⟩, p3, p4⟩ := key.mp ⟨q2, q3⟩
        subst q1
        exact ⟨⟨⟨rfl, p1⟩, p2⟩, p3, p4, q.1, q.2⟩
      · rintro ⟨⟨⟨q1, p1⟩, p2⟩, p3, p4, _, _⟩
        obtain ⟨q2, q3⟩ := key.mpr ⟨⟨p1, p2⟩, p3, p4⟩
        exact ⟨⟨q1, q2⟩, q3⟩
    rw [this]
end Q.K07
end
section
set_option Elab.async false
set_option linter.all false
set_option maxRecDepth 100000
set_option maxHeartbeats 2000000
namespace Q.K07
open PySem L2 Q
theorem le_mx {a b c : Int} : c ≤ mx a b ↔ c ≤ a ∨ c ≤ b := by unfold mx; split <;> omega
theorem mn_le {a b : Int} : mn a b ≤ a ∧ mn a b ≤ b := by unfold mn; split <;> omega
theorem mx_ge {a b : Int} : a ≤ mx a b ∧ b ≤ mx a b := by unfold mx; split <;> omega
theorem vb {a k : A4} {w h : Int} (hw : 0 ≤ w) (hh : 0 ≤ h) (h1 : a.l ≤ 900) (h2 : k.l ≤ 900) (h3 : a.t ≤ 900) (h4 : k.t ≤ 900) :
    (0 ≤ (meet (meet a k) ⟨0, 0, w, h⟩).l ∧ (meet (meet a k) ⟨0, 0, w, h⟩).l ≤ 900) ∧ (0 ≤ (meet (meet a k) ⟨0, 0, w, h⟩).t ∧ (meet (meet a k) ⟨0, 0, w, h⟩).t ≤ 900) ∧
    (0 ≤ (meet (meet a k) ⟨0, 0, w, h⟩).w ∧ (meet (meet a k) ⟨0, 0, w, h⟩).w ≤ w) ∧ (0 ≤ (meet (meet a k) ⟨0, 0, w, h⟩).h ∧ (meet (meet a k) ⟨0, 0, w, h⟩).h ≤ h) ∧ a.l ≤ (meet (meet a k) ⟨0, 0, w, h⟩).l := by
  unfold meet
  simp only []
  refine ⟨⟨le_mx.mpr (.inr (by omega)), mx_le.mpr ⟨mx_le.mpr ⟨h1, h2⟩, by omega⟩⟩, ⟨le_mx.mpr (.inr (by omega)), mx_le.mpr ⟨mx_le.mpr ⟨h3, h4⟩, by omega⟩⟩, ⟨mx_nn, mx_le.mpr ⟨hw, ?_⟩⟩, ⟨mx_nn, mx_le.mpr ⟨hh, ?_⟩⟩, le_mx.mpr (.inl (mx_ge.1))⟩
  · have e1 := (mn_le (a := mx a.l k.l + mx 0 (mn (a.l + a.w) (k.l + k.w) - mx a.l k.l)) (b := 0 + w)).2
    have e2 := (mx_ge (a := mx a.l k.l) (b := 0)).2
    omega
  · have e1 := (mn_le (a := mx a.t k.t + mx 0 (mn (a.t + a.h) (k.t + k.h) - mx a.t k.t)) (b := 0 + h)).2
    have e2 := (mx_ge (a := mx a.t k.t) (b := 0)).2
    omega
theorem sign_len (z : Str) (i : Int) : (sign z i).length ≤ 1 := by
  unfold sign
  split
  · exact Nat.le_refl 1
  · exact Nat.zero_le _
/-- the law's own steps -/
def TAIL : MS := (mIfS (mTest (mOp (gEq false) (mCall F_law_roll [] (mCons (mVar 1) (mCons (mC (.int 2)) mNil))) (mC (.int 0))))
  (mSeq (mDrop (mMeth i_Canvas "fill" F_Canvas_fill [] (mVar 22) (mCons (mVar 6) (mCons (mVar 8) (mCons (mVar 9) (mCons (mVar 7) mNil)))))) LF)
  (mSeq (mAsg (mSl (mC (.str "abcdefgh")) mNoP (mPart (mCall F_law_roll [] (mCons (mVar 1) (mCons (mC (.int 9)) mNil))))) (gN 12))
  (mSeq (mDrop (mMeth i_Canvas "write" F_Canvas_write [] (mVar 22) (mCons (mOp gIx (mVar 6) (mC (.int 0))) (mCons (mOp gIx (mVar 6) (mC (.int 1))) (mCons (mVar 12) (mCons (mTup (mCons (mC (.str "green")) (mCons (mVar 8) (mCons (mVar 9) mNil)))) (mCons (mVar 7) mNil))))))) LW)))
/-- a cell's texts are well -/
def Fine (x : Cl) : Prop := x.ch.length ≤ 1 ∧ PyData.strOk x.ch = true ∧ PyData.strOk x.ink = true ∧ PyData.strOk x.paper = true
theorem strOk_iff {z : Str} : PyData.strOk z = true ↔ ∀ c ∈ z.cps.toList, c < 0x110000 := by
  unfold PyData.strOk
  rw [← Array.all_toList, List.all_eq_true]
  simp only [decide_eq_true_eq]
theorem strOk_cut {z : Str} {lo hi : Option Int} (h : PyData.strOk z = true) : PyData.strOk (cutS z lo hi) = true := by
  rw [strOk_iff] at h ⊢
  intro c hc
  unfold cutS at hc
  exact h c (List.mem_of_mem_drop (List.mem_of_mem_take (by simpa using hc)))
theorem strOk_sign {z : Str} (h : PyData.strOk z = true) (i : Int) : PyData.strOk (sign z i) = true := by
  rw [strOk_iff] at h
  unfold sign
  split
  · rename_i k e
    rw [strOk_iff]
    intro c hc
    have hc : c = k := by simpa using hc
    subst hc
    unfold atI at e
    obtain ⟨j, _, hj⟩ := Option.bind_eq_some_iff.mp e
    exact h c (List.mem_of_getElem? hj)
  · exact (show PyData.strOk "" = true by decide +kernel)
/-- behind each step: two dicts, one picture -/
def SI (w h : Int) (m : Nat) (s : Sl) (L : LH) : Prop := ∃ x0 x5 x6 x7 x8 x9 x10 x11 x12 x13 x14 x15 x16 x17 x18 x19 x20 x21 x23 x24 x y z D C f,
  s = [x0, some (.ref 0), some (.int w), some (.int h), some (.ref 1), x5, x6, x7, x8, x9, x10, x11, x12, x13, x14, x15, x16, x17, x18, x19, x20, x21, some (.ref 2), x23, x24] ∧ L = St (.lst [.int x, .int y, .int z]) D w h C [] ∧ Dic D f m ∧ Dic C f m ∧ ∀ c r, Fine (f c r)
theorem cut8 {n : Int} (h0 : 0 ≤ n) (h1 : n < 9) : (cutS "abcdefgh" none (some n)).length ≤ 8 := by
  have : (cutS "abcdefgh" none (some n)).length ≤ ("abcdefgh" : Str).length := by
    simp only [cutS, Str.length, List.size_toArray, List.length_take, List.length_drop, Array.length_toList]
    omega
  have e : ("abcdefgh" : Str).length = 8 := by decide +kernel
  omega
theorem tail_ok {w h : Int} {m : Nat} {x0 x5 x10 x11 x12 x13 x14 x15 x16 x17 x18 x19 x20 x21 x23 x24 : Option LV} {x y z : Int} {D C : List (List Key × LV)} {f : Pic} {a k : A4} {col : Str} {num : Int} {DD : EW}
    (hw : 0 ≤ w ∧ w ≤ 30) (hh : 0 ≤ h ∧ h ≤ 20) (ha : -5 ≤ a.l ∧ a.l ≤ 40 ∧ -5 ≤ a.t ∧ a.t ≤ 40 ∧ 0 ≤ a.w ∧ a.w ≤ 15 ∧ 0 ≤ a.h ∧ a.h ≤ 10) (hk : k.l ≤ 40 ∧ k.t ≤ 40) (hm : m < 100000) (kD : Dic D f m) (kC : Dic C f m) (kf : ∀ c r, Fine (f c r)) (hcol : PyData.strOk col = true)
    (hz : ∀ s L, SI w h (m + 600) s L → DD.nx s L) :
    WS (TAIL [x0, some (.ref 0), some (.int w), some (.int h), some (.ref 1), x5, some a.v, some k.v, some (.str col), some (.int num), some (whole w h k).v, x11, x12, x13, x14, x15, x16, x17, x18, x19, x20, x21, some (.ref 2), x23, x24] (St (.lst [.int x, .int y, .int z]) D w h C [])) DD := by
  obtain ⟨w0, w1⟩ := hw
  obtain ⟨h0, h1⟩ := hh
  obtain ⟨a1, a2, a3, a4, a5, a6, a7, a8⟩ := ha
  obtain ⟨k1, k2⟩ := hk
  unfold TAIL
  simp only [WP_bind, WP_ok, WP_no, WP_ite, WS_lift', WS_next, WS_ret, WS_brk, WS_cont, WS_seq, WS_ite, WP_call, mSeq, mIfS, mAsg, mRet, mRetN, mSetIx, mDrop, mOr, mAnd, mNot, mTest, mOp, mVar, mC, mCons, mNil, mBlt, mTup, mFl, mLst, mIf, mUn, mNotV, mAndV, mOrV, toB, mSkip, mBreak, mCont, mPar, e_gI, e_gIc, e_gMul, e_gAdd, e_gCmp, e_gEq, e_gEqS, e_ix30, e_ix31, e_ix32, e_set30, e_set31, e_set32, e_t40, e_t41, e_t42, e_t43, Bool.false_eq_true, gN, gT, gNil, gCons, Option.bind_some, Option.bind_none, fAbs, fMax, fMin, fInt,   List.map_cons, List.map_nil, List.cons_append, List.nil_append, List.length_cons, List.length_nil, List.replicate, List.set_cons_succ, List.set_cons_zero, List.getElem?_cons_succ, List.getElem?_cons_zero, Nat.reduceSub, Nat.reduceAdd, Nat.reduceLeDiff, if_true, if_false, true_and, and_true, false_and, and_false, mChain, mRaise, mBM, mFld, mDGet1, mDGet2, mDPut, mSetFld, mMeth, mCall, mMake, mDNew, isNon, mFor, mI, mIt, mLc, mYes, mTupG, gTupG, mSl, mNoP, mPart, mJoin, wipeL, List.append_nil, Bool.not_true, Bool.not_false, decide_true, true_implies, false_implies, implies_true, reduceCtorEq, Bool.true_eq_false, Bool.and_true, Bool.true_and, WP_exc, WS_exc, if_true]
  refine roll_ok (by decide) (by decide) fun q x y z q0 q1 => ?_
  simp only [WP_bind, WP_ok, WP_no, WP_ite, WS_lift', WS_next, WS_ret, WS_brk, WS_cont, WS_seq, WS_ite, WP_call, mSeq, mIfS, mAsg, mRet, mRetN, mSetIx, mDrop, mOr, mAnd, mNot, mTest, mOp, mVar, mC, mCons, mNil, mBlt, mTup, mFl, mLst, mIf, mUn, mNotV, mAndV, mOrV, toB, mSkip, mBreak, mCont, mPar, e_gI, e_gIc, e_gMul, e_gAdd, e_gCmp, e_gEq, e_gEqS, e_ix30, e_ix31, e_ix32, e_set30, e_set31, e_set32, e_t40, e_t41, e_t42, e_t43, Bool.false_eq_true, gN, gT, gNil, gCons, Option.bind_some, Option.bind_none, fAbs, fMax, fMin, fInt,   List.map_cons, List.map_nil, List.cons_append, List.nil_append, List.length_cons, List.length_nil, List.replicate, List.set_cons_succ, List.set_cons_zero, List.getElem?_cons_succ, List.getElem?_cons_zero, Nat.reduceSub, Nat.reduceAdd, Nat.reduceLeDiff, if_true, if_false, true_and, and_true, false_and, and_false, mChain, mRaise, mBM, mFld, mDGet1, mDGet2, mDPut, mSetFld, mMeth, mCall, mMake, mDNew, isNon, mFor, mI, mIt, mLc, mYes, mTupG, gTupG, mSl, mNoP, mPart, mJoin, wipeL, List.append_nil, Bool.not_true, Bool.not_false, decide_true, true_implies, false_implies, implies_true, reduceCtorEq, Bool.true_eq_false, Bool.and_true, Bool.true_and, WP_exc, WS_exc, i_fill, i_write]
  refine ⟨fun _ => ?_, fun _ => ?_⟩
  · have b := vb (a := a) (k := k) (w := w) (h := h) w0 h0 (by omega) (by omega) (by omega) (by omega)
    obtain ⟨⟨b1, b2⟩, ⟨b3, b4⟩, ⟨b5, b6⟩, ⟨b7, b8⟩, _⟩ := b
    have hp : (meet (meet a k) ⟨0, 0, w, h⟩).h.toNat * (meet (meet a k) ⟨0, 0, w, h⟩).w.toNat ≤ 20 * 30 := Nat.mul_le_mul (by omega) (by omega)
    have hq : a.w.toNat * a.h.toNat ≤ 15 * 10 := Nat.mul_le_mul (by omega) (by omega)
    refine fill_ok (ar := a) (cl := k) kC rfl (by omega) (by omega) ⟨by omega, by omega, by omega, by omega, b5, by omega, b7, by omega⟩ (by omega) fun C' kC' => ?_
    refine lawFill_ok (a := a) (wh := whole w h k) kD ⟨by omega, by omega, by omega, by omega, by omega, by omega, by omega, by omega⟩ (by omega) fun D' x11 x15 x16 kD' => ?_
    refine hz _ _ ⟨_, _, _, _, _, _, _, _, _, _, _, _, _, _, _, _, _, _, _, _, _, _, _, D', C', part f (fl col num) (colD a (whole w h k) a.w), rfl, rfl, kD'.mono (by omega), (kC'.congr fun c r => part_same c r).mono (by omega), fun c r => ?_⟩
    unfold part fl
    split
    · split
      · exact kf c r
      · exact ⟨Nat.le_of_eq (show (" " : Str).length = 1 by decide +kernel), (show PyData.strOk " " = true by decide +kernel), (show PyData.strOk "black" = true by decide +kernel), hcol⟩
    · exact kf c r
  · refine roll_ok (by decide) (by decide) fun n x y z n0 n1 => ?_
    have e8 : ∀ L, gSl (.str "abcdefgh") none (some n) L = .ok (.str (cutS "abcdefgh" none (some n))) L := fun L => by
      show (if ("abcdefgh" : Str).length ≤ 16777216 then Res.ok (LV.str (cutS "abcdefgh" none (some n))) L else .no) = _
      rw [if_pos (by decide +kernel)]
    have hl := cut8 n0 n1
    have ht := strOk_cut (lo := none) (hi := some n) (show PyData.strOk "abcdefgh" = true by decide +kernel)
    generalize cutS "abcdefgh" none (some n) = tx at e8 hl ht
    simp only [WP_bind, WP_ok, WP_no, WP_ite, WS_lift', WS_next, WS_ret, WS_brk, WS_cont, WS_seq, WS_ite, WP_call, mSeq, mIfS, mAsg, mRet, mRetN, mSetIx, mDrop, mOr, mAnd, mNot, mTest, mOp, mVar, mC, mCons, mNil, mBlt, mTup, mFl, mLst, mIf, mUn, mNotV, mAndV, mOrV, toB, mSkip, mBreak, mCont, mPar, e_gI, e_gIc, e_gMul, e_gAdd, e_gCmp, e_gEq, e_gEqS, e_ix30, e_ix31, e_ix32, e_set30, e_set31, e_set32, e_t40, e_t41, e_t42, e_t43, Bool.false_eq_true, gN, gT, gNil, gCons, Option.bind_some, Option.bind_none, fAbs, fMax, fMin, fInt,   List.map_cons, List.map_nil, List.cons_append, List.nil_append, List.length_cons, List.length_nil, List.replicate, List.set_cons_succ, List.set_cons_zero, List.getElem?_cons_succ, List.getElem?_cons_zero, Nat.reduceSub, Nat.reduceAdd, Nat.reduceLeDiff, if_true, if_false, true_and, and_true, false_and, and_false, mChain, mRaise, mBM, mFld, mDGet1, mDGet2, mDPut, mSetFld, mMeth, mCall, mMake, mDNew, isNon, mFor, mI, mIt, mLc, mYes, mTupG, gTupG, mSl, mNoP, mPart, mJoin, wipeL, List.append_nil, Bool.not_true, Bool.not_false, decide_true, true_implies, false_implies, implies_true, reduceCtorEq, Bool.true_eq_false, Bool.and_true, Bool.true_and, WP_exc, WS_exc, e8, i_write]
    have b := vb (a := ⟨a.l, a.t, tx.length, 1⟩) (k := k) (w := w) (h := h) w0 h0 (by show a.l ≤ 900; omega) (by omega) (by show a.t ≤ 900; omega) (by omega)
    obtain ⟨⟨b1, b2⟩, ⟨b3, b4⟩, ⟨b5, b6⟩, ⟨b7, b8⟩, b9⟩ := b
    have hr : (meet (meet ⟨a.l, a.t, tx.length, 1⟩ k) ⟨0, 0, w, h⟩).h = 0 ∨ ((meet (meet ⟨a.l, a.t, tx.length, 1⟩ k) ⟨0, 0, w, h⟩).h = 1 ∧ (meet (meet ⟨a.l, a.t, tx.length, 1⟩ k) ⟨0, 0, w, h⟩).t = a.t) := by
      rcases row_one (w := w) (h := h) (row := a.t) (col := a.l) (len := tx.length) (k := k) with ⟨e, _⟩ | ⟨e, e2, _⟩
      · exact .inl e
      · exact .inr ⟨e, e2⟩
    have hlast : 0 < (meet (meet ⟨a.l, a.t, tx.length, 1⟩ k) ⟨0, 0, w, h⟩).w → (meet (meet ⟨a.l, a.t, tx.length, 1⟩ k) ⟨0, 0, w, h⟩).l + (meet (meet ⟨a.l, a.t, tx.length, 1⟩ k) ⟨0, 0, w, h⟩).w ≤ a.l + tx.length := fun z => by
      have key := (way (a := a.l) (aw := tx.length) (k := k.l) (kw := k.w) (w := w) (c := (meet (meet ⟨a.l, a.t, tx.length, 1⟩ k) ⟨0, 0, w, h⟩).l + (meet (meet ⟨a.l, a.t, tx.length, 1⟩ k) ⟨0, 0, w, h⟩).w - 1)).mp
      have := (key ⟨by show (meet (meet ⟨a.l, a.t, tx.length, 1⟩ k) ⟨0, 0, w, h⟩).l ≤ _; omega, by show _ < (meet (meet ⟨a.l, a.t, tx.length, 1⟩ k) ⟨0, 0, w, h⟩).l + (meet (meet ⟨a.l, a.t, tx.length, 1⟩ k) ⟨0, 0, w, h⟩).w; omega⟩).1.2
      omega
    refine write_ok (cl := k) kC (by omega) rfl (by omega) (.inl ⟨by omega, by omega, b5, by omega, b9, hlast⟩) hr (by omega) fun C' kC' => ?_
    refine lawWrite_ok (a := a) (wh := whole w h k) kD (by omega) (by omega) fun D' x11 x13 x14 kD' => ?_
    refine hz _ _ ⟨_, _, _, _, _, _, _, _, _, _, _, _, _, _, _, _, _, _, _, _, _, _, _, D', C', lwp f a (whole w h k) tx "green" col num tx.length, rfl, rfl, kD'.mono (by omega), (kC'.congr fun c r => ?_).mono (by omega), fun c r => ?_⟩
    · exact write_same c r
    · unfold lwp wr
      split
      · refine ⟨sign_len _ _, strOk_sign ht _, (show PyData.strOk "green" = true by decide +kernel), ?_⟩
        show PyData.strOk (if col = "none" then (f c r).paper else col) = true
        split
        · exact (kf c r).2.2.2
        · exact hcol
      · exact kf c r
end Q.K07
end
section
set_option Elab.async false
set_option linter.all false
set_option maxRecDepth 100000
set_option maxHeartbeats 2000000
namespace Q.K07
open PySem L2 Q
def S1 : MS := (mAsg (mTup (mCons (mOp gSub (mCall F_law_roll [] (mCons (mVar 1) (mCons (mC (.int 40)) mNil))) (mC (.int 5))) (mCons (mOp gSub (mCall F_law_roll [] (mCons (mVar 1) (mCons (mC (.int 30)) mNil))) (mC (.int 5))) (mCons (mCall F_law_roll [] (mCons (mVar 1) (mCons (mC (.int 15)) mNil))) (mCons (mCall F_law_roll [] (mCons (mVar 1) (mCons (mC (.int 10)) mNil))) mNil))))) (gN 6))
def S2 : MS := (mAsg (mOp gIx (mFl (mCons (mTup (mCons (mC (.int 0)) (mCons (mC (.int 0)) (mCons (mVar 2) (mCons (mVar 3) mNil))))) (mCons (mTup (mCons (mCall F_law_roll [] (mCons (mVar 1) (mCons (mC (.int 10)) mNil))) (mCons (mCall F_law_roll [] (mCons (mVar 1) (mCons (mC (.int 10)) mNil))) (mCons (mCall F_law_roll [] (mCons (mVar 1) (mCons (mC (.int 20)) mNil))) (mCons (mCall F_law_roll [] (mCons (mVar 1) (mCons (mC (.int 20)) mNil))) mNil))))) mNil))) (mCall F_law_roll [] (mCons (mVar 1) (mCons (mC (.int 2)) mNil)))) (gN 7))
def S3 : MS := (mPar 8 9 (mCons (mOp gIx (mFl (mCons (mC (.str "red")) (mCons (mC (.str "none")) (mCons (mC (.str "blue")) mNil)))) (mCall F_law_roll [] (mCons (mVar 1) (mCons (mC (.int 3)) mNil)))) (mCons (mCall F_law_roll [] (mCons (mVar 1) (mCons (mC (.int 50)) mNil))) mNil)))
def S4 : MS := (mAsg (mTup (mCons (mBlt fMax (mCons (mC (.int 0)) (mCons (mOp gIx (mVar 7) (mC (.int 0))) mNil))) (mCons (mBlt fMax (mCons (mC (.int 0)) (mCons (mOp gIx (mVar 7) (mC (.int 1))) mNil))) (mCons (mOp gSub (mBlt fMin (mCons (mVar 2) (mCons (mOp gAdd (mOp gIx (mVar 7) (mC (.int 0))) (mOp gIx (mVar 7) (mC (.int 2)))) mNil))) (mBlt fMax (mCons (mC (.int 0)) (mCons (mOp gIx (mVar 7) (mC (.int 0))) mNil)))) (mCons (mOp gSub (mBlt fMin (mCons (mVar 3) (mCons (mOp gAdd (mOp gIx (mVar 7) (mC (.int 1))) (mOp gIx (mVar 7) (mC (.int 3)))) mNil))) (mBlt fMax (mCons (mC (.int 0)) (mCons (mOp gIx (mVar 7) (mC (.int 1))) mNil)))) mNil))))) (gN 10))
def STEP : MS := mSeq S1 (mSeq S2 (mSeq S3 (mSeq S4 TAIL)))
theorem e_f20 {a b : LV} {L : LH} : gIx (.fl [a, b]) (.int 0) L = .ok a L := rfl
theorem e_f21 {a b : LV} {L : LH} : gIx (.fl [a, b]) (.int 1) L = .ok b L := rfl
theorem e_f30 {a b c : LV} {L : LH} : gIx (.fl [a, b, c]) (.int 0) L = .ok a L := rfl
theorem e_f31 {a b c : LV} {L : LH} : gIx (.fl [a, b, c]) (.int 1) L = .ok b L := rfl
theorem e_f32 {a b c : LV} {L : LH} : gIx (.fl [a, b, c]) (.int 2) L = .ok c L := rfl
section
variable {w h : Int} {m : Nat} {x0 x5 x6 x7 x8 x9 x10 x11 x12 x13 x14 x15 x16 x17 x18 x19 x20 x21 x23 x24 : Option LV} {R : LH} {x y z : Int} {DD : EW}
theorem s1_ok (k : ∀ (a : A4) x y z, -5 ≤ a.l ∧ a.l ≤ 40 ∧ -5 ≤ a.t ∧ a.t ≤ 40 ∧ 0 ≤ a.w ∧ a.w ≤ 15 ∧ 0 ≤ a.h ∧ a.h ≤ 10 → DD.nx [x0, some (.ref 0), some (.int w), some (.int h), some (.ref 1), x5, some a.v, x7, x8, x9, x10, x11, x12, x13, x14, x15, x16, x17, x18, x19, x20, x21, some (.ref 2), x23, x24] (.lst [.int x, .int y, .int z] :: R)) :
    WS (S1 [x0, some (.ref 0), some (.int w), some (.int h), some (.ref 1), x5, x6, x7, x8, x9, x10, x11, x12, x13, x14, x15, x16, x17, x18, x19, x20, x21, some (.ref 2), x23, x24] (.lst [.int x, .int y, .int z] :: R)) DD := by
  unfold S1
  try simp only [WP_bind, WP_ok, WP_no, WP_ite, WS_lift', WS_next, WS_ret, WS_brk, WS_cont, WS_seq, WS_ite, WP_call, mSeq, mIfS, mAsg, mRet, mRetN, mSetIx, mDrop, mOr, mAnd, mNot, mTest, mOp, mVar, mC, mCons, mNil, mBlt, mTup, mFl, mLst, mIf, mUn, mNotV, mAndV, mOrV, toB, mSkip, mBreak, mCont, mPar, e_gI, e_gIc, e_gMul, e_gAdd, e_gCmp, e_gEq, e_gEqS, e_ix30, e_ix31, e_ix32, e_set30, e_set31, e_set32, e_t40, e_t41, e_t42, e_t43, Bool.false_eq_true, gN, gT, gNil, gCons, Option.bind_some, Option.bind_none, fAbs, fMax, fMin, fInt,   List.map_cons, List.map_nil, List.cons_append, List.nil_append, List.length_cons, List.length_nil, List.replicate, List.set_cons_succ, List.set_cons_zero, List.getElem?_cons_succ, List.getElem?_cons_zero, Nat.reduceSub, Nat.reduceAdd, Nat.reduceLeDiff, if_true, if_false, true_and, and_true, false_and, and_false, mChain, mRaise, mBM, mFld, mDGet1, mDGet2, mDPut, mSetFld, mMeth, mCall, mMake, mDNew, isNon, mFor, mI, mIt, mLc, mYes, mTupG, gTupG, mSl, mNoP, mPart, mJoin, wipeL, List.append_nil, Bool.not_true, Bool.not_false, decide_true, true_implies, false_implies, implies_true, reduceCtorEq, Bool.true_eq_false, Bool.and_true, Bool.true_and, WP_exc, WS_exc, if_true]
  refine roll_ok (by decide) (by decide) fun a x y z a0 a1 => ?_
  try simp only [WP_bind, WP_ok, WP_no, WP_ite, WS_lift', WS_next, WS_ret, WS_brk, WS_cont, WS_seq, WS_ite, WP_call, mSeq, mIfS, mAsg, mRet, mRetN, mSetIx, mDrop, mOr, mAnd, mNot, mTest, mOp, mVar, mC, mCons, mNil, mBlt, mTup, mFl, mLst, mIf, mUn, mNotV, mAndV, mOrV, toB, mSkip, mBreak, mCont, mPar, e_gI, e_gIc, e_gMul, e_gAdd, e_gCmp, e_gEq, e_gEqS, e_ix30, e_ix31, e_ix32, e_set30, e_set31, e_set32, e_t40, e_t41, e_t42, e_t43, Bool.false_eq_true, gN, gT, gNil, gCons, Option.bind_some, Option.bind_none, fAbs, fMax, fMin, fInt,   List.map_cons, List.map_nil, List.cons_append, List.nil_append, List.length_cons, List.length_nil, List.replicate, List.set_cons_succ, List.set_cons_zero, List.getElem?_cons_succ, List.getElem?_cons_zero, Nat.reduceSub, Nat.reduceAdd, Nat.reduceLeDiff, if_true, if_false, true_and, and_true, false_and, and_false, mChain, mRaise, mBM, mFld, mDGet1, mDGet2, mDPut, mSetFld, mMeth, mCall, mMake, mDNew, isNon, mFor, mI, mIt, mLc, mYes, mTupG, gTupG, mSl, mNoP, mPart, mJoin, wipeL, List.append_nil, Bool.not_true, Bool.not_false, decide_true, true_implies, false_implies, implies_true, reduceCtorEq, Bool.true_eq_false, Bool.and_true, Bool.true_and, WP_exc, WS_exc, if_true]
  refine roll_ok (by decide) (by decide) fun b x y z b0 b1 => ?_
  try simp only [WP_bind, WP_ok, WP_no, WP_ite, WS_lift', WS_next, WS_ret, WS_brk, WS_cont, WS_seq, WS_ite, WP_call, mSeq, mIfS, mAsg, mRet, mRetN, mSetIx, mDrop, mOr, mAnd, mNot, mTest, mOp, mVar, mC, mCons, mNil, mBlt, mTup, mFl, mLst, mIf, mUn, mNotV, mAndV, mOrV, toB, mSkip, mBreak, mCont, mPar, e_gI, e_gIc, e_gMul, e_gAdd, e_gCmp, e_gEq, e_gEqS, e_ix30, e_ix31, e_ix32, e_set30, e_set31, e_set32, e_t40, e_t41, e_t42, e_t43, Bool.false_eq_true, gN, gT, gNil, gCons, Option.bind_some, Option.bind_none, fAbs, fMax, fMin, fInt,   List.map_cons, List.map_nil, List.cons_append, List.nil_append, List.length_cons, List.length_nil, List.replicate, List.set_cons_succ, List.set_cons_zero, List.getElem?_cons_succ, List.getElem?_cons_zero, Nat.reduceSub, Nat.reduceAdd, Nat.reduceLeDiff, if_true, if_false, true_and, and_true, false_and, and_false, mChain, mRaise, mBM, mFld, mDGet1, mDGet2, mDPut, mSetFld, mMeth, mCall, mMake, mDNew, isNon, mFor, mI, mIt, mLc, mYes, mTupG, gTupG, mSl, mNoP, mPart, mJoin, wipeL, List.append_nil, Bool.not_true, Bool.not_false, decide_true, true_implies, false_implies, implies_true, reduceCtorEq, Bool.true_eq_false, Bool.and_true, Bool.true_and, WP_exc, WS_exc, if_true]
  refine roll_ok (by decide) (by decide) fun c x y z c0 c1 => ?_
  try simp only [WP_bind, WP_ok, WP_no, WP_ite, WS_lift', WS_next, WS_ret, WS_brk, WS_cont, WS_seq, WS_ite, WP_call, mSeq, mIfS, mAsg, mRet, mRetN, mSetIx, mDrop, mOr, mAnd, mNot, mTest, mOp, mVar, mC, mCons, mNil, mBlt, mTup, mFl, mLst, mIf, mUn, mNotV, mAndV, mOrV, toB, mSkip, mBreak, mCont, mPar, e_gI, e_gIc, e_gMul, e_gAdd, e_gCmp, e_gEq, e_gEqS, e_ix30, e_ix31, e_ix32, e_set30, e_set31, e_set32, e_t40, e_t41, e_t42, e_t43, Bool.false_eq_true, gN, gT, gNil, gCons, Option.bind_some, Option.bind_none, fAbs, fMax, fMin, fInt,   List.map_cons, List.map_nil, List.cons_append, List.nil_append, List.length_cons, List.length_nil, List.replicate, List.set_cons_succ, List.set_cons_zero, List.getElem?_cons_succ, List.getElem?_cons_zero, Nat.reduceSub, Nat.reduceAdd, Nat.reduceLeDiff, if_true, if_false, true_and, and_true, false_and, and_false, mChain, mRaise, mBM, mFld, mDGet1, mDGet2, mDPut, mSetFld, mMeth, mCall, mMake, mDNew, isNon, mFor, mI, mIt, mLc, mYes, mTupG, gTupG, mSl, mNoP, mPart, mJoin, wipeL, List.append_nil, Bool.not_true, Bool.not_false, decide_true, true_implies, false_implies, implies_true, reduceCtorEq, Bool.true_eq_false, Bool.and_true, Bool.true_and, WP_exc, WS_exc, if_true]
  refine roll_ok (by decide) (by decide) fun d x y z d0 d1 => ?_
  try simp only [WP_bind, WP_ok, WP_no, WP_ite, WS_lift', WS_next, WS_ret, WS_brk, WS_cont, WS_seq, WS_ite, WP_call, mSeq, mIfS, mAsg, mRet, mRetN, mSetIx, mDrop, mOr, mAnd, mNot, mTest, mOp, mVar, mC, mCons, mNil, mBlt, mTup, mFl, mLst, mIf, mUn, mNotV, mAndV, mOrV, toB, mSkip, mBreak, mCont, mPar, e_gI, e_gIc, e_gMul, e_gAdd, e_gCmp, e_gEq, e_gEqS, e_ix30, e_ix31, e_ix32, e_set30, e_set31, e_set32, e_t40, e_t41, e_t42, e_t43, Bool.false_eq_true, gN, gT, gNil, gCons, Option.bind_some, Option.bind_none, fAbs, fMax, fMin, fInt,   List.map_cons, List.map_nil, List.cons_append, List.nil_append, List.length_cons, List.length_nil, List.replicate, List.set_cons_succ, List.set_cons_zero, List.getElem?_cons_succ, List.getElem?_cons_zero, Nat.reduceSub, Nat.reduceAdd, Nat.reduceLeDiff, if_true, if_false, true_and, and_true, false_and, and_false, mChain, mRaise, mBM, mFld, mDGet1, mDGet2, mDPut, mSetFld, mMeth, mCall, mMake, mDNew, isNon, mFor, mI, mIt, mLc, mYes, mTupG, gTupG, mSl, mNoP, mPart, mJoin, wipeL, List.append_nil, Bool.not_true, Bool.not_false, decide_true, true_implies, false_implies, implies_true, reduceCtorEq, Bool.true_eq_false, Bool.and_true, Bool.true_and, WP_exc, WS_exc, if_true]
  exact k ⟨a - 5, b - 5, c, d⟩ _ _ _ ⟨by show -5 ≤ a - 5; omega, by show a - 5 ≤ 40; omega, by show -5 ≤ b - 5; omega, by show b - 5 ≤ 40; omega, c0, by show c ≤ 15; omega, d0, by show d ≤ 10; omega⟩
theorem s2_ok (k : ∀ (a : A4) x y z, a.l ≤ 40 ∧ a.t ≤ 40 → DD.nx [x0, some (.ref 0), some (.int w), some (.int h), some (.ref 1), x5, x6, some a.v, x8, x9, x10, x11, x12, x13, x14, x15, x16, x17, x18, x19, x20, x21, some (.ref 2), x23, x24] (.lst [.int x, .int y, .int z] :: R)) :
    WS (S2 [x0, some (.ref 0), some (.int w), some (.int h), some (.ref 1), x5, x6, x7, x8, x9, x10, x11, x12, x13, x14, x15, x16, x17, x18, x19, x20, x21, some (.ref 2), x23, x24] (.lst [.int x, .int y, .int z] :: R)) DD := by
  unfold S2
  try simp only [WP_bind, WP_ok, WP_no, WP_ite, WS_lift', WS_next, WS_ret, WS_brk, WS_cont, WS_seq, WS_ite, WP_call, mSeq, mIfS, mAsg, mRet, mRetN, mSetIx, mDrop, mOr, mAnd, mNot, mTest, mOp, mVar, mC, mCons, mNil, mBlt, mTup, mFl, mLst, mIf, mUn, mNotV, mAndV, mOrV, toB, mSkip, mBreak, mCont, mPar, e_gI, e_gIc, e_gMul, e_gAdd, e_gCmp, e_gEq, e_gEqS, e_ix30, e_ix31, e_ix32, e_set30, e_set31, e_set32, e_t40, e_t41, e_t42, e_t43, Bool.false_eq_true, gN, gT, gNil, gCons, Option.bind_some, Option.bind_none, fAbs, fMax, fMin, fInt,   List.map_cons, List.map_nil, List.cons_append, List.nil_append, List.length_cons, List.length_nil, List.replicate, List.set_cons_succ, List.set_cons_zero, List.getElem?_cons_succ, List.getElem?_cons_zero, Nat.reduceSub, Nat.reduceAdd, Nat.reduceLeDiff, if_true, if_false, true_and, and_true, false_and, and_false, mChain, mRaise, mBM, mFld, mDGet1, mDGet2, mDPut, mSetFld, mMeth, mCall, mMake, mDNew, isNon, mFor, mI, mIt, mLc, mYes, mTupG, gTupG, mSl, mNoP, mPart, mJoin, wipeL, List.append_nil, Bool.not_true, Bool.not_false, decide_true, true_implies, false_implies, implies_true, reduceCtorEq, Bool.true_eq_false, Bool.and_true, Bool.true_and, WP_exc, WS_exc, if_true]
  refine roll_ok (by decide) (by decide) fun a x y z a0 a1 => ?_
  try simp only [WP_bind, WP_ok, WP_no, WP_ite, WS_lift', WS_next, WS_ret, WS_brk, WS_cont, WS_seq, WS_ite, WP_call, mSeq, mIfS, mAsg, mRet, mRetN, mSetIx, mDrop, mOr, mAnd, mNot, mTest, mOp, mVar, mC, mCons, mNil, mBlt, mTup, mFl, mLst, mIf, mUn, mNotV, mAndV, mOrV, toB, mSkip, mBreak, mCont, mPar, e_gI, e_gIc, e_gMul, e_gAdd, e_gCmp, e_gEq, e_gEqS, e_ix30, e_ix31, e_ix32, e_set30, e_set31, e_set32, e_t40, e_t41, e_t42, e_t43, Bool.false_eq_true, gN, gT, gNil, gCons, Option.bind_some, Option.bind_none, fAbs, fMax, fMin, fInt,   List.map_cons, List.map_nil, List.cons_append, List.nil_append, List.length_cons, List.length_nil, List.replicate, List.set_cons_succ, List.set_cons_zero, List.getElem?_cons_succ, List.getElem?_cons_zero, Nat.reduceSub, Nat.reduceAdd, Nat.reduceLeDiff, if_true, if_false, true_and, and_true, false_and, and_false, mChain, mRaise, mBM, mFld, mDGet1, mDGet2, mDPut, mSetFld, mMeth, mCall, mMake, mDNew, isNon, mFor, mI, mIt, mLc, mYes, mTupG, gTupG, mSl, mNoP, mPart, mJoin, wipeL, List.append_nil, Bool.not_true, Bool.not_false, decide_true, true_implies, false_implies, implies_true, reduceCtorEq, Bool.true_eq_false, Bool.and_true, Bool.true_and, WP_exc, WS_exc, if_true]
  refine roll_ok (by decide) (by decide) fun b x y z b0 b1 => ?_
  try simp only [WP_bind, WP_ok, WP_no, WP_ite, WS_lift', WS_next, WS_ret, WS_brk, WS_cont, WS_seq, WS_ite, WP_call, mSeq, mIfS, mAsg, mRet, mRetN, mSetIx, mDrop, mOr, mAnd, mNot, mTest, mOp, mVar, mC, mCons, mNil, mBlt, mTup, mFl, mLst, mIf, mUn, mNotV, mAndV, mOrV, toB, mSkip, mBreak, mCont, mPar, e_gI, e_gIc, e_gMul, e_gAdd, e_gCmp, e_gEq, e_gEqS, e_ix30, e_ix31, e_ix32, e_set30, e_set31, e_set32, e_t40, e_t41, e_t42, e_t43, Bool.false_eq_true, gN, gT, gNil, gCons, Option.bind_some, Option.bind_none, fAbs, fMax, fMin, fInt,   List.map_cons, List.map_nil, List.cons_append, List.nil_append, List.length_cons, List.length_nil, List.replicate, List.set_cons_succ, List.set_cons_zero, List.getElem?_cons_succ, List.getElem?_cons_zero, Nat.reduceSub, Nat.reduceAdd, Nat.reduceLeDiff, if_true, if_false, true_and, and_true, false_and, and_false, mChain, mRaise, mBM, mFld, mDGet1, mDGet2, mDPut, mSetFld, mMeth, mCall, mMake, mDNew, isNon, mFor, mI, mIt, mLc, mYes, mTupG, gTupG, mSl, mNoP, mPart, mJoin, wipeL, List.append_nil, Bool.not_true, Bool.not_false, decide_true, true_implies, false_implies, implies_true, reduceCtorEq, Bool.true_eq_false, Bool.and_true, Bool.true_and, WP_exc, WS_exc, if_true]
  refine roll_ok (by decide) (by decide) fun c x y z c0 c1 => ?_
  try simp only [WP_bind, WP_ok, WP_no, WP_ite, WS_lift', WS_next, WS_ret, WS_brk, WS_cont, WS_seq, WS_ite, WP_call, mSeq, mIfS, mAsg, mRet, mRetN, mSetIx, mDrop, mOr, mAnd, mNot, mTest, mOp, mVar, mC, mCons, mNil, mBlt, mTup, mFl, mLst, mIf, mUn, mNotV, mAndV, mOrV, toB, mSkip, mBreak, mCont, mPar, e_gI, e_gIc, e_gMul, e_gAdd, e_gCmp, e_gEq, e_gEqS, e_ix30, e_ix31, e_ix32, e_set30, e_set31, e_set32, e_t40, e_t41, e_t42, e_t43, Bool.false_eq_true, gN, gT, gNil, gCons, Option.bind_some, Option.bind_none, fAbs, fMax, fMin, fInt,   List.map_cons, List.map_nil, List.cons_append, List.nil_append, List.length_cons, List.length_nil, List.replicate, List.set_cons_succ, List.set_cons_zero, List.getElem?_cons_succ, List.getElem?_cons_zero, Nat.reduceSub, Nat.reduceAdd, Nat.reduceLeDiff, if_true, if_false, true_and, and_true, false_and, and_false, mChain, mRaise, mBM, mFld, mDGet1, mDGet2, mDPut, mSetFld, mMeth, mCall, mMake, mDNew, isNon, mFor, mI, mIt, mLc, mYes, mTupG, gTupG, mSl, mNoP, mPart, mJoin, wipeL, List.append_nil, Bool.not_true, Bool.not_false, decide_true, true_implies, false_implies, implies_true, reduceCtorEq, Bool.true_eq_false, Bool.and_true, Bool.true_and, WP_exc, WS_exc, if_true]
  refine roll_ok (by decide) (by decide) fun d x y z d0 d1 => ?_
  try simp only [WP_bind, WP_ok, WP_no, WP_ite, WS_lift', WS_next, WS_ret, WS_brk, WS_cont, WS_seq, WS_ite, WP_call, mSeq, mIfS, mAsg, mRet, mRetN, mSetIx, mDrop, mOr, mAnd, mNot, mTest, mOp, mVar, mC, mCons, mNil, mBlt, mTup, mFl, mLst, mIf, mUn, mNotV, mAndV, mOrV, toB, mSkip, mBreak, mCont, mPar, e_gI, e_gIc, e_gMul, e_gAdd, e_gCmp, e_gEq, e_gEqS, e_ix30, e_ix31, e_ix32, e_set30, e_set31, e_set32, e_t40, e_t41, e_t42, e_t43, Bool.false_eq_true, gN, gT, gNil, gCons, Option.bind_some, Option.bind_none, fAbs, fMax, fMin, fInt,   List.map_cons, List.map_nil, List.cons_append, List.nil_append, List.length_cons, List.length_nil, List.replicate, List.set_cons_succ, List.set_cons_zero, List.getElem?_cons_succ, List.getElem?_cons_zero, Nat.reduceSub, Nat.reduceAdd, Nat.reduceLeDiff, if_true, if_false, true_and, and_true, false_and, and_false, mChain, mRaise, mBM, mFld, mDGet1, mDGet2, mDPut, mSetFld, mMeth, mCall, mMake, mDNew, isNon, mFor, mI, mIt, mLc, mYes, mTupG, gTupG, mSl, mNoP, mPart, mJoin, wipeL, List.append_nil, Bool.not_true, Bool.not_false, decide_true, true_implies, false_implies, implies_true, reduceCtorEq, Bool.true_eq_false, Bool.and_true, Bool.true_and, WP_exc, WS_exc, if_true]
  refine roll_ok (by decide) (by decide) fun e x y z e0 e1 => ?_
  have : e = 0 ∨ e = 1 := by omega
  rcases this with rfl | rfl
  · simp only [WP_bind, WP_ok, WP_no, WP_ite, WS_lift', WS_next, WS_ret, WS_brk, WS_cont, WS_seq, WS_ite, WP_call, mSeq, mIfS, mAsg, mRet, mRetN, mSetIx, mDrop, mOr, mAnd, mNot, mTest, mOp, mVar, mC, mCons, mNil, mBlt, mTup, mFl, mLst, mIf, mUn, mNotV, mAndV, mOrV, toB, mSkip, mBreak, mCont, mPar, e_gI, e_gIc, e_gMul, e_gAdd, e_gCmp, e_gEq, e_gEqS, e_ix30, e_ix31, e_ix32, e_set30, e_set31, e_set32, e_t40, e_t41, e_t42, e_t43, Bool.false_eq_true, gN, gT, gNil, gCons, Option.bind_some, Option.bind_none, fAbs, fMax, fMin, fInt,   List.map_cons, List.map_nil, List.cons_append, List.nil_append, List.length_cons, List.length_nil, List.replicate, List.set_cons_succ, List.set_cons_zero, List.getElem?_cons_succ, List.getElem?_cons_zero, Nat.reduceSub, Nat.reduceAdd, Nat.reduceLeDiff, if_true, if_false, true_and, and_true, false_and, and_false, mChain, mRaise, mBM, mFld, mDGet1, mDGet2, mDPut, mSetFld, mMeth, mCall, mMake, mDNew, isNon, mFor, mI, mIt, mLc, mYes, mTupG, gTupG, mSl, mNoP, mPart, mJoin, wipeL, List.append_nil, Bool.not_true, Bool.not_false, decide_true, true_implies, false_implies, implies_true, reduceCtorEq, Bool.true_eq_false, Bool.and_true, Bool.true_and, WP_exc, WS_exc, e_f20]
    exact k ⟨0, 0, w, h⟩ _ _ _ ⟨by show (0 : Int) ≤ 40; omega, by show (0 : Int) ≤ 40; omega⟩
  · simp only [WP_bind, WP_ok, WP_no, WP_ite, WS_lift', WS_next, WS_ret, WS_brk, WS_cont, WS_seq, WS_ite, WP_call, mSeq, mIfS, mAsg, mRet, mRetN, mSetIx, mDrop, mOr, mAnd, mNot, mTest, mOp, mVar, mC, mCons, mNil, mBlt, mTup, mFl, mLst, mIf, mUn, mNotV, mAndV, mOrV, toB, mSkip, mBreak, mCont, mPar, e_gI, e_gIc, e_gMul, e_gAdd, e_gCmp, e_gEq, e_gEqS, e_ix30, e_ix31, e_ix32, e_set30, e_set31, e_set32, e_t40, e_t41, e_t42, e_t43, Bool.false_eq_true, gN, gT, gNil, gCons, Option.bind_some, Option.bind_none, fAbs, fMax, fMin, fInt,   List.map_cons, List.map_nil, List.cons_append, List.nil_append, List.length_cons, List.length_nil, List.replicate, List.set_cons_succ, List.set_cons_zero, List.getElem?_cons_succ, List.getElem?_cons_zero, Nat.reduceSub, Nat.reduceAdd, Nat.reduceLeDiff, if_true, if_false, true_and, and_true, false_and, and_false, mChain, mRaise, mBM, mFld, mDGet1, mDGet2, mDPut, mSetFld, mMeth, mCall, mMake, mDNew, isNon, mFor, mI, mIt, mLc, mYes, mTupG, gTupG, mSl, mNoP, mPart, mJoin, wipeL, List.append_nil, Bool.not_true, Bool.not_false, decide_true, true_implies, false_implies, implies_true, reduceCtorEq, Bool.true_eq_false, Bool.and_true, Bool.true_and, WP_exc, WS_exc, e_f21]
    exact k ⟨a, b, c, d⟩ _ _ _ ⟨by show a ≤ 40; omega, by show b ≤ 40; omega⟩
theorem s3_ok (k : ∀ (col : Str) (num x y z : Int), PyData.strOk col = true → DD.nx [x0, some (.ref 0), some (.int w), some (.int h), some (.ref 1), x5, x6, x7, some (.str col), some (.int num), x10, x11, x12, x13, x14, x15, x16, x17, x18, x19, x20, x21, some (.ref 2), x23, x24] (.lst [.int x, .int y, .int z] :: R)) :
    WS (S3 [x0, some (.ref 0), some (.int w), some (.int h), some (.ref 1), x5, x6, x7, x8, x9, x10, x11, x12, x13, x14, x15, x16, x17, x18, x19, x20, x21, some (.ref 2), x23, x24] (.lst [.int x, .int y, .int z] :: R)) DD := by
  unfold S3
  try simp only [WP_bind, WP_ok, WP_no, WP_ite, WS_lift', WS_next, WS_ret, WS_brk, WS_cont, WS_seq, WS_ite, WP_call, mSeq, mIfS, mAsg, mRet, mRetN, mSetIx, mDrop, mOr, mAnd, mNot, mTest, mOp, mVar, mC, mCons, mNil, mBlt, mTup, mFl, mLst, mIf, mUn, mNotV, mAndV, mOrV, toB, mSkip, mBreak, mCont, mPar, e_gI, e_gIc, e_gMul, e_gAdd, e_gCmp, e_gEq, e_gEqS, e_ix30, e_ix31, e_ix32, e_set30, e_set31, e_set32, e_t40, e_t41, e_t42, e_t43, Bool.false_eq_true, gN, gT, gNil, gCons, Option.bind_some, Option.bind_none, fAbs, fMax, fMin, fInt,   List.map_cons, List.map_nil, List.cons_append, List.nil_append, List.length_cons, List.length_nil, List.replicate, List.set_cons_succ, List.set_cons_zero, List.getElem?_cons_succ, List.getElem?_cons_zero, Nat.reduceSub, Nat.reduceAdd, Nat.reduceLeDiff, if_true, if_false, true_and, and_true, false_and, and_false, mChain, mRaise, mBM, mFld, mDGet1, mDGet2, mDPut, mSetFld, mMeth, mCall, mMake, mDNew, isNon, mFor, mI, mIt, mLc, mYes, mTupG, gTupG, mSl, mNoP, mPart, mJoin, wipeL, List.append_nil, Bool.not_true, Bool.not_false, decide_true, true_implies, false_implies, implies_true, reduceCtorEq, Bool.true_eq_false, Bool.and_true, Bool.true_and, WP_exc, WS_exc, if_true]
  refine roll_ok (by decide) (by decide) fun a x y z a0 a1 => ?_
  have : a = 0 ∨ a = 1 ∨ a = 2 := by omega
  rcases this with rfl | rfl | rfl
  · simp only [WP_bind, WP_ok, WP_no, WP_ite, WS_lift', WS_next, WS_ret, WS_brk, WS_cont, WS_seq, WS_ite, WP_call, mSeq, mIfS, mAsg, mRet, mRetN, mSetIx, mDrop, mOr, mAnd, mNot, mTest, mOp, mVar, mC, mCons, mNil, mBlt, mTup, mFl, mLst, mIf, mUn, mNotV, mAndV, mOrV, toB, mSkip, mBreak, mCont, mPar, e_gI, e_gIc, e_gMul, e_gAdd, e_gCmp, e_gEq, e_gEqS, e_ix30, e_ix31, e_ix32, e_set30, e_set31, e_set32, e_t40, e_t41, e_t42, e_t43, Bool.false_eq_true, gN, gT, gNil, gCons, Option.bind_some, Option.bind_none, fAbs, fMax, fMin, fInt,   List.map_cons, List.map_nil, List.cons_append, List.nil_append, List.length_cons, List.length_nil, List.replicate, List.set_cons_succ, List.set_cons_zero, List.getElem?_cons_succ, List.getElem?_cons_zero, Nat.reduceSub, Nat.reduceAdd, Nat.reduceLeDiff, if_true, if_false, true_and, and_true, false_and, and_false, mChain, mRaise, mBM, mFld, mDGet1, mDGet2, mDPut, mSetFld, mMeth, mCall, mMake, mDNew, isNon, mFor, mI, mIt, mLc, mYes, mTupG, gTupG, mSl, mNoP, mPart, mJoin, wipeL, List.append_nil, Bool.not_true, Bool.not_false, decide_true, true_implies, false_implies, implies_true, reduceCtorEq, Bool.true_eq_false, Bool.and_true, Bool.true_and, WP_exc, WS_exc, e_f30]
    refine roll_ok (by decide) (by decide) fun b x y z b0 b1 => ?_
    exact k _ _ _ _ _ (by decide +kernel)
  · simp only [WP_bind, WP_ok, WP_no, WP_ite, WS_lift', WS_next, WS_ret, WS_brk, WS_cont, WS_seq, WS_ite, WP_call, mSeq, mIfS, mAsg, mRet, mRetN, mSetIx, mDrop, mOr, mAnd, mNot, mTest, mOp, mVar, mC, mCons, mNil, mBlt, mTup, mFl, mLst, mIf, mUn, mNotV, mAndV, mOrV, toB, mSkip, mBreak, mCont, mPar, e_gI, e_gIc, e_gMul, e_gAdd, e_gCmp, e_gEq, e_gEqS, e_ix30, e_ix31, e_ix32, e_set30, e_set31, e_set32, e_t40, e_t41, e_t42, e_t43, Bool.false_eq_true, gN, gT, gNil, gCons, Option.bind_some, Option.bind_none, fAbs, fMax, fMin, fInt,   List.map_cons, List.map_nil, List.cons_append, List.nil_append, List.length_cons, List.length_nil, List.replicate, List.set_cons_succ, List.set_cons_zero, List.getElem?_cons_succ, List.getElem?_cons_zero, Nat.reduceSub, Nat.reduceAdd, Nat.reduceLeDiff, if_true, if_false, true_and, and_true, false_and, and_false, mChain, mRaise, mBM, mFld, mDGet1, mDGet2, mDPut, mSetFld, mMeth, mCall, mMake, mDNew, isNon, mFor, mI, mIt, mLc, mYes, mTupG, gTupG, mSl, mNoP, mPart, mJoin, wipeL, List.append_nil, Bool.not_true, Bool.not_false, decide_true, true_implies, false_implies, implies_true, reduceCtorEq, Bool.true_eq_false, Bool.and_true, Bool.true_and, WP_exc, WS_exc, e_f31]
    refine roll_ok (by decide) (by decide) fun b x y z b0 b1 => ?_
    exact k _ _ _ _ _ (by decide +kernel)
  · simp only [WP_bind, WP_ok, WP_no, WP_ite, WS_lift', WS_next, WS_ret, WS_brk, WS_cont, WS_seq, WS_ite, WP_call, mSeq, mIfS, mAsg, mRet, mRetN, mSetIx, mDrop, mOr, mAnd, mNot, mTest, mOp, mVar, mC, mCons, mNil, mBlt, mTup, mFl, mLst, mIf, mUn, mNotV, mAndV, mOrV, toB, mSkip, mBreak, mCont, mPar, e_gI, e_gIc, e_gMul, e_gAdd, e_gCmp, e_gEq, e_gEqS, e_ix30, e_ix31, e_ix32, e_set30, e_set31, e_set32, e_t40, e_t41, e_t42, e_t43, Bool.false_eq_true, gN, gT, gNil, gCons, Option.bind_some, Option.bind_none, fAbs, fMax, fMin, fInt,   List.map_cons, List.map_nil, List.cons_append, List.nil_append, List.length_cons, List.length_nil, List.replicate, List.set_cons_succ, List.set_cons_zero, List.getElem?_cons_succ, List.getElem?_cons_zero, Nat.reduceSub, Nat.reduceAdd, Nat.reduceLeDiff, if_true, if_false, true_and, and_true, false_and, and_false, mChain, mRaise, mBM, mFld, mDGet1, mDGet2, mDPut, mSetFld, mMeth, mCall, mMake, mDNew, isNon, mFor, mI, mIt, mLc, mYes, mTupG, gTupG, mSl, mNoP, mPart, mJoin, wipeL, List.append_nil, Bool.not_true, Bool.not_false, decide_true, true_implies, false_implies, implies_true, reduceCtorEq, Bool.true_eq_false, Bool.and_true, Bool.true_and, WP_exc, WS_exc, e_f32]
    refine roll_ok (by decide) (by decide) fun b x y z b0 b1 => ?_
    exact k _ _ _ _ _ (by decide +kernel)
theorem s4_ok {a : A4} (k : DD.nx [x0, some (.ref 0), some (.int w), some (.int h), some (.ref 1), x5, x6, some a.v, x8, x9, some (whole w h a).v, x11, x12, x13, x14, x15, x16, x17, x18, x19, x20, x21, some (.ref 2), x23, x24] (.lst [.int x, .int y, .int z] :: R)) :
    WS (S4 [x0, some (.ref 0), some (.int w), some (.int h), some (.ref 1), x5, x6, some a.v, x8, x9, x10, x11, x12, x13, x14, x15, x16, x17, x18, x19, x20, x21, some (.ref 2), x23, x24] (.lst [.int x, .int y, .int z] :: R)) DD := by
  unfold S4
  try simp only [WP_bind, WP_ok, WP_no, WP_ite, WS_lift', WS_next, WS_ret, WS_brk, WS_cont, WS_seq, WS_ite, WP_call, mSeq, mIfS, mAsg, mRet, mRetN, mSetIx, mDrop, mOr, mAnd, mNot, mTest, mOp, mVar, mC, mCons, mNil, mBlt, mTup, mFl, mLst, mIf, mUn, mNotV, mAndV, mOrV, toB, mSkip, mBreak, mCont, mPar, e_gI, e_gIc, e_gMul, e_gAdd, e_gCmp, e_gEq, e_gEqS, e_ix30, e_ix31, e_ix32, e_set30, e_set31, e_set32, e_t40, e_t41, e_t42, e_t43, Bool.false_eq_true, gN, gT, gNil, gCons, Option.bind_some, Option.bind_none, fAbs, fMax, fMin, fInt,   List.map_cons, List.map_nil, List.cons_append, List.nil_append, List.length_cons, List.length_nil, List.replicate, List.set_cons_succ, List.set_cons_zero, List.getElem?_cons_succ, List.getElem?_cons_zero, Nat.reduceSub, Nat.reduceAdd, Nat.reduceLeDiff, if_true, if_false, true_and, and_true, false_and, and_false, mChain, mRaise, mBM, mFld, mDGet1, mDGet2, mDPut, mSetFld, mMeth, mCall, mMake, mDNew, isNon, mFor, mI, mIt, mLc, mYes, mTupG, gTupG, mSl, mNoP, mPart, mJoin, wipeL, List.append_nil, Bool.not_true, Bool.not_false, decide_true, true_implies, false_implies, implies_true, reduceCtorEq, Bool.true_eq_false, Bool.and_true, Bool.true_and, WP_exc, WS_exc, if_true]
  exact k
end
theorem step_ok {w h : Int} {m : Nat} {s : Sl} {L : LH} {DD : EW} (hw : 0 ≤ w ∧ w ≤ 30) (hh : 0 ≤ h ∧ h ≤ 20) (hm : m < 100000) (hs : SI w h m s L) (hz : ∀ s L, SI w h (m + 600) s L → DD.nx s L) : WS (STEP s L) DD := by
  obtain ⟨x0, x5, x6, x7, x8, x9, x10, x11, x12, x13, x14, x15, x16, x17, x18, x19, x20, x21, x23, x24, x, y, z, D, C, f, rfl, rfl, kD, kC, kf⟩ := hs
  unfold STEP
  simp only [mSeq, WS_seq]
  refine s1_ok fun a x y z ha => ?_
  refine s2_ok fun k x y z hk => ?_
  refine s3_ok fun col num x y z hcol => ?_
  dsimp only
  refine s4_ok ?_
  dsimp only
  exact tail_ok (x10 := none) hw hh ha hk hm kD kC kf hcol hz
end Q.K07
end
section
set_option Elab.async false
set_option linter.all false
set_option maxRecDepth 100000
set_option maxHeartbeats 2000000
namespace Q.K07
open PySem L2 Q
theorem SI.gN5 {w h : Int} {m : Nat} {s : Sl} {L : LH} {v : LV} (hs : SI w h m s L) : ∃ s1, gN 5 v s = some s1 ∧ SI w h m s1 L := by
  obtain ⟨x0, x5, x6, x7, x8, x9, x10, x11, x12, x13, x14, x15, x16, x17, x18, x19, x20, x21, x23, x24, x, y, z, D, C, f, rfl, rfl, kD, kC, kf⟩ := hs
  exact ⟨_, rfl, x0, _, x6, x7, x8, x9, x10, x11, x12, x13, x14, x15, x16, x17, x18, x19, x20, x21, x23, x24, x, y, z, D, C, f, rfl, rfl, kD, kC, kf⟩
theorem steps_ok {w h : Int} {n : Nat} {s : Sl} {L : LH} {DD : EW} (hw : 0 ≤ w ∧ w ≤ 30) (hh : 0 ≤ h ∧ h ≤ 20) (hn : n ≤ 21) (hs : SI w h 0 s L) (hz : ∀ s L, SI w h (n * 600) s L → DD.nx s L) : WS (forGo (itR 0 n) (gN 5) STEP FUEL 0 s L) DD := by
  refine WS_for (n := n) (fun i s L => SI w h (i * 600) s L) (by unfold FUEL; omega) (fun i s L hi hs => ?_) (fun s L hs => ⟨itR_end, hz s L hs⟩) (by simpa using hs)
  obtain ⟨s1, e1, hs1⟩ := hs.gN5 (v := .int (0 + (i : Int)))
  refine ⟨_, s1, itR_at hi, e1, step_ok hw hh (by omega) hs1 fun s L q => ?_⟩
  show SI w h ((i + 1) * 600) s L
  rw [Nat.succ_mul]
  exact q
/-! ### what is due -/
/-- the cells of a row, by a function of the cell -/
def rowV (p : Int → Int → LV) (r : Int) (n : Nat) : List LV := (List.range n).map fun (k : Nat) => p k r
theorem rowV_succ (p : Int → Int → LV) (r : Int) (n : Nat) : rowV p r (n + 1) = rowV p r n ++ [p n r] := by
  unfold rowV
  rw [List.range_succ, List.map_append]
  rfl
def gridV (p : Int → Int → LV) (w n : Nat) : List LV := (List.range n).map fun (k : Nat) => .fl (rowV p k w)
theorem gridV_succ (p : Int → Int → LV) (w n : Nat) : gridV p w (n + 1) = gridV p w n ++ [.fl (rowV p n w)] := by
  unfold gridV
  rw [List.range_succ, List.map_append]
  rfl
theorem rowV_len {p : Int → Int → LV} {r : Int} {n : Nat} : (rowV p r n).length = n := by unfold rowV; simp
theorem gridV_len {p : Int → Int → LV} {w n : Nat} : (gridV p w n).length = n := by unfold gridV; simp
theorem rowV_at {p : Int → Int → LV} {r : Int} {n j : Nat} (hj : j < n) : (rowV p r n)[j]? = some (p j r) := by
  unfold rowV
  rw [List.getElem?_map, List.getElem?_range hj]
  rfl
theorem gridV_at {p : Int → Int → LV} {w n j : Nat} (hj : j < n) : (gridV p w n)[j]? = some (.fl (rowV p j w)) := by
  unfold gridV
  rw [List.getElem?_map, List.getElem?_range hj]
  rfl
/-- a grid by two comprehensions over the canvas's rows and columns; el gives p at each cell -/
theorem grid_ok {el : Sl → M LV} {s : Sl} {L : LH} {w h : Int} {p : Int → Int → LV} {Z : LV → LH → Prop} {fw fh : Sl → M (List LV)} {W H : Nat} (hw : w ≤ 1000) (hh : h ≤ 1000) (hW : w.toNat = W) (hH : h.toNat = H) (hw0 : 0 ≤ w) (hh0 : 0 ≤ h)
    (efh : fh s L = .ok [.int h] L) (efw : ∀ r, fw ((wipeL s [15]).set 15 (some (.int r))) L = .ok [.int w] L)
    (hel : ∀ c r : Int, 0 ≤ c → c < w → 0 ≤ r → r < h → ∀ Y : LV → LH → Prop, Y (p c r) L → WP (el ((wipeL ((wipeL s [15]).set 15 (some (.int r))) [16]).set 16 (some (.int c))) L) Y) (hz : Z (.fl (gridV p W H)) L) :
    WP (mLc (mI range1 fh) (gN 15) mYes (mLc (mI range1 fw) (gN 16) mYes el [16]) [15] s L) Z := by
  subst hW hH
  unfold mLc mI
  simp only [WP_bind, efh, WP_ok]
  refine range1_ok (by omega) (by omega) ?_
  refine WP_lc (n := h.toNat) (fun i acc L' => acc = gridV p w.toNat i ∧ L' = L) (by unfold FUEL; omega) (fun i acc L' hi ⟨e, _⟩ => by rw [e, gridV_len]; omega) ?_ ?_ ?_
  · rintro i acc L' hi ⟨rfl, rfl⟩
    refine ⟨_, _, itR_at hi, rfl, ?_⟩
    rw [show (0 + (i : Int)) = (i : Int) by omega]
    simp only [mYes, WP_ok, WP_bind, efw, if_true]
    refine range1_ok (by omega) (by omega) ?_
    refine WP_lc (n := w.toNat) (fun j acc L'' => acc = rowV p i j ∧ L'' = L') (by unfold FUEL; omega) (fun j acc L'' hj ⟨e, _⟩ => by rw [e, rowV_len]; omega) ?_ ?_ ?_
    · rintro j acc L'' hj ⟨rfl, rfl⟩
      refine ⟨_, _, itR_at hj, rfl, ?_⟩
      rw [show (0 + (j : Int)) = (j : Int) by omega]
      simp only [mYes, WP_ok, if_true]
      refine hel j i (by omega) (by omega) (by omega) (by omega) _ ?_
      exact ⟨(rowV_succ p i j).symm, rfl⟩
    · rintro acc L'' ⟨rfl, rfl⟩
      exact ⟨itR_end, (gridV_succ p w.toNat i).symm, rfl⟩
    · exact ⟨rfl, rfl⟩
  · rintro acc L' ⟨rfl, rfl⟩
    exact ⟨itR_end, hz⟩
  · exact ⟨rfl, rfl⟩
end Q.K07
end
section
set_option Elab.async false
set_option linter.all false
set_option maxRecDepth 100000
set_option maxHeartbeats 2000000
namespace Q.K07
open PySem L2 Q
/-- data of k levels -/
def Nice (k : Nat) (v : LV) (d : PyData) : Prop := toD v = some d ∧ d.canLay0 = true ∧ d.depth ≤ k
def NiceAll (k : Nat) (xs : List LV) (ds : List PyData) : Prop := toDs xs = some ds ∧ PyData.canLayAll0 ds = true ∧ PyData.depthAll ds ≤ k
theorem NiceAll.nil {k : Nat} : NiceAll k [] [] := ⟨rfl, rfl, Nat.zero_le _⟩
theorem NiceAll.cons {k : Nat} {v : LV} {d : PyData} {xs : List LV} {ds : List PyData} (a : Nice k v d) (b : NiceAll k xs ds) : NiceAll k (v :: xs) (d :: ds) := by
  obtain ⟨a1, a2, a3⟩ := a
  obtain ⟨b1, b2, b3⟩ := b
  refine ⟨by unfold toDs; rw [a1, b1], by unfold PyData.canLayAll0; rw [a2, b2]; rfl, ?_⟩
  simp only [PyData.depthAll]
  omega
theorem NiceAll.tup {k : Nat} {xs : List LV} {ds : List PyData} (b : NiceAll k xs ds) : Nice (k + 1) (.tup xs) (.tuple ds) := by
  obtain ⟨b1, b2, b3⟩ := b
  refine ⟨by unfold toD; rw [b1]; rfl, by unfold PyData.canLay0; exact b2, ?_⟩
  simp only [PyData.depth]
  omega
theorem NiceAll.st {k : Nat} {xs : List LV} {ds : List PyData} (b : NiceAll k xs ds) : Nice (k + 1) (.st xs) (.tuple ds) := by
  obtain ⟨b1, b2, b3⟩ := b
  refine ⟨by unfold toD; rw [b1]; rfl, by unfold PyData.canLay0; exact b2, ?_⟩
  simp only [PyData.depth]
  omega
theorem NiceAll.fl {k : Nat} {xs : List LV} {ds : List PyData} (b : NiceAll k xs ds) : Nice (k + 1) (.fl xs) (.list ds) := by
  obtain ⟨b1, b2, b3⟩ := b
  refine ⟨by unfold toD; rw [b1]; rfl, by unfold PyData.canLay0; exact b2, ?_⟩
  simp only [PyData.depth]
  omega
theorem nice_str {x : Str} (h : PyData.strOk x = true) : Nice 1 (.str x) (.str x) := ⟨rfl, h, by simp [PyData.depth]⟩
theorem nice_int {i : Int} : Nice 1 (.int i) (.int i) := ⟨rfl, rfl, by simp [PyData.depth]⟩
theorem nice_non : Nice 1 .non .none := ⟨rfl, rfl, by simp [PyData.depth]⟩
/-- two shown alike are the same -/
theorem same_fl {k : Nat} {xs ys : List LV} {d : PyData} {L : LH} (hk : k ≤ 64) (a : Nice k (.fl xs) d) (b : Nice k (.fl ys) d) : gEq true (.fl xs) (.fl ys) L = .ok (.bl false) L := by
  obtain ⟨a1, a2, a3⟩ := a
  obtain ⟨b1, _, _⟩ := b
  have sh : SeqAt.shaped d = true := by
    unfold SeqAt.shaped
    rw [a2, decide_eq_true (show d.depth ≤ 64 by omega)]
    rfl
  have e := SeqAt.eqv_refl_plain d (PyData.plain_of_canLay0 d a2)
  show (match toD (.fl xs), toD (.fl ys) with
    | some d, some e => if SeqAt.shaped d = true ∧ SeqAt.shaped e = true then Res.ok (LV.bl (if true then !PyData.eqv d e else PyData.eqv d e)) L else .no
    | _, _ => .no) = _
  rw [a1, b1]
  simp only []
  rw [if_pos ⟨sh, sh⟩, e]
  rfl
theorem same_tup {k : Nat} {xs ys : List LV} {d : PyData} {L : LH} (hk : k ≤ 64) (a : Nice k (.tup xs) d) (b : Nice k (.tup ys) d) : gEq true (.tup xs) (.tup ys) L = .ok (.bl false) L := by
  obtain ⟨a1, a2, a3⟩ := a
  obtain ⟨b1, _, _⟩ := b
  have sh : SeqAt.shaped d = true := by
    unfold SeqAt.shaped
    rw [a2, decide_eq_true (show d.depth ≤ 64 by omega)]
    rfl
  have e := SeqAt.eqv_refl_plain d (PyData.plain_of_canLay0 d a2)
  show (match toD (.tup xs), toD (.tup ys) with
    | some d, some e => if SeqAt.shaped d = true ∧ SeqAt.shaped e = true then Res.ok (LV.bl (if true then !PyData.eqv d e else PyData.eqv d e)) L else .no
    | _, _ => .no) = _
  rw [a1, b1]
  simp only []
  rw [if_pos ⟨sh, sh⟩, e]
  rfl
/-- all items of a list of n, by place -/
theorem nice_range {k n : Nat} {p : Nat → LV} {q : Nat → PyData} (h : ∀ j, j < n → Nice k (p j) (q j)) : NiceAll k ((List.range n).map p) ((List.range n).map q) := by
  have go : ∀ l : List Nat, (∀ j ∈ l, j < n) → NiceAll k (l.map p) (l.map q) := by
    intro l
    induction l with
    | nil => intro _; exact .nil
    | cons j r ih => intro hl; exact .cons (h j (hl j List.mem_cons_self)) (ih fun i hi => hl i (List.mem_cons_of_mem _ hi))
  exact go _ fun j hj => List.mem_range.mp hj
end Q.K07
end
section
set_option Elab.async false
set_option linter.all false
set_option maxRecDepth 100000
set_option maxHeartbeats 2000000
namespace Q.K07
open PySem L2 Q
section
variable {d : LO} {D C : List (List Key × LV)} {w h c r : Int} {T : LH} {f g : Pic} {m n : Nat} {Z : LV → LH → Prop}
def nD : Option Int → PyData
  | none => .none
  | some i => .int i
theorem nice_num {x : Option Int} : Nice 1 (nV x) (nD x) := by
  cases x
  · exact nice_non
  · exact nice_int
def dC (x : Cl) : PyData := .tuple [.str x.ch, .str x.ink, .str x.paper, nD x.num]
theorem nice_vs {x : Cl} (hx : Fine x) : NiceAll 1 x.vs [.str x.ch, .str x.ink, .str x.paper, nD x.num] :=
  .cons (nice_str hx.2.1) (.cons (nice_str hx.2.2.1) (.cons (nice_str hx.2.2.2) (.cons nice_num .nil)))
theorem nice_shows {v : LV} {x : Cl} (hv : Shows v x) (hx : Fine x) : Nice 2 v (dC x) := by
  rcases hv with rfl | rfl
  · exact (nice_vs hx).tup
  · exact (nice_vs hx).st
/-- what the canvas has at a cell -/
def at3 (C : List (List Key × LV)) (c r : Int) : LV := (lookK C (ky c r)).getD (.st Cl.e.vs)
theorem cell_at (h0 : 0 ≤ c) (h1 : c < w) (h2 : 0 ≤ r) (h3 : r < h) (hz : Z (at3 C c r) (St d D w h C T)) : WP (F_Canvas_cell [.ref 2, .int c, .int r] (St d D w h C T)) Z := by
  unfold F_Canvas_cell B_Canvas_cell V_EMPTY_CELL
  simp only [WP_bind, WP_ok, WP_no, WP_ite, WS_lift', WS_next, WS_ret, WS_brk, WS_cont, WS_seq, WS_ite, WP_call, mSeq, mIfS, mAsg, mRet, mRetN, mSetIx, mDrop, mOr, mAnd, mNot, mTest, mOp, mVar, mC, mCons, mNil, mBlt, mTup, mFl, mLst, mIf, mUn, mNotV, mAndV, mOrV, toB, mSkip, mBreak, mCont, mPar, e_gI, e_gIc, e_gMul, e_gAdd, e_gCmp, e_gEq, e_gEqS, e_ix30, e_ix31, e_ix32, e_set30, e_set31, e_set32, e_t40, e_t41, e_t42, e_t43, Bool.false_eq_true, gN, gT, gNil, gCons, Option.bind_some, Option.bind_none, fAbs, fMax, fMin, fInt,   List.map_cons, List.map_nil, List.cons_append, List.nil_append, List.length_cons, List.length_nil, List.replicate, List.set_cons_succ, List.set_cons_zero, List.getElem?_cons_succ, List.getElem?_cons_zero, Nat.reduceSub, Nat.reduceAdd, Nat.reduceLeDiff, if_true, if_false, true_and, and_true, false_and, and_false, mChain, mRaise, mBM, mFld, mDGet1, mDGet2, mDPut, mSetFld, mMeth, mCall, mMake, mDNew, isNon, mFor, mI, mIt, mLc, mYes, mTupG, gTupG, mSl, mNoP, mPart, mJoin, wipeL, List.append_nil, Bool.not_true, Bool.not_false, decide_true, true_implies, false_implies, implies_true, reduceCtorEq, Bool.true_eq_false, Bool.and_true, Bool.true_and, WP_exc, WS_exc, e_wid, e_hei, e_cel, e_dg, e_isD, decide_eq_true h0, decide_eq_true h1, decide_eq_true h2, decide_eq_true h3]
  exact hz
theorem grid_nice {p : Int → Int → LV} {q : Int → Int → PyData} {W H k : Nat} (hp : ∀ c r : Nat, c < W → r < H → Nice k (p c r) (q c r)) : Nice (k + 2) (.fl (gridV p W H)) (.list ((List.range H).map fun (r : Nat) => .list ((List.range W).map fun (c : Nat) => q c r))) := by
  refine NiceAll.fl ?_
  unfold gridV
  refine nice_range fun r hr => ?_
  unfold rowV
  exact NiceAll.fl (nice_range fun c hc => hp c r hc hr)
variable {x0 x5 x6 x7 x8 x9 x10 x11 x12 x13 x14 x15 x16 x17 x18 x19 x20 x21 x23 x24 : Option LV} {x y z : Int} {DD : EW}
def DUE : MS := (mAsg (mLc (mI range1 (mCons (mVar 3) mNil)) (gN 15) mYes (mLc (mI range1 (mCons (mVar 2) mNil)) (gN 16) mYes (mDGet2 (mVar 4) (mTup (mCons (mVar 16) (mCons (mVar 15) mNil))) (mTup (mCons (mC (.str " ")) (mCons (mC (.str "black")) (mCons (mC (.str "white")) (mCons (mC .non) mNil)))))) [16]) [15]) (gN 17))
def duV (f : Pic) (w h : Int) : LV := .fl (gridV (fun c r => .tup (f c r).vs) w.toNat h.toNat)
theorem due_ok (hw : 0 ≤ w ∧ w ≤ 30) (hh : 0 ≤ h ∧ h ≤ 20) (k : Dic D f m)
    (hz : DD.nx [x0, some (.ref 0), some (.int w), some (.int h), some (.ref 1), x5, x6, x7, x8, x9, x10, x11, x12, x13, x14, x15, x16, some (duV f w h), x18, x19, x20, x21, some (.ref 2), x23, x24] (St d D w h C T)) :
    WS (DUE [x0, some (.ref 0), some (.int w), some (.int h), some (.ref 1), x5, x6, x7, x8, x9, x10, x11, x12, x13, x14, x15, x16, x17, x18, x19, x20, x21, some (.ref 2), x23, x24] (St d D w h C T)) DD := by
  unfold DUE
  simp only [mAsg, WS_lift']
  refine grid_ok (w := w) (h := h) (p := fun c r => .tup (f c r).vs) (by omega) (by omega) rfl rfl hw.1 hh.1 rfl (fun _ => rfl) (fun c r _ _ _ _ Y hY => ?_) ?_
  · have ge := k.getT c r
    have ge' : (lookK D (ky c r)).getD (LV.tup [LV.str " ", LV.str "black", LV.str "white", LV.non]) = .tup (f c r).vs := ge
    simp only [WP_bind, WP_ok, WP_no, WP_ite, WS_lift', WS_next, WS_ret, WS_brk, WS_cont, WS_seq, WS_ite, WP_call, mSeq, mIfS, mAsg, mRet, mRetN, mSetIx, mDrop, mOr, mAnd, mNot, mTest, mOp, mVar, mC, mCons, mNil, mBlt, mTup, mFl, mLst, mIf, mUn, mNotV, mAndV, mOrV, toB, mSkip, mBreak, mCont, mPar, e_gI, e_gIc, e_gMul, e_gAdd, e_gCmp, e_gEq, e_gEqS, e_ix30, e_ix31, e_ix32, e_set30, e_set31, e_set32, e_t40, e_t41, e_t42, e_t43, Bool.false_eq_true, gN, gT, gNil, gCons, Option.bind_some, Option.bind_none, fAbs, fMax, fMin, fInt,   List.map_cons, List.map_nil, List.cons_append, List.nil_append, List.length_cons, List.length_nil, List.replicate, List.set_cons_succ, List.set_cons_zero, List.getElem?_cons_succ, List.getElem?_cons_zero, Nat.reduceSub, Nat.reduceAdd, Nat.reduceLeDiff, if_true, if_false, true_and, and_true, false_and, and_false, mChain, mRaise, mBM, mFld, mDGet1, mDGet2, mDPut, mSetFld, mMeth, mCall, mMake, mDNew, isNon, mFor, mI, mIt, mLc, mYes, mTupG, gTupG, mSl, mNoP, mPart, mJoin, wipeL, List.append_nil, Bool.not_true, Bool.not_false, decide_true, true_implies, false_implies, implies_true, reduceCtorEq, Bool.true_eq_false, Bool.and_true, Bool.true_and, WP_exc, WS_exc, e_isD1, e_dg1, ge']
    exact hY
  · exact hz
def CH1 : Sl → M Bool := (mTest (mOp (gEq true) (mLc (mI range1 (mCons (mVar 3) mNil)) (gN 15) mYes (mLc (mI range1 (mCons (mVar 2) mNil)) (gN 16) mYes (mMeth i_Canvas "cell" F_Canvas_cell [] (mVar 22) (mCons (mVar 16) (mCons (mVar 15) mNil))) [16]) [15]) (mVar 17)))
theorem ch1_ok {Y : Bool → LH → Prop} (hw : 0 ≤ w ∧ w ≤ 30) (hh : 0 ≤ h ∧ h ≤ 20) (k : Dic C f m) (hf : ∀ c r, Fine (f c r)) (hz : Y false (St d D w h C T)) :
    WP (CH1 [x0, some (.ref 0), some (.int w), some (.int h), some (.ref 1), x5, x6, x7, x8, x9, x10, x11, x12, x13, x14, x15, x16, some (duV f w h), x18, x19, x20, x21, some (.ref 2), x23, x24] (St d D w h C T)) Y := by
  unfold CH1
  simp only [mTest, mOp, WP_bind]
  refine grid_ok (w := w) (h := h) (p := at3 C) (by omega) (by omega) rfl rfl hw.1 hh.1 rfl (fun _ => rfl) (fun c r c0 c1 r0 r1 Y hY => ?_) ?_
  · simp only [WP_bind, WP_ok, WP_no, WP_ite, WS_lift', WS_next, WS_ret, WS_brk, WS_cont, WS_seq, WS_ite, WP_call, mSeq, mIfS, mAsg, mRet, mRetN, mSetIx, mDrop, mOr, mAnd, mNot, mTest, mOp, mVar, mC, mCons, mNil, mBlt, mTup, mFl, mLst, mIf, mUn, mNotV, mAndV, mOrV, toB, mSkip, mBreak, mCont, mPar, e_gI, e_gIc, e_gMul, e_gAdd, e_gCmp, e_gEq, e_gEqS, e_ix30, e_ix31, e_ix32, e_set30, e_set31, e_set32, e_t40, e_t41, e_t42, e_t43, Bool.false_eq_true, gN, gT, gNil, gCons, Option.bind_some, Option.bind_none, fAbs, fMax, fMin, fInt,   List.map_cons, List.map_nil, List.cons_append, List.nil_append, List.length_cons, List.length_nil, List.replicate, List.set_cons_succ, List.set_cons_zero, List.getElem?_cons_succ, List.getElem?_cons_zero, Nat.reduceSub, Nat.reduceAdd, Nat.reduceLeDiff, if_true, if_false, true_and, and_true, false_and, and_false, mChain, mRaise, mBM, mFld, mDGet1, mDGet2, mDPut, mSetFld, mMeth, mCall, mMake, mDNew, isNon, mFor, mI, mIt, mLc, mYes, mTupG, gTupG, mSl, mNoP, mPart, mJoin, wipeL, List.append_nil, Bool.not_true, Bool.not_false, decide_true, true_implies, false_implies, implies_true, reduceCtorEq, Bool.true_eq_false, Bool.and_true, Bool.true_and, WP_exc, WS_exc, i_cell]
    exact cell_at c0 c1 r0 r1 hY
  · have e : gEq true (.fl (gridV (at3 C) w.toNat h.toNat)) (duV f w h) (St d D w h C T) = .ok (.bl false) (St d D w h C T) := by
      unfold duV
      refine same_fl (k := 4) (by decide) (grid_nice (q := fun c r => dC (f c r)) fun c r _ _ => nice_shows (k.get c r) (hf c r)) (grid_nice (q := fun c r => dC (f c r)) fun c r _ _ => nice_shows (.inl rfl) (hf c r))
    simp only [WP_bind, WP_ok, WP_no, WP_ite, WS_lift', WS_next, WS_ret, WS_brk, WS_cont, WS_seq, WS_ite, WP_call, mSeq, mIfS, mAsg, mRet, mRetN, mSetIx, mDrop, mOr, mAnd, mNot, mTest, mOp, mVar, mC, mCons, mNil, mBlt, mTup, mFl, mLst, mIf, mUn, mNotV, mAndV, mOrV, toB, mSkip, mBreak, mCont, mPar, e_gI, e_gIc, e_gMul, e_gAdd, e_gCmp, e_gEq, e_gEqS, e_ix30, e_ix31, e_ix32, e_set30, e_set31, e_set32, e_t40, e_t41, e_t42, e_t43, Bool.false_eq_true, gN, gT, gNil, gCons, Option.bind_some, Option.bind_none, fAbs, fMax, fMin, fInt,   List.map_cons, List.map_nil, List.cons_append, List.nil_append, List.length_cons, List.length_nil, List.replicate, List.set_cons_succ, List.set_cons_zero, List.getElem?_cons_succ, List.getElem?_cons_zero, Nat.reduceSub, Nat.reduceAdd, Nat.reduceLeDiff, if_true, if_false, true_and, and_true, false_and, and_false, mChain, mRaise, mBM, mFld, mDGet1, mDGet2, mDPut, mSetFld, mMeth, mCall, mMake, mDNew, isNon, mFor, mI, mIt, mLc, mYes, mTupG, gTupG, mSl, mNoP, mPart, mJoin, wipeL, List.append_nil, Bool.not_true, Bool.not_false, decide_true, true_implies, false_implies, implies_true, reduceCtorEq, Bool.true_eq_false, Bool.and_true, Bool.true_and, WP_exc, WS_exc, e]
    exact hz
end
end Q.K07
end
section
set_option Elab.async false
set_option linter.all false
set_option maxRecDepth 100000
set_option maxHeartbeats 2000000
namespace Q.K07
open PySem L2 Q
/-- a comprehension over the items of a value, nothing is changed -/
theorem map_ok {fi : Sl → M LV} {el : Sl → M LV} {i : Nat} {vs : List Nat} {s : Sl} {L : LH} {x : LV} {xs : List LV} {q : LV → LV} {Z : LV → LH → Prop} (ex : fi s L = .ok x L) (hit : itOf x L = .ok (itV xs) L) (hn : xs.length < 100000)
    (hel : ∀ v, v ∈ xs → ∀ Y : LV → LH → Prop, Y (q v) L → WP (el ((wipeL s vs).set i (some v)) L) Y) (hz : Z (.fl (xs.map q)) L) : WP (mLc (mIt fi) (gN i) mYes el vs s L) Z := by
  unfold mLc mIt
  simp only [WP_bind, ex, WP_ok, hit]
  refine WP_lc (n := xs.length) (fun j acc L' => acc = (xs.take j).map q ∧ L' = L) (by unfold FUEL; omega) (fun j acc L' hj ⟨e, _⟩ => by rw [e, List.length_map, List.length_take]; omega) ?_ ?_ ?_
  · rintro j acc L' hj ⟨rfl, rfl⟩
    refine ⟨xs[j], _, by unfold itV; rw [List.getElem?_eq_getElem hj], rfl, ?_⟩
    simp only [mYes, WP_ok, if_true]
    refine hel _ (List.getElem_mem hj) _ ⟨?_, rfl⟩
    rw [List.take_succ_eq_append_getElem hj, List.map_append]
    rfl
  · rintro acc L' ⟨rfl, rfl⟩
    refine ⟨by unfold itV; rw [List.getElem?_eq_none (Nat.le_refl _)], ?_⟩
    rw [List.take_length]
    exact hz
  · exact ⟨by rw [List.take_zero]; rfl, rfl⟩
section
variable {d : LO} {D C : List (List Key × LV)} {w h c r : Int} {T : LH} {f g : Pic} {m n : Nat} {Z : LV → LH → Prop}
variable {x0 x5 x6 x7 x8 x9 x10 x11 x12 x13 x14 x15 x16 x17 x18 x19 x20 x21 x23 x24 : Option LV} {x y z : Int} {DD : EW}
def cut3 : LV → LV
  | .tup [a, b, e, _] => .tup [a, b, e]
  | v => v
def row3of : LV → LV
  | .fl xs => .tup (xs.map cut3)
  | v => v
theorem rows_of_due {W H : Nat} : (gridV (fun c r => .tup (f c r).vs) W H).map row3of = rows3 f W H := by
  unfold gridV rows3
  rw [List.map_map]
  refine List.map_congr_left fun r _ => ?_
  show LV.tup ((rowV (fun c r => .tup (f c r).vs) r W).map cut3) = _
  unfold rowV row3
  rw [List.map_map]
  rfl
theorem nice_rows3 (hf : ∀ c r, Fine (f c r)) (W H : Nat) : Nice 4 (.tup (rows3 f W H)) (.tuple ((List.range H).map fun (r : Nat) => .tuple ((List.range W).map fun (c : Nat) => .tuple [.str (f c r).ch, .str (f c r).ink, .str (f c r).paper]))) := by
  refine NiceAll.tup ?_
  unfold rows3
  refine nice_range fun r _ => ?_
  refine NiceAll.tup ?_
  unfold row3
  refine nice_range fun c _ => ?_
  have hx := hf c r
  exact NiceAll.tup (.cons (nice_str hx.2.1) (.cons (nice_str hx.2.2.1) (.cons (nice_str hx.2.2.2) .nil)))
def CH2 : Sl → M Bool := (mTest (mOp (gEq true) (mMeth i_Canvas "shown" F_Canvas_shown [] (mVar 22) mNil) (mBlt fTuple (mCons (mLc (mIt (mVar 17)) (gN 15) mYes (mBlt fTuple (mCons (mLc (mIt (mVar 15)) (gN 18) mYes (mSl (mVar 18) mNoP (mPart (mC (.int 3)))) [18]) mNil)) [15]) mNil))))
theorem e_tupF {xs : List LV} {L : LH} : fTuple [.fl xs] L = .ok (.tup xs) L := rfl
theorem ch2_ok {Y : Bool → LH → Prop} (hw : 0 ≤ w ∧ w ≤ 30) (hh : 0 ≤ h ∧ h ≤ 20) (k : Dic C f m) (hf : ∀ c r, Fine (f c r)) (hz : ∀ T', Y false (St d D w h C T')) :
    WP (CH2 [x0, some (.ref 0), some (.int w), some (.int h), some (.ref 1), x5, x6, x7, x8, x9, x10, x11, x12, x13, x14, x15, x16, some (duV f w h), x18, x19, x20, x21, some (.ref 2), x23, x24] (St d D w h C T)) Y := by
  unfold CH2
  simp only [mTest, mOp, WP_bind, mMeth, mVar, WP_ok, List.getElem?_cons_succ, List.getElem?_cons_zero, i_shown, if_true, mNil, List.append_nil]
  refine shown_ok k hw.1 (by omega) hh.1 (by omega) fun T' => ?_
  simp only [mBlt, mCons, WP_bind]
  refine map_ok (x := duV f w h) (xs := gridV (fun c r => .tup (f c r).vs) w.toNat h.toNat) (q := row3of) rfl rfl (by rw [gridV_len]; omega) (fun v hv Y hY => ?_) ?_
  · obtain ⟨r, _, rfl⟩ := List.mem_map.mp (show v ∈ (List.range h.toNat).map _ from hv)
    try simp only [mBlt, mCons, mNil, WP_bind]
    refine map_ok (x := .fl (rowV (fun c r => .tup (f c r).vs) r w.toNat)) (xs := rowV (fun c r => .tup (f c r).vs) r w.toNat) (q := cut3) rfl rfl (by rw [rowV_len]; omega) (fun v hv Y hY => ?_) ?_
    · obtain ⟨c, _, rfl⟩ := List.mem_map.mp (show v ∈ (List.range w.toNat).map _ from hv)
      simp only [WP_bind, WP_ok, WP_no, WP_ite, WS_lift', WS_next, WS_ret, WS_brk, WS_cont, WS_seq, WS_ite, WP_call, mSeq, mIfS, mAsg, mRet, mRetN, mSetIx, mDrop, mOr, mAnd, mNot, mTest, mOp, mVar, mC, mCons, mNil, mBlt, mTup, mFl, mLst, mIf, mUn, mNotV, mAndV, mOrV, toB, mSkip, mBreak, mCont, mPar, e_gI, e_gIc, e_gMul, e_gAdd, e_gCmp, e_gEq, e_gEqS, e_ix30, e_ix31, e_ix32, e_set30, e_set31, e_set32, e_t40, e_t41, e_t42, e_t43, Bool.false_eq_true, gN, gT, gNil, gCons, Option.bind_some, Option.bind_none, fAbs, fMax, fMin, fInt,   List.map_cons, List.map_nil, List.cons_append, List.nil_append, List.length_cons, List.length_nil, List.replicate, List.set_cons_succ, List.set_cons_zero, List.getElem?_cons_succ, List.getElem?_cons_zero, Nat.reduceSub, Nat.reduceAdd, Nat.reduceLeDiff, if_true, if_false, true_and, and_true, false_and, and_false, mChain, mRaise, mBM, mFld, mDGet1, mDGet2, mDPut, mSetFld, mMeth, mCall, mMake, mDNew, isNon, mFor, mI, mIt, mLc, mYes, mTupG, gTupG, mSl, mNoP, mPart, mJoin, wipeL, List.append_nil, Bool.not_true, Bool.not_false, decide_true, true_implies, false_implies, implies_true, reduceCtorEq, Bool.true_eq_false, Bool.and_true, Bool.true_and, WP_exc, WS_exc, e_sl3t]
      exact hY
    · simp only [WP_bind, WP_ok, WP_no, WP_ite, WS_lift', WS_next, WS_ret, WS_brk, WS_cont, WS_seq, WS_ite, WP_call, mSeq, mIfS, mAsg, mRet, mRetN, mSetIx, mDrop, mOr, mAnd, mNot, mTest, mOp, mVar, mC, mCons, mNil, mBlt, mTup, mFl, mLst, mIf, mUn, mNotV, mAndV, mOrV, toB, mSkip, mBreak, mCont, mPar, e_gI, e_gIc, e_gMul, e_gAdd, e_gCmp, e_gEq, e_gEqS, e_ix30, e_ix31, e_ix32, e_set30, e_set31, e_set32, e_t40, e_t41, e_t42, e_t43, Bool.false_eq_true, gN, gT, gNil, gCons, Option.bind_some, Option.bind_none, fAbs, fMax, fMin, fInt,   List.map_cons, List.map_nil, List.cons_append, List.nil_append, List.length_cons, List.length_nil, List.replicate, List.set_cons_succ, List.set_cons_zero, List.getElem?_cons_succ, List.getElem?_cons_zero, Nat.reduceSub, Nat.reduceAdd, Nat.reduceLeDiff, if_true, if_false, true_and, and_true, false_and, and_false, mChain, mRaise, mBM, mFld, mDGet1, mDGet2, mDPut, mSetFld, mMeth, mCall, mMake, mDNew, isNon, mFor, mI, mIt, mLc, mYes, mTupG, gTupG, mSl, mNoP, mPart, mJoin, wipeL, List.append_nil, Bool.not_true, Bool.not_false, decide_true, true_implies, false_implies, implies_true, reduceCtorEq, Bool.true_eq_false, Bool.and_true, Bool.true_and, WP_exc, WS_exc, e_tupF]
      exact hY
  · simp only [WP_bind, WP_ok, WP_no, WP_ite, WS_lift', WS_next, WS_ret, WS_brk, WS_cont, WS_seq, WS_ite, WP_call, mSeq, mIfS, mAsg, mRet, mRetN, mSetIx, mDrop, mOr, mAnd, mNot, mTest, mOp, mVar, mC, mCons, mNil, mBlt, mTup, mFl, mLst, mIf, mUn, mNotV, mAndV, mOrV, toB, mSkip, mBreak, mCont, mPar, e_gI, e_gIc, e_gMul, e_gAdd, e_gCmp, e_gEq, e_gEqS, e_ix30, e_ix31, e_ix32, e_set30, e_set31, e_set32, e_t40, e_t41, e_t42, e_t43, Bool.false_eq_true, gN, gT, gNil, gCons, Option.bind_some, Option.bind_none, fAbs, fMax, fMin, fInt,   List.map_cons, List.map_nil, List.cons_append, List.nil_append, List.length_cons, List.length_nil, List.replicate, List.set_cons_succ, List.set_cons_zero, List.getElem?_cons_succ, List.getElem?_cons_zero, Nat.reduceSub, Nat.reduceAdd, Nat.reduceLeDiff, if_true, if_false, true_and, and_true, false_and, and_false, mChain, mRaise, mBM, mFld, mDGet1, mDGet2, mDPut, mSetFld, mMeth, mCall, mMake, mDNew, isNon, mFor, mI, mIt, mLc, mYes, mTupG, gTupG, mSl, mNoP, mPart, mJoin, wipeL, List.append_nil, Bool.not_true, Bool.not_false, decide_true, true_implies, false_implies, implies_true, reduceCtorEq, Bool.true_eq_false, Bool.and_true, Bool.true_and, WP_exc, WS_exc, e_tupF]
    rw [rows_of_due]
    have e : ∀ L, gEq true (.tup (rows3 f w.toNat h.toNat)) (.tup (rows3 f w.toNat h.toNat)) L = .ok (.bl false) L := fun L => same_tup (k := 4) (by decide) (nice_rows3 hf _ _) (nice_rows3 hf _ _)
    simp only [WP_bind, WP_ok, WP_no, WP_ite, WS_lift', WS_next, WS_ret, WS_brk, WS_cont, WS_seq, WS_ite, WP_call, mSeq, mIfS, mAsg, mRet, mRetN, mSetIx, mDrop, mOr, mAnd, mNot, mTest, mOp, mVar, mC, mCons, mNil, mBlt, mTup, mFl, mLst, mIf, mUn, mNotV, mAndV, mOrV, toB, mSkip, mBreak, mCont, mPar, e_gI, e_gIc, e_gMul, e_gAdd, e_gCmp, e_gEq, e_gEqS, e_ix30, e_ix31, e_ix32, e_set30, e_set31, e_set32, e_t40, e_t41, e_t42, e_t43, Bool.false_eq_true, gN, gT, gNil, gCons, Option.bind_some, Option.bind_none, fAbs, fMax, fMin, fInt,   List.map_cons, List.map_nil, List.cons_append, List.nil_append, List.length_cons, List.length_nil, List.replicate, List.set_cons_succ, List.set_cons_zero, List.getElem?_cons_succ, List.getElem?_cons_zero, Nat.reduceSub, Nat.reduceAdd, Nat.reduceLeDiff, if_true, if_false, true_and, and_true, false_and, and_false, mChain, mRaise, mBM, mFld, mDGet1, mDGet2, mDPut, mSetFld, mMeth, mCall, mMake, mDNew, isNon, mFor, mI, mIt, mLc, mYes, mTupG, gTupG, mSl, mNoP, mPart, mJoin, wipeL, List.append_nil, Bool.not_true, Bool.not_false, decide_true, true_implies, false_implies, implies_true, reduceCtorEq, Bool.true_eq_false, Bool.and_true, Bool.true_and, WP_exc, WS_exc, e]
    exact hz T'
end
end Q.K07
end
section
set_option Elab.async false
set_option linter.all false
set_option maxRecDepth 100000
set_option maxHeartbeats 2000000
namespace Q.K07
open PySem L2 Q
section
variable {d : LO} {D C : List (List Key × LV)} {w h c r : Int} {T : LH} {f g : Pic} {m n : Nat} {Z : LV → LH → Prop}
variable {x0 x5 x6 x7 x8 x9 x10 x11 x12 x13 x14 x15 x16 x17 x18 x19 x20 x21 x23 x24 : Option LV} {x y z : Int} {DD : EW}
theorem element_at (k : Dic C g m) (h0 : 0 ≤ c) (h1 : c < w) (h2 : 0 ≤ r) (h3 : r < h) (hz : Z (nV (g c r).num) (St d D w h C T)) : WP (F_element_at [.ref 2, .int c, .int r] (St d D w h C T)) Z := element_ok k h0 h1 h2 h3 hz
def num3 : LV → LV
  | .tup [_, _, _, k] => k
  | v => v
def nums : LV → LV
  | .fl xs => .fl (xs.map num3)
  | v => v
theorem nums_of_due {W H : Nat} : (gridV (fun c r => .tup (f c r).vs) W H).map nums = gridV (fun c r => nV (f c r).num) W H := by
  unfold gridV
  rw [List.map_map]
  refine List.map_congr_left fun r _ => ?_
  show LV.fl ((rowV (fun c r => .tup (f c r).vs) r W).map num3) = _
  unfold rowV
  rw [List.map_map]
  rfl
def CH4 : Sl → M Bool := (mTest (mOp (gEq true) (mLc (mI range1 (mCons (mVar 3) mNil)) (gN 15) mYes (mLc (mI range1 (mCons (mVar 2) mNil)) (gN 16) mYes (mCall F_element_at [] (mCons (mVar 22) (mCons (mVar 16) (mCons (mVar 15) mNil)))) [16]) [15]) (mLc (mIt (mVar 17)) (gN 15) mYes (mLc (mIt (mVar 15)) (gN 18) mYes (mOp gIx (mVar 18) (mC (.int 3))) [18]) [15])))
theorem ch4_ok {Y : Bool → LH → Prop} (hw : 0 ≤ w ∧ w ≤ 30) (hh : 0 ≤ h ∧ h ≤ 20) (k : Dic C f m) (hz : Y false (St d D w h C T)) :
    WP (CH4 [x0, some (.ref 0), some (.int w), some (.int h), some (.ref 1), x5, x6, x7, x8, x9, x10, x11, x12, x13, x14, x15, x16, some (duV f w h), x18, x19, x20, x21, some (.ref 2), x23, x24] (St d D w h C T)) Y := by
  unfold CH4
  simp only [mTest, mOp, WP_bind]
  refine grid_ok (w := w) (h := h) (p := fun c r => nV (f c r).num) (by omega) (by omega) rfl rfl hw.1 hh.1 rfl (fun _ => rfl) (fun c r c0 c1 r0 r1 Y hY => ?_) ?_
  · simp only [WP_bind, WP_ok, WP_no, WP_ite, WS_lift', WS_next, WS_ret, WS_brk, WS_cont, WS_seq, WS_ite, WP_call, mSeq, mIfS, mAsg, mRet, mRetN, mSetIx, mDrop, mOr, mAnd, mNot, mTest, mOp, mVar, mC, mCons, mNil, mBlt, mTup, mFl, mLst, mIf, mUn, mNotV, mAndV, mOrV, toB, mSkip, mBreak, mCont, mPar, e_gI, e_gIc, e_gMul, e_gAdd, e_gCmp, e_gEq, e_gEqS, e_ix30, e_ix31, e_ix32, e_set30, e_set31, e_set32, e_t40, e_t41, e_t42, e_t43, Bool.false_eq_true, gN, gT, gNil, gCons, Option.bind_some, Option.bind_none, fAbs, fMax, fMin, fInt,   List.map_cons, List.map_nil, List.cons_append, List.nil_append, List.length_cons, List.length_nil, List.replicate, List.set_cons_succ, List.set_cons_zero, List.getElem?_cons_succ, List.getElem?_cons_zero, Nat.reduceSub, Nat.reduceAdd, Nat.reduceLeDiff, if_true, if_false, true_and, and_true, false_and, and_false, mChain, mRaise, mBM, mFld, mDGet1, mDGet2, mDPut, mSetFld, mMeth, mCall, mMake, mDNew, isNon, mFor, mI, mIt, mLc, mYes, mTupG, gTupG, mSl, mNoP, mPart, mJoin, wipeL, List.append_nil, Bool.not_true, Bool.not_false, decide_true, true_implies, false_implies, implies_true, reduceCtorEq, Bool.true_eq_false, Bool.and_true, Bool.true_and, WP_exc, WS_exc, if_true]
    exact element_ok k c0 c1 r0 r1 hY
  · refine map_ok (x := duV f w h) (xs := gridV (fun c r => .tup (f c r).vs) w.toNat h.toNat) (q := nums) rfl rfl (by rw [gridV_len]; omega) (fun v hv Y hY => ?_) ?_
    · obtain ⟨r, _, rfl⟩ := List.mem_map.mp (show v ∈ (List.range h.toNat).map _ from hv)
      refine map_ok (x := .fl (rowV (fun c r => .tup (f c r).vs) r w.toNat)) (xs := rowV (fun c r => .tup (f c r).vs) r w.toNat) (q := num3) rfl rfl (by rw [rowV_len]; omega) (fun v hv Y hY => ?_) ?_
      · obtain ⟨c, _, rfl⟩ := List.mem_map.mp (show v ∈ (List.range w.toNat).map _ from hv)
        simp only [WP_bind, WP_ok, WP_no, WP_ite, WS_lift', WS_next, WS_ret, WS_brk, WS_cont, WS_seq, WS_ite, WP_call, mSeq, mIfS, mAsg, mRet, mRetN, mSetIx, mDrop, mOr, mAnd, mNot, mTest, mOp, mVar, mC, mCons, mNil, mBlt, mTup, mFl, mLst, mIf, mUn, mNotV, mAndV, mOrV, toB, mSkip, mBreak, mCont, mPar, e_gI, e_gIc, e_gMul, e_gAdd, e_gCmp, e_gEq, e_gEqS, e_ix30, e_ix31, e_ix32, e_set30, e_set31, e_set32, e_t40, e_t41, e_t42, e_t43, Bool.false_eq_true, gN, gT, gNil, gCons, Option.bind_some, Option.bind_none, fAbs, fMax, fMin, fInt,   List.map_cons, List.map_nil, List.cons_append, List.nil_append, List.length_cons, List.length_nil, List.replicate, List.set_cons_succ, List.set_cons_zero, List.getElem?_cons_succ, List.getElem?_cons_zero, Nat.reduceSub, Nat.reduceAdd, Nat.reduceLeDiff, if_true, if_false, true_and, and_true, false_and, and_false, mChain, mRaise, mBM, mFld, mDGet1, mDGet2, mDPut, mSetFld, mMeth, mCall, mMake, mDNew, isNon, mFor, mI, mIt, mLc, mYes, mTupG, gTupG, mSl, mNoP, mPart, mJoin, wipeL, List.append_nil, Bool.not_true, Bool.not_false, decide_true, true_implies, false_implies, implies_true, reduceCtorEq, Bool.true_eq_false, Bool.and_true, Bool.true_and, WP_exc, WS_exc, if_true]
        exact hY
      · exact hY
    · rw [nums_of_due]
      have e : gEq true (.fl (gridV (fun c r => nV (f c r).num) w.toNat h.toNat)) (.fl (gridV (fun c r => nV (f c r).num) w.toNat h.toNat)) (St d D w h C T) = .ok (.bl false) (St d D w h C T) :=
        same_fl (k := 3) (by decide) (grid_nice (q := fun c r => nD (f c r).num) fun c r _ _ => nice_num) (grid_nice (q := fun c r => nD (f c r).num) fun c r _ _ => nice_num)
      simp only [WP_bind, WP_ok, WP_no, WP_ite, WS_lift', WS_next, WS_ret, WS_brk, WS_cont, WS_seq, WS_ite, WP_call, mSeq, mIfS, mAsg, mRet, mRetN, mSetIx, mDrop, mOr, mAnd, mNot, mTest, mOp, mVar, mC, mCons, mNil, mBlt, mTup, mFl, mLst, mIf, mUn, mNotV, mAndV, mOrV, toB, mSkip, mBreak, mCont, mPar, e_gI, e_gIc, e_gMul, e_gAdd, e_gCmp, e_gEq, e_gEqS, e_ix30, e_ix31, e_ix32, e_set30, e_set31, e_set32, e_t40, e_t41, e_t42, e_t43, Bool.false_eq_true, gN, gT, gNil, gCons, Option.bind_some, Option.bind_none, fAbs, fMax, fMin, fInt,   List.map_cons, List.map_nil, List.cons_append, List.nil_append, List.length_cons, List.length_nil, List.replicate, List.set_cons_succ, List.set_cons_zero, List.getElem?_cons_succ, List.getElem?_cons_zero, Nat.reduceSub, Nat.reduceAdd, Nat.reduceLeDiff, if_true, if_false, true_and, and_true, false_and, and_false, mChain, mRaise, mBM, mFld, mDGet1, mDGet2, mDPut, mSetFld, mMeth, mCall, mMake, mDNew, isNon, mFor, mI, mIt, mLc, mYes, mTupG, gTupG, mSl, mNoP, mPart, mJoin, wipeL, List.append_nil, Bool.not_true, Bool.not_false, decide_true, true_implies, false_implies, implies_true, reduceCtorEq, Bool.true_eq_false, Bool.and_true, Bool.true_and, WP_exc, WS_exc, e]
      exact hz
end
end Q.K07
end
section
set_option Elab.async false
set_option linter.all false
set_option maxRecDepth 100000
set_option maxHeartbeats 2000000
namespace Q.K07
open PySem L2 Q
theorem strOk_app {x y : Str} (a : PyData.strOk x = true) (b : PyData.strOk y = true) : PyData.strOk (x ++ y) = true := by
  rw [strOk_iff] at a b ⊢
  intro c hc
  have hc : c ∈ (x.cps ++ y.cps).toList := hc
  rw [Array.toList_append, List.mem_append] at hc
  exact hc.elim (a c) (b c)
theorem strOk_Sjoin {sep : Str} (hs : PyData.strOk sep = true) : ∀ l : List Str, (∀ a ∈ l, PyData.strOk a = true) → PyData.strOk (Str.join sep l) = true
  | [], _ => strOk_iff.mpr fun c hc => by cases hc
  | [x], h => h x List.mem_cons_self
  | x :: y :: r, h => strOk_app (strOk_app (h x List.mem_cons_self) hs) (strOk_Sjoin hs (y :: r) fun a ha => h a (List.mem_cons_of_mem _ ha))
theorem strOk_join {sep : Str} (hs : PyData.strOk sep = true) (l : List Str) (h : ∀ a ∈ l, PyData.strOk a = true) : PyData.strOk (Txt.join sep l) = true := by
  show PyData.strOk (PySem.Builtin.Str.glued sep l) = true
  rw [StrLaws.glued_eq_join]
  exact strOk_Sjoin hs l h
section
variable {d : LO} {D C : List (List Key × LV)} {w h c r : Int} {T : LH} {f g : Pic} {m n : Nat} {Z : LV → LH → Prop}
variable {x0 x5 x6 x7 x8 x9 x10 x11 x12 x13 x14 x15 x16 x17 x18 x19 x20 x21 x23 x24 : Option LV} {x y z : Int} {DD : EW}
theorem strOk_lets (hf : ∀ c r, Fine (f c r)) (r : Int) (n : Nat) : PyData.strOk (Txt.join "" (lets f r n)) = true := by
  refine strOk_join (by decide +kernel) _ fun a ha => ?_
  obtain ⟨c, _, rfl⟩ := List.mem_map.mp ha
  exact (hf c r).2.1
def let0 : LV → LV
  | .tup [a, _, _, _] => a
  | v => v
def joined : LV → LV
  | .fl xs => match strsOf (xs.map let0) with
    | some ys => .str (Txt.join "" ys)
    | none => .non
  | v => v
theorem lets_row (r : Int) (n : Nat) : (rowV (fun c r => .tup (f c r).vs) r n).map let0 = (lets f r n).map LV.str := by
  unfold rowV lets
  rw [List.map_map, List.map_map]
  rfl
theorem joined_row (r : Int) (n : Nat) : joined (.fl (rowV (fun c r => .tup (f c r).vs) r n)) = .str (Txt.join "" (lets f r n)) := by
  show (match strsOf ((rowV (fun c r => .tup (f c r).vs) r n).map let0) with | some ys => LV.str (Txt.join "" ys) | none => .non) = _
  rw [lets_row, strsOf_map]
theorem joins_of_due {W H : Nat} : (gridV (fun c r => .tup (f c r).vs) W H).map joined = lrows f W H := by
  unfold gridV lrows
  rw [List.map_map]
  refine List.map_congr_left fun r _ => ?_
  exact joined_row _ _
def CH3 : Sl → M Bool := (mTest (mOp (gEq true) (mBlt fList (mCons (mMeth i_Canvas "letter_rows" F_Canvas_letter_rows [] (mVar 22) mNil) mNil)) (mLc (mIt (mVar 17)) (gN 15) mYes (mJoin (mC (.str "")) (mLc (mIt (mVar 15)) (gN 18) mYes (mOp gIx (mVar 18) (mC (.int 0))) [18])) [15])))
theorem e_listT {xs : List LV} {L : LH} : fList [.tup xs] L = .ok (.fl xs) L := rfl
theorem ch3_ok {Y : Bool → LH → Prop} (hw : 0 ≤ w ∧ w ≤ 30) (hh : 0 ≤ h ∧ h ≤ 20) (k : Dic C f m) (hf : ∀ c r, Fine (f c r)) (hz : ∀ T', Y false (St d D w h C T')) :
    WP (CH3 [x0, some (.ref 0), some (.int w), some (.int h), some (.ref 1), x5, x6, x7, x8, x9, x10, x11, x12, x13, x14, x15, x16, some (duV f w h), x18, x19, x20, x21, some (.ref 2), x23, x24] (St d D w h C T)) Y := by
  unfold CH3
  simp only [mTest, mOp, WP_bind, mMeth, mVar, WP_ok, List.getElem?_cons_succ, List.getElem?_cons_zero, i_rows, if_true, mNil, List.append_nil, mBlt, mCons]
  refine letter_rows_ok k (fun c r => (hf c r).1) hw.1 (by omega) hh.1 (by omega) fun T' => ?_
  simp only [e_listT, WP_ok]
  refine map_ok (x := duV f w h) (xs := gridV (fun c r => .tup (f c r).vs) w.toNat h.toNat) (q := joined) rfl rfl (by rw [gridV_len]; omega) (fun v hv Y hY => ?_) ?_
  · obtain ⟨r, _, rfl⟩ := List.mem_map.mp (show v ∈ (List.range h.toNat).map _ from hv)
    rw [joined_row] at hY
    simp only [mJoin, mC, WP_bind, WP_ok]
    refine map_ok (x := .fl (rowV (fun c r => .tup (f c r).vs) r w.toNat)) (xs := rowV (fun c r => .tup (f c r).vs) r w.toNat) (q := let0) rfl rfl (by rw [rowV_len]; omega) (fun v hv Y hY => ?_) ?_
    · obtain ⟨c, _, rfl⟩ := List.mem_map.mp (show v ∈ (List.range w.toNat).map _ from hv)
      simp only [WP_bind, WP_ok, WP_no, WP_ite, WS_lift', WS_next, WS_ret, WS_brk, WS_cont, WS_seq, WS_ite, WP_call, mSeq, mIfS, mAsg, mRet, mRetN, mSetIx, mDrop, mOr, mAnd, mNot, mTest, mOp, mVar, mC, mCons, mNil, mBlt, mTup, mFl, mLst, mIf, mUn, mNotV, mAndV, mOrV, toB, mSkip, mBreak, mCont, mPar, e_gI, e_gIc, e_gMul, e_gAdd, e_gCmp, e_gEq, e_gEqS, e_ix30, e_ix31, e_ix32, e_set30, e_set31, e_set32, e_t40, e_t41, e_t42, e_t43, Bool.false_eq_true, gN, gT, gNil, gCons, Option.bind_some, Option.bind_none, fAbs, fMax, fMin, fInt,   List.map_cons, List.map_nil, List.cons_append, List.nil_append, List.length_cons, List.length_nil, List.replicate, List.set_cons_succ, List.set_cons_zero, List.getElem?_cons_succ, List.getElem?_cons_zero, Nat.reduceSub, Nat.reduceAdd, Nat.reduceLeDiff, if_true, if_false, true_and, and_true, false_and, and_false, mChain, mRaise, mBM, mFld, mDGet1, mDGet2, mDPut, mSetFld, mMeth, mCall, mMake, mDNew, isNon, mFor, mI, mIt, mLc, mYes, mTupG, gTupG, mSl, mNoP, mPart, mJoin, wipeL, List.append_nil, Bool.not_true, Bool.not_false, decide_true, true_implies, false_implies, implies_true, reduceCtorEq, Bool.true_eq_false, Bool.and_true, Bool.true_and, WP_exc, WS_exc, if_true]
      exact hY
    · rw [lets_row]
      have := sum_lets (fun c r => (hf c r).1) (r : Int) w.toNat
      rw [e_join (show _ ≤ 16777216 by omega)]
      exact hY
  · rw [joins_of_due]
    have e : ∀ L, gEq true (.fl (lrows f w.toNat h.toNat)) (.fl (lrows f w.toNat h.toNat)) L = .ok (.bl false) L := fun L => by
      have nn : Nice 3 (.fl (lrows f w.toNat h.toNat)) (.list ((List.range h.toNat).map fun (r : Nat) => .str (Txt.join "" (lets f r w.toNat)))) := by
        have : NiceAll 1 (lrows f w.toNat h.toNat) ((List.range h.toNat).map fun (r : Nat) => .str (Txt.join "" (lets f r w.toNat))) := nice_range fun r _ => nice_str (strOk_lets hf r w.toNat)
        obtain ⟨q1, q2, q3⟩ := this.fl
        exact ⟨q1, q2, Nat.le_succ_of_le q3⟩
      exact same_fl (k := 3) (by decide) nn nn
    simp only [WP_bind, WP_ok, WP_no, WP_ite, WS_lift', WS_next, WS_ret, WS_brk, WS_cont, WS_seq, WS_ite, WP_call, mSeq, mIfS, mAsg, mRet, mRetN, mSetIx, mDrop, mOr, mAnd, mNot, mTest, mOp, mVar, mC, mCons, mNil, mBlt, mTup, mFl, mLst, mIf, mUn, mNotV, mAndV, mOrV, toB, mSkip, mBreak, mCont, mPar, e_gI, e_gIc, e_gMul, e_gAdd, e_gCmp, e_gEq, e_gEqS, e_ix30, e_ix31, e_ix32, e_set30, e_set31, e_set32, e_t40, e_t41, e_t42, e_t43, Bool.false_eq_true, gN, gT, gNil, gCons, Option.bind_some, Option.bind_none, fAbs, fMax, fMin, fInt,   List.map_cons, List.map_nil, List.cons_append, List.nil_append, List.length_cons, List.length_nil, List.replicate, List.set_cons_succ, List.set_cons_zero, List.getElem?_cons_succ, List.getElem?_cons_zero, Nat.reduceSub, Nat.reduceAdd, Nat.reduceLeDiff, if_true, if_false, true_and, and_true, false_and, and_false, mChain, mRaise, mBM, mFld, mDGet1, mDGet2, mDPut, mSetFld, mMeth, mCall, mMake, mDNew, isNon, mFor, mI, mIt, mLc, mYes, mTupG, gTupG, mSl, mNoP, mPart, mJoin, wipeL, List.append_nil, Bool.not_true, Bool.not_false, decide_true, true_implies, false_implies, implies_true, reduceCtorEq, Bool.true_eq_false, Bool.and_true, Bool.true_and, WP_exc, WS_exc, e]
    exact hz T'
end
end Q.K07
end
section
set_option Elab.async false
set_option linter.all false
set_option maxRecDepth 100000
set_option maxHeartbeats 2000000
namespace Q.K07
open PySem L2 Q
section
variable {d : LO} {D C : List (List Key × LV)} {w h c r : Int} {T : LH} {f g : Pic} {m n : Nat} {Z : LV → LH → Prop}
variable {x0 x5 x6 x7 x8 x9 x10 x11 x12 x13 x14 x15 x16 x17 x18 x19 x20 x21 x23 x24 : Option LV} {x y z : Int} {DD : EW}
theorem cell_exc (ho : ¬ ((0 ≤ c ∧ c < w) ∧ (0 ≤ r ∧ r < h))) : F_Canvas_cell [.ref 2, .int c, .int r] (St d D w h C T) = .exc 0 (St d D w h C T) := by
  unfold F_Canvas_cell B_Canvas_cell
  by_cases h1 : 0 ≤ c
  · by_cases h2 : c < w
    · by_cases h3 : 0 ≤ r
      · by_cases h4 : r < h
        · exact absurd ⟨⟨h1, h2⟩, h3, h4⟩ ho
        · simp only [callF, mSeq, mIfS, mOr, mNot, mTest, mChain, mC, mVar, mFld, Res.bind, Q.lift, toB, e_wid, e_hei, e_gCmp, mRaise, Fl.andThen, List.map_cons, List.map_nil, List.cons_append, List.nil_append, List.length_cons, List.length_nil, List.replicate, List.getElem?_cons_succ, List.getElem?_cons_zero, decide_eq_true h1, decide_eq_true h2, decide_eq_true h3, decide_eq_false h4, if_true, Bool.not_true, Bool.not_false, Bool.false_eq_true, if_false]
      · simp only [callF, mSeq, mIfS, mOr, mNot, mTest, mChain, mC, mVar, mFld, Res.bind, Q.lift, toB, e_wid, e_hei, e_gCmp, mRaise, Fl.andThen, List.map_cons, List.map_nil, List.cons_append, List.nil_append, List.length_cons, List.length_nil, List.replicate, List.getElem?_cons_succ, List.getElem?_cons_zero, decide_eq_true h1, decide_eq_true h2, decide_eq_false h3, if_true, Bool.not_true, Bool.not_false, Bool.false_eq_true, if_false]
    · simp only [callF, mSeq, mIfS, mOr, mNot, mTest, mChain, mC, mVar, mFld, Res.bind, Q.lift, toB, e_wid, e_hei, e_gCmp, mRaise, Fl.andThen, List.map_cons, List.map_nil, List.cons_append, List.nil_append, List.length_cons, List.length_nil, List.replicate, List.getElem?_cons_succ, List.getElem?_cons_zero, decide_eq_true h1, decide_eq_false h2, if_true, Bool.not_true, Bool.not_false, Bool.false_eq_true, if_false]
  · simp only [callF, mSeq, mIfS, mOr, mNot, mTest, mChain, mC, mVar, mFld, Res.bind, Q.lift, toB, e_wid, e_hei, e_gCmp, mRaise, Fl.andThen, List.map_cons, List.map_nil, List.cons_append, List.nil_append, List.length_cons, List.length_nil, List.replicate, List.getElem?_cons_succ, List.getElem?_cons_zero, decide_eq_false h1, if_true, Bool.not_true, Bool.not_false, Bool.false_eq_true, if_false]
theorem no_word {v : LV} {x : Cl} (hv : Shows v x) (hx : Fine x) (L : LH) : gEq false v (.str "SizeError") L = .ok (.bl false) L := by
  obtain ⟨n1, n2, n3⟩ := nice_shows hv hx
  have sh : SeqAt.shaped (dC x) = true := by
    unfold SeqAt.shaped
    rw [n2, decide_eq_true (show (dC x).depth ≤ 64 by omega)]
    rfl
  have sh2 : SeqAt.shaped (.str "SizeError") = true := by decide +kernel
  have e : PyData.eqv (dC x) (.str "SizeError") = false := by simp [dC, PyData.eqv]
  have ev : vw L v = v := by rcases hv with rfl | rfl <;> rfl
  have go : gEq false v (.str "SizeError") L = (match toD (vw L v), toD (vw L (.str "SizeError")) with
    | some d, some e => if SeqAt.shaped d = true ∧ SeqAt.shaped e = true then Res.ok (LV.bl (if false then !PyData.eqv d e else PyData.eqv d e)) L else .no
    | _, _ => .no) := by rcases hv with rfl | rfl <;> rfl
  rw [go, ev, n1]
  show (if SeqAt.shaped (dC x) = true ∧ SeqAt.shaped (.str "SizeError") = true then Res.ok (LV.bl (PyData.eqv (dC x) (.str "SizeError"))) L else .no) = _
  rw [if_pos ⟨sh, sh2⟩, e]
end
end Q.K07
end
section
set_option Elab.async false
set_option linter.all false
set_option maxRecDepth 100000
set_option maxHeartbeats 2000000
namespace Q.K07
open PySem L2 Q
section
variable {d : LO} {D C : List (List Key × LV)} {w h c r : Int} {T : LH} {f g : Pic} {m n : Nat} {Z : LV → LH → Prop}
variable {x0 x5 x6 x7 x8 x9 x10 x11 x12 x13 x14 x15 x16 x17 x18 x19 x20 x21 x23 x24 : Option LV} {x y z : Int} {DD : EW}
def TC : Sl → M LV := mTold cg_law_told R_law_told (mMeth i_Canvas "cell" F_Canvas_cell [] (mVar 22) (mCons (mVar 16) (mCons (mVar 15) mNil)))
def inB (w h c r : Int) : Bool := (decide (0 ≤ c) && decide (c < w)) && (decide (0 ≤ r) && decide (r < h))
theorem tc_ok (k : Dic C g m) (hf : ∀ c r, Fine (g c r)) (hz : ∀ v, (∀ L, gEq false v (.str "SizeError") L = .ok (.bl (!inB w h c r)) L) → Z v (St d D w h C T)) :
    WP (TC [x0, some (.ref 0), some (.int w), some (.int h), some (.ref 1), x5, x6, x7, x8, x9, x10, x11, x12, x13, x14, some (.int r), some (.int c), x17, x18, x19, x20, x21, some (.ref 2), x23, x24] (St d D w h C T)) Z := by
  have e : (mMeth i_Canvas "cell" F_Canvas_cell [] (mVar 22) (mCons (mVar 16) (mCons (mVar 15) mNil))) [x0, some (.ref 0), some (.int w), some (.int h), some (.ref 1), x5, x6, x7, x8, x9, x10, x11, x12, x13, x14, some (.int r), some (.int c), x17, x18, x19, x20, x21, some (.ref 2), x23, x24] (St d D w h C T) = F_Canvas_cell [.ref 2, .int c, .int r] (St d D w h C T) := by
    simp only [mMeth, mVar, mCons, mNil, Res.bind, List.getElem?_cons_succ, List.getElem?_cons_zero, i_cell, if_true, List.append_nil]
  unfold TC mTold
  rw [e]
  by_cases hin : (0 ≤ c ∧ c < w) ∧ (0 ≤ r ∧ r < h)
  · obtain ⟨v, L', e1, hv, rfl⟩ := (cell_ok (Z := fun v L => Shows v (g c r) ∧ L = St d D w h C T) k hin.1.1 hin.1.2 hin.2.1 hin.2.2 fun v hv => ⟨hv, rfl⟩).ex
    rw [e1]
    refine hz v fun L => ?_
    have : inB w h c r = true := by
      unfold inB
      simp only [Bool.and_eq_true, decide_eq_true_eq]
      exact hin
    rw [this]
    exact no_word hv (hf c r) L
  · rw [cell_exc hin]
    show WP (if cg_law_told 0 = true then Res.ok (.str R_law_told) (St d D w h C T) else .no) Z
    rw [if_pos (by decide)]
    refine hz _ fun L => ?_
    have : inB w h c r = false := by
      unfold inB
      rw [Bool.eq_false_iff]
      intro q
      simp only [Bool.and_eq_true, decide_eq_true_eq] at q
      exact hin q
    rw [this]
    show Res.ok (LV.bl (decide (R_law_told = "SizeError"))) L = _
    rw [decide_eq_true (show R_law_told = "SizeError" from rfl)]
    rfl
def CH5 : Sl → M Bool := (mTest (mOp (gEq true) (mOp (gEq false) TC (mC (.str "SizeError"))) (mOrV (mNotV (mChain gLe gLt (mC (.int 0)) (mVar 16) (mVar 2))) (mNotV (mChain gLe gLt (mC (.int 0)) (mVar 15) (mVar 3))))))
theorem e_gEqB {a b neg : Bool} {L : LH} : gEq neg (.bl a) (.bl b) L = .ok (.bl (if neg then !decide (a = b) else decide (a = b))) L := rfl
theorem ch5_ok {Y : Bool → LH → Prop} (k : Dic C g m) (hf : ∀ c r, Fine (g c r)) (hz : Y false (St d D w h C T)) :
    WP (CH5 [x0, some (.ref 0), some (.int w), some (.int h), some (.ref 1), x5, x6, x7, x8, x9, x10, x11, x12, x13, x14, some (.int r), some (.int c), x17, x18, x19, x20, x21, some (.ref 2), x23, x24] (St d D w h C T)) Y := by
  unfold CH5
  simp only [mTest, mOp, WP_bind]
  refine tc_ok k hf fun v hv => ?_
  simp only [mC, WP_ok, hv]
  unfold inB
  by_cases h1 : 0 ≤ c <;> by_cases h2 : c < w <;> by_cases h3 : 0 ≤ r <;> by_cases h4 : r < h <;>
    (simp only [h1, h2, h3, h4, decide_true, decide_false, Bool.true_and, Bool.and_true, Bool.false_and, Bool.and_false, Bool.not_true, Bool.not_false]
     simp only [WP_bind, WP_ok, WP_no, WP_ite, WS_lift', WS_next, WS_ret, WS_brk, WS_cont, WS_seq, WS_ite, WP_call, mSeq, mIfS, mAsg, mRet, mRetN, mSetIx, mDrop, mOr, mAnd, mNot, mTest, mOp, mVar, mC, mCons, mNil, mBlt, mTup, mFl, mLst, mIf, mUn, mNotV, mAndV, mOrV, toB, mSkip, mBreak, mCont, mPar, e_gI, e_gIc, e_gMul, e_gAdd, e_gCmp, e_gEq, e_gEqS, e_ix30, e_ix31, e_ix32, e_set30, e_set31, e_set32, e_t40, e_t41, e_t42, e_t43, Bool.false_eq_true, gN, gT, gNil, gCons, Option.bind_some, Option.bind_none, fAbs, fMax, fMin, fInt,   List.map_cons, List.map_nil, List.cons_append, List.nil_append, List.length_cons, List.length_nil, List.replicate, List.set_cons_succ, List.set_cons_zero, List.getElem?_cons_succ, List.getElem?_cons_zero, Nat.reduceSub, Nat.reduceAdd, Nat.reduceLeDiff, if_true, if_false, true_and, and_true, false_and, and_false, mChain, mRaise, mBM, mFld, mDGet1, mDGet2, mDPut, mSetFld, mMeth, mCall, mMake, mDNew, isNon, mFor, mI, mIt, mLc, mYes, mTupG, gTupG, mSl, mNoP, mPart, mJoin, wipeL, List.append_nil, Bool.not_true, Bool.not_false, decide_true, true_implies, false_implies, implies_true, reduceCtorEq, Bool.true_eq_false, Bool.and_true, Bool.true_and, WP_exc, WS_exc, decide_eq_true, e_gEqB, h1, h2, h3, h4, decide_false]
     exact hz)
end
end Q.K07
end
section
set_option Elab.async false
set_option linter.all false
set_option maxRecDepth 100000
set_option maxHeartbeats 2000000
namespace Q.K07
open PySem L2 Q
theorem init_exc1 {n : Nat} {L : LH} : F_Canvas_init [.ref n, .int 0, .int 5] L = .exc 0 L := by rfl
theorem init_exc2 {n : Nat} {L : LH} : F_Canvas_init [.ref n, .int 200, .int 101] L = .exc 0 L := by rfl
def FIN : MS := (mRet (mAndV (mOp (gEq false) (mTold cg_law_told R_law_told (mMake i_Canvas F_Canvas_init [] (mCons (mC (.int 0)) (mCons (mC (.int 5)) mNil)))) (mC (.str "SizeError"))) (mOp (gEq false) (mTold cg_law_told R_law_told (mMake i_Canvas F_Canvas_init [] (mCons (mC (.int 200)) (mCons (mC (.int 101)) mNil)))) (mC (.str "SizeError")))))
theorem told1 {s : Sl} {L : LH} : mTold cg_law_told R_law_told (mMake i_Canvas F_Canvas_init [] (mCons (mC (.int 0)) (mCons (mC (.int 5)) mNil))) s L = .ok (.str R_law_told) (L ++ [.ins i_Canvas []]) := by
  unfold mTold
  have e : (mMake i_Canvas F_Canvas_init [] (mCons (mC (.int 0)) (mCons (mC (.int 5)) mNil))) s L = .exc 0 (L ++ [.ins i_Canvas []]) := by
    show ((F_Canvas_init [.ref L.length, .int 0, .int 5] (L ++ [.ins i_Canvas []])).bind fun v L2 => if isNon v = true then Res.ok (LV.ref L.length) L2 else .no) = _
    rw [init_exc1]
    rfl
  rw [e]
  rfl
theorem told2 {s : Sl} {L : LH} : mTold cg_law_told R_law_told (mMake i_Canvas F_Canvas_init [] (mCons (mC (.int 200)) (mCons (mC (.int 101)) mNil))) s L = .ok (.str R_law_told) (L ++ [.ins i_Canvas []]) := by
  unfold mTold
  have e : (mMake i_Canvas F_Canvas_init [] (mCons (mC (.int 200)) (mCons (mC (.int 101)) mNil))) s L = .exc 0 (L ++ [.ins i_Canvas []]) := by
    show ((F_Canvas_init [.ref L.length, .int 200, .int 101] (L ++ [.ins i_Canvas []])).bind fun v L2 => if isNon v = true then Res.ok (LV.ref L.length) L2 else .no) = _
    rw [init_exc2]
    rfl
  rw [e]
  rfl
theorem fin_ok {s : Sl} {L : LH} {DD : EW} (hz : ∀ L', DD.rt (.bl true) L') : WS (FIN s L) DD := by
  unfold FIN
  have e : decide (R_law_told = "SizeError") = true := decide_eq_true rfl
  simp only [WP_bind, WP_ok, WP_no, WP_ite, WS_lift', WS_next, WS_ret, WS_brk, WS_cont, WS_seq, WS_ite, WP_call, mSeq, mIfS, mAsg, mRet, mRetN, mSetIx, mDrop, mOr, mAnd, mNot, mTest, mOp, mVar, mC, mCons, mNil, mBlt, mTup, mFl, mLst, mIf, mUn, mNotV, mAndV, mOrV, toB, mSkip, mBreak, mCont, mPar, e_gI, e_gIc, e_gMul, e_gAdd, e_gCmp, e_gEq, e_gEqS, e_ix30, e_ix31, e_ix32, e_set30, e_set31, e_set32, e_t40, e_t41, e_t42, e_t43, Bool.false_eq_true, gN, gT, gNil, gCons, Option.bind_some, Option.bind_none, fAbs, fMax, fMin, fInt,   List.map_cons, List.map_nil, List.cons_append, List.nil_append, List.length_cons, List.length_nil, List.replicate, List.set_cons_succ, List.set_cons_zero, List.getElem?_cons_succ, List.getElem?_cons_zero, Nat.reduceSub, Nat.reduceAdd, Nat.reduceLeDiff, if_true, if_false, true_and, and_true, false_and, and_false, mChain, mRaise, mBM, mFld, mDGet1, mDGet2, mDPut, mSetFld, mMeth, mCall, mMake, mDNew, isNon, mFor, mI, mIt, mLc, mYes, mTupG, gTupG, mSl, mNoP, mPart, mJoin, wipeL, List.append_nil, Bool.not_true, Bool.not_false, decide_true, true_implies, false_implies, implies_true, reduceCtorEq, Bool.true_eq_false, Bool.and_true, Bool.true_and, WP_exc, WS_exc, told1, told2, e]
  exact hz _
theorem cut1_nil : cutL ([] : List LV) none (some 1) = [] := rfl
theorem cut1_cons {v : LV} {xs : List LV} : cutL (v :: xs) none (some 1) = [v] := by
  unfold cutL
  have : HT.sIx (v :: xs).length (v :: xs).length (some 1) = 1 := by
    show min (1 : Int).toNat (v :: xs).length = 1
    rw [List.length_cons]
    show min 1 (xs.length + 1) = 1
    omega
  rw [this]
  rfl
theorem e_sls {xs : List LV} {L : LH} : gSl (.sl xs) none (some 1) L = .ok (.fl (cutL xs none (some 1))) L := rfl
theorem rounds_ok {ns : List Int} {Z : LV → LH → Prop} (hz : ∀ x y z : Int, Z (.fl [.ref 0]) [.lst [.int x, .int y, .int z]]) : WP (F_law_rounds [.sl (ns.map .int), .int 1] []) Z := by
  have one : ∀ (c : Int) (s : Sl), WP (mLc (mIt (mVar 2)) (gN 3) mYes (mCall F_law_dice [] (mCons (mVar 3) mNil)) [3] [some (.sl (ns.map .int)), some (.int 1), some (.fl [.int c]), none] []) Z := fun c s => by
    unfold mLc mIt
    simp only [WP_bind, mVar, WP_ok, List.getElem?_cons_succ, List.getElem?_cons_zero, e_itF]
    refine WP_lc (n := 1) (fun i acc L => (i = 0 ∧ acc = [] ∧ L = []) ∨ (i = 1 ∧ acc = [.ref 0] ∧ ∃ x y z : Int, L = [.lst [.int x, .int y, .int z]])) (by unfold FUEL; omega) (fun i acc L hi q => by rcases q with ⟨_, rfl, _⟩ | ⟨_, rfl, _⟩ <;> simp) ?_ ?_ (.inl ⟨rfl, rfl, rfl⟩)
    · rintro i acc L hi (⟨rfl, rfl, rfl⟩ | ⟨rfl, _⟩)
      · refine ⟨.int c, _, rfl, rfl, ?_⟩
        simp only [WP_bind, WP_ok, WP_no, WP_ite, WS_lift', WS_next, WS_ret, WS_brk, WS_cont, WS_seq, WS_ite, WP_call, mSeq, mIfS, mAsg, mRet, mRetN, mSetIx, mDrop, mOr, mAnd, mNot, mTest, mOp, mVar, mC, mCons, mNil, mBlt, mTup, mFl, mLst, mIf, mUn, mNotV, mAndV, mOrV, toB, mSkip, mBreak, mCont, mPar, e_gI, e_gIc, e_gMul, e_gAdd, e_gCmp, e_gEq, e_gEqS, e_ix30, e_ix31, e_ix32, e_set30, e_set31, e_set32, e_t40, e_t41, e_t42, e_t43, Bool.false_eq_true, gN, gT, gNil, gCons, Option.bind_some, Option.bind_none, fAbs, fMax, fMin, fInt,   List.map_cons, List.map_nil, List.cons_append, List.nil_append, List.length_cons, List.length_nil, List.replicate, List.set_cons_succ, List.set_cons_zero, List.getElem?_cons_succ, List.getElem?_cons_zero, Nat.reduceSub, Nat.reduceAdd, Nat.reduceLeDiff, if_true, if_false, true_and, and_true, false_and, and_false, mChain, mRaise, mBM, mFld, mDGet1, mDGet2, mDPut, mSetFld, mMeth, mCall, mMake, mDNew, isNon, mFor, mI, mIt, mLc, mYes, mTupG, gTupG, mSl, mNoP, mPart, mJoin, wipeL, List.append_nil, Bool.not_true, Bool.not_false, decide_true, true_implies, false_implies, implies_true, reduceCtorEq, Bool.true_eq_false, Bool.and_true, Bool.true_and, WP_exc, WS_exc, if_true]
        refine dice_ok fun x y z => ?_
        exact .inr ⟨rfl, x, y, z, rfl⟩
      · omega
    · rintro acc L (⟨q, _⟩ | ⟨_, rfl, x, y, z, rfl⟩)
      · omega
      · exact ⟨rfl, hz x y z⟩
  unfold F_law_rounds B_law_rounds
  have e0 : ∀ L, gEq false (.fl []) (.fl []) L = .ok (.bl true) L := fun L => rfl
  have e1 : ∀ (c : Int) L, gEq false (.fl [.int c]) (.fl []) L = .ok (.bl false) L := fun c L => rfl
  cases ns with
  | nil =>
    simp only [WP_call, mSeq, WS_seq, mAsg, WS_lift', mRet, mIfS, mSl, mVar, mNoP, mPart, mC, WP_bind, WP_ok, List.map_cons, List.map_nil, List.cons_append, List.nil_append, List.length_cons, List.length_nil, Nat.reduceSub, Nat.reduceAdd, List.replicate, List.getElem?_cons_succ, List.getElem?_cons_zero, e_sls, cut1_nil, gN, WS_next, List.set_cons_succ, List.set_cons_zero,
      mTest, mOp, mFl, mNil, mCons, toB, e0, Nat.zero_le, if_true, WS_ret, show (1 : Nat) ≤ 1000 from by decide]
    exact one 0 []
  | cons c r =>
    simp only [WP_call, mSeq, WS_seq, mAsg, WS_lift', mRet, mIfS, mSl, mVar, mNoP, mPart, mC, WP_bind, WP_ok, List.map_cons, List.map_nil, List.cons_append, List.nil_append, List.length_cons, List.length_nil, Nat.reduceSub, Nat.reduceAdd, List.replicate, List.getElem?_cons_succ, List.getElem?_cons_zero, e_sls, cut1_cons, gN, WS_next, List.set_cons_succ, List.set_cons_zero,
      mTest, mOp, mFl, mNil, mCons, toB, e1, Nat.zero_le, if_true, WS_ret, Bool.false_eq_true, if_false, mSkip]
    exact one c []
end Q.K07
end
section
set_option Elab.async false
set_option linter.all false
set_option maxRecDepth 100000
set_option maxHeartbeats 2000000
namespace Q.K07
open PySem L2 Q
theorem two {a aw b bw c : Int} : ((a ≤ c ∧ c < a + aw) ∧ (b ≤ c ∧ c < b + bw)) ↔ (mx a b ≤ c ∧ c < mx a b + mx 0 (mn (a + aw) (b + bw) - mx a b)) := by
  constructor
  · rintro ⟨⟨h1, h2⟩, h3, h4⟩
    have h5 : mx a b ≤ c := mx_le.mpr ⟨h1, h3⟩
    refine ⟨h5, ?_⟩
    rw [seg h5, lt_mn]
    exact ⟨h2, h4⟩
  · rintro ⟨h5, h6⟩
    rw [seg h5, lt_mn] at h6
    have h7 := mx_le.mp h5
    exact ⟨⟨h7.1, h6.1⟩, h7.2, h6.2⟩
theorem inn_both {a b : A4} {c r : Int} : inn (meet a b) c r = (inn a c r && inn b c r) := by
  have h1 := two (a := a.l) (aw := a.w) (b := b.l) (bw := b.w) (c := c)
  have h2 := two (a := a.t) (aw := a.h) (b := b.t) (bw := b.h) (c := r)
  rw [Bool.eq_iff_iff]
  unfold inn meet
  simp only [Bool.and_eq_true, decide_eq_true_eq]
  constructor
  · rintro ⟨q1, q2, q3, q4⟩
    obtain ⟨⟨p1, p2⟩, p3, p4⟩ := h1.mpr ⟨q1, q2⟩
    obtain ⟨⟨p5, p6⟩, p7, p8⟩ := h2.mpr ⟨q3, q4⟩
    exact ⟨⟨p1, p2, p5, p6⟩, p3, p4, p7, p8⟩
  · rintro ⟨⟨p1, p2, p5, p6⟩, p3, p4, p7, p8⟩
    obtain ⟨q1, q2⟩ := h1.mp ⟨⟨p1, p2⟩, p3, p4⟩
    obtain ⟨q3, q4⟩ := h2.mp ⟨⟨p5, p6⟩, p7, p8⟩
    exact ⟨q1, q2, q3, q4⟩
/-! ### counting spots -/
theorem count_rows (A B : Nat → Bool) : ∀ n : Nat, ((List.range (n * 20)).filter fun k => A (k / 20) && B (k % 20)).length = ((List.range n).filter A).length * ((List.range 20).filter B).length
  | 0 => by simp
  | n + 1 => by
    rw [Nat.succ_mul, List.range_add, List.filter_append, List.length_append, count_rows A B n, show List.range (n + 1) = List.range n ++ [n] from List.range_succ, List.filter_append (l₁ := List.range n), List.length_append (as := List.filter A (List.range n)), Nat.add_mul]
    congr 1
    rw [List.filter_map, List.length_map]
    have e : ∀ j ∈ List.range 20, ((fun k => A (k / 20) && B (k % 20)) ∘ fun x => n * 20 + x) j = (A n && B j) := fun j hj => by
      have hj := List.mem_range.mp hj
      show (A ((n * 20 + j) / 20) && B ((n * 20 + j) % 20)) = _
      have e1 : (n * 20 + j) / 20 = n := by omega
      have e2 : (n * 20 + j) % 20 = j := by omega
      rw [e1, e2]
    rw [List.filter_congr e]
    cases hA : A n <;> simp [hA]
theorem count_way : ∀ l : Fin 21, ∀ w : Fin 21, l.1 + w.1 ≤ 20 → ((List.range 20).filter fun k => decide (l.1 ≤ k) && decide (k < l.1 + w.1)).length = w.1 := by decide +kernel
theorem count_both {b : A4} (h1 : 0 ≤ b.l ∧ 0 ≤ b.w ∧ b.l + b.w ≤ 20) (h2 : 0 ≤ b.t ∧ 0 ≤ b.h ∧ b.t + b.h ≤ 20) : (((List.range 400).filter fun (k : Nat) => inn b ((k : Int) / 20) ((k : Int) - (k : Int) / 20 * 20)).length : Int) = b.w * b.h := by
  have e : ∀ k ∈ List.range 400, inn b ((k : Int) / 20) ((k : Int) - (k : Int) / 20 * 20) = ((fun i => decide (b.l.toNat ≤ i) && decide (i < b.l.toNat + b.w.toNat)) (k / 20) && (fun j => decide (b.t.toNat ≤ j) && decide (j < b.t.toNat + b.h.toNat)) (k % 20)) := fun k _ => by
    unfold inn
    rw [Bool.eq_iff_iff]
    simp only [Bool.and_eq_true, decide_eq_true_eq]
    constructor <;> intro q <;> omega
  have c1 := count_way ⟨b.l.toNat, by omega⟩ ⟨b.w.toNat, by omega⟩ (by show b.l.toNat + b.w.toNat ≤ 20; omega)
  have c2 := count_way ⟨b.t.toNat, by omega⟩ ⟨b.h.toNat, by omega⟩ (by show b.t.toNat + b.h.toNat ≤ 20; omega)
  rw [List.filter_congr e]
  have := count_rows (fun i => decide (b.l.toNat ≤ i) && decide (i < b.l.toNat + b.w.toNat)) (fun j => decide (b.t.toNat ≤ j) && decide (j < b.t.toNat + b.h.toNat)) 20
  rw [show (400 : Nat) = 20 * 20 from rfl, this]
  have c1 : ((List.range 20).filter fun i => decide (b.l.toNat ≤ i) && decide (i < b.l.toNat + b.w.toNat)).length = b.w.toNat := c1
  have c2 : ((List.range 20).filter fun j => decide (b.t.toNat ≤ j) && decide (j < b.t.toNat + b.h.toNat)).length = b.h.toNat := c2
  rw [c1, c2, Int.natCast_mul]
  rw [show ((b.w.toNat : Nat) : Int) = b.w by omega, show ((b.h.toNat : Nat) : Int) = b.h by omega]
end Q.K07
end
section
set_option Elab.async false
set_option linter.all false
set_option maxRecDepth 100000
set_option maxHeartbeats 2000000
namespace Q.K07
open PySem L2 Q
def spot (k : Nat) : LV := .tup [.int ((k : Int) / 20), .int ((k : Int) - (k : Int) / 20 * 20)]
def inK (b : A4) (k : Nat) : Bool := inn b ((k : Int) / 20) ((k : Int) - (k : Int) / 20 * 20)
def spots (b : A4) (n : Nat) : List LV := ((List.range n).filter (inK b)).map spot
theorem spots_succ (b : A4) (n : Nat) : spots b (n + 1) = if inK b n = true then spots b n ++ [spot n] else spots b n := by
  unfold spots
  rw [List.range_succ, List.filter_append, List.map_append]
  cases h : inK b n <;> simp [h]
theorem spots_len (b : A4) (n : Nat) : (spots b n).length ≤ n := by
  unfold spots
  rw [List.length_map]
  exact Nat.le_trans (List.length_filter_le _ _) (by simp)
section
variable {L : LH} {x0 x1 x2 x3 x4 x5 x6 x7 x8 x9 x10 x11 x12 x13 x14 x15 x16 x17 x20 x21 x22 x23 x24 : Option LV} {DD : EW}
def SH : MS := (mAsg (mLc (mI range1 (mCons (mC (.int 400)) mNil)) (gN 23) (mAnd (mTest (mCall F_law_in [] (mCons (mVar 18) (mCons (mOp gFdiv (mVar 23) (mC (.int 20))) (mCons (mOp gSub (mVar 23) (mOp gMul (mOp gFdiv (mVar 23) (mC (.int 20))) (mC (.int 20)))) mNil))))) (mTest (mCall F_law_in [] (mCons (mVar 19) (mCons (mOp gFdiv (mVar 23) (mC (.int 20))) (mCons (mOp gSub (mVar 23) (mOp gMul (mOp gFdiv (mVar 23) (mC (.int 20))) (mC (.int 20)))) mNil)))))) (mTup (mCons (mOp gFdiv (mVar 23) (mC (.int 20))) (mCons (mOp gSub (mVar 23) (mOp gMul (mOp gFdiv (mVar 23) (mC (.int 20))) (mC (.int 20)))) mNil))) [23]) (gN 21))

def T18 : Sl → M Bool := (mTest (mCall F_law_in [] (mCons (mVar 18) (mCons (mOp gFdiv (mVar 23) (mC (.int 20))) (mCons (mOp gSub (mVar 23) (mOp gMul (mOp gFdiv (mVar 23) (mC (.int 20))) (mC (.int 20)))) mNil)))))
def T19 : Sl → M Bool := (mTest (mCall F_law_in [] (mCons (mVar 19) (mCons (mOp gFdiv (mVar 23) (mC (.int 20))) (mCons (mOp gSub (mVar 23) (mOp gMul (mOp gFdiv (mVar 23) (mC (.int 20))) (mC (.int 20)))) mNil)))))
def EL : Sl → M LV := (mTup (mCons (mOp gFdiv (mVar 23) (mC (.int 20))) (mCons (mOp gSub (mVar 23) (mOp gMul (mOp gFdiv (mVar 23) (mC (.int 20))) (mC (.int 20)))) mNil)))
theorem cm20 (t : Int) : cMul t 20 = true := by simp [cMul]
theorem d20 : (decide ((0 : Int) < 20) && decide ((20 : Int) < 1073741824)) = true := rfl
theorem e_fd {q : Int} {L : LH} : gFdiv (.int q) (.int 20) L = .ok (.int (q / 20)) L := by
  show (if (decide ((0 : Int) < 20) && decide ((20 : Int) < 1073741824)) = true then Res.ok (LV.int (q / 20)) L else .no) = _
  rw [d20, if_pos rfl]
theorem t18_ok {q : Int} {a : A4} {Y : Bool → LH → Prop} (h : Y (inn a (q / 20) (q - q / 20 * 20)) L) : WP (T18 [x0, x1, x2, x3, x4, x5, x6, x7, x8, x9, x10, x11, x12, x13, x14, x15, x16, x17, some a.v, x20, x21, x22, x24, some (.int q), x23] L) Y := by
  unfold T18
  simp only [WP_bind, WP_ok, WP_no, WP_ite, WS_lift', WS_next, WS_ret, WS_brk, WS_cont, WS_seq, WS_ite, WP_call, mSeq, mIfS, mAsg, mRet, mRetN, mSetIx, mDrop, mOr, mAnd, mNot, mTest, mOp, mVar, mC, mCons, mNil, mBlt, mTup, mFl, mLst, mIf, mUn, mNotV, mAndV, mOrV, toB, mSkip, mBreak, mCont, mPar, e_gI, e_gIc, e_gMul, e_gAdd, e_gCmp, e_gEq, e_gEqS, e_ix30, e_ix31, e_ix32, e_set30, e_set31, e_set32, e_t40, e_t41, e_t42, e_t43, Bool.false_eq_true, gN, gT, gNil, gCons, Option.bind_some, Option.bind_none, fAbs, fMax, fMin, fInt,   List.map_cons, List.map_nil, List.cons_append, List.nil_append, List.length_cons, List.length_nil, List.replicate, List.set_cons_succ, List.set_cons_zero, List.getElem?_cons_succ, List.getElem?_cons_zero, Nat.reduceSub, Nat.reduceAdd, Nat.reduceLeDiff, if_true, if_false, true_and, and_true, false_and, and_false, mChain, mRaise, mBM, mFld, mDGet1, mDGet2, mDPut, mSetFld, mMeth, mCall, mMake, mDNew, isNon, mFor, mI, mIt, mLc, mYes, mTupG, gTupG, mSl, mNoP, mPart, mJoin, wipeL, List.append_nil, Bool.not_true, Bool.not_false, decide_true, true_implies, false_implies, implies_true, reduceCtorEq, Bool.true_eq_false, Bool.and_true, Bool.true_and, WP_exc, WS_exc, cm20, d20]
  refine in_ok ?_
  exact h
theorem t19_ok {q : Int} {b : A4} {Y : Bool → LH → Prop} (h : Y (inn b (q / 20) (q - q / 20 * 20)) L) : WP (T19 [x0, x1, x2, x3, x4, x5, x6, x7, x8, x9, x10, x11, x12, x13, x14, x15, x16, x17, x20, some b.v, x21, x22, x24, some (.int q), x23] L) Y := by
  unfold T19
  simp only [WP_bind, WP_ok, WP_no, WP_ite, WS_lift', WS_next, WS_ret, WS_brk, WS_cont, WS_seq, WS_ite, WP_call, mSeq, mIfS, mAsg, mRet, mRetN, mSetIx, mDrop, mOr, mAnd, mNot, mTest, mOp, mVar, mC, mCons, mNil, mBlt, mTup, mFl, mLst, mIf, mUn, mNotV, mAndV, mOrV, toB, mSkip, mBreak, mCont, mPar, e_gI, e_gIc, e_gMul, e_gAdd, e_gCmp, e_gEq, e_gEqS, e_ix30, e_ix31, e_ix32, e_set30, e_set31, e_set32, e_t40, e_t41, e_t42, e_t43, Bool.false_eq_true, gN, gT, gNil, gCons, Option.bind_some, Option.bind_none, fAbs, fMax, fMin, fInt,   List.map_cons, List.map_nil, List.cons_append, List.nil_append, List.length_cons, List.length_nil, List.replicate, List.set_cons_succ, List.set_cons_zero, List.getElem?_cons_succ, List.getElem?_cons_zero, Nat.reduceSub, Nat.reduceAdd, Nat.reduceLeDiff, if_true, if_false, true_and, and_true, false_and, and_false, mChain, mRaise, mBM, mFld, mDGet1, mDGet2, mDPut, mSetFld, mMeth, mCall, mMake, mDNew, isNon, mFor, mI, mIt, mLc, mYes, mTupG, gTupG, mSl, mNoP, mPart, mJoin, wipeL, List.append_nil, Bool.not_true, Bool.not_false, decide_true, true_implies, false_implies, implies_true, reduceCtorEq, Bool.true_eq_false, Bool.and_true, Bool.true_and, WP_exc, WS_exc, cm20, d20]
  refine in_ok ?_
  exact h
theorem el_ok {s : Sl} {q : Int} {Y : LV → LH → Prop} (hs : s[23]? = some (some (.int q))) (h : Y (.tup [.int (q / 20), .int (q - q / 20 * 20)]) L) : WP (EL s L) Y := by
  unfold EL
  simp only [WP_bind, WP_ok, WP_no, WP_ite, WS_lift', WS_next, WS_ret, WS_brk, WS_cont, WS_seq, WS_ite, WP_call, mSeq, mIfS, mAsg, mRet, mRetN, mSetIx, mDrop, mOr, mAnd, mNot, mTest, mOp, mVar, mC, mCons, mNil, mBlt, mTup, mFl, mLst, mIf, mUn, mNotV, mAndV, mOrV, toB, mSkip, mBreak, mCont, mPar, e_gI, e_gIc, e_gMul, e_gAdd, e_gCmp, e_gEq, e_gEqS, e_ix30, e_ix31, e_ix32, e_set30, e_set31, e_set32, e_t40, e_t41, e_t42, e_t43, Bool.false_eq_true, gN, gT, gNil, gCons, Option.bind_some, Option.bind_none, fAbs, fMax, fMin, fInt,   List.map_cons, List.map_nil, List.cons_append, List.nil_append, List.length_cons, List.length_nil, List.replicate, List.set_cons_succ, List.set_cons_zero, List.getElem?_cons_succ, List.getElem?_cons_zero, Nat.reduceSub, Nat.reduceAdd, Nat.reduceLeDiff, if_true, if_false, true_and, and_true, false_and, and_false, mChain, mRaise, mBM, mFld, mDGet1, mDGet2, mDPut, mSetFld, mMeth, mCall, mMake, mDNew, isNon, mFor, mI, mIt, mLc, mYes, mTupG, gTupG, mSl, mNoP, mPart, mJoin, wipeL, List.append_nil, Bool.not_true, Bool.not_false, decide_true, true_implies, false_implies, implies_true, reduceCtorEq, Bool.true_eq_false, Bool.and_true, Bool.true_and, WP_exc, WS_exc, cm20, d20, hs]
  exact h
theorem sh_eq : SH = (mAsg (mLc (mI range1 (mCons (mC (.int 400)) mNil)) (gN 23) (mAnd T18 T19) EL [23]) (gN 21)) := rfl
theorem spot_ok {q : Int} {a b : A4} {Z : Bool → LH → Prop} (h0 : (inn a (q / 20) (q - q / 20 * 20) && inn b (q / 20) (q - q / 20 * 20)) = false → Z false L) (h1 : (inn a (q / 20) (q - q / 20 * 20) && inn b (q / 20) (q - q / 20 * 20)) = true → Z true L) :
    WP (mAnd T18 T19 [x0, x1, x2, x3, x4, x5, x6, x7, x8, x9, x10, x11, x12, x13, x14, x15, x16, x17, some a.v, some b.v, x20, x21, x22, some (.int q), x23] L) Z := by
  simp only [mAnd, WP_bind]
  refine t18_ok ?_
  cases ha : inn a (q / 20) (q - q / 20 * 20) with
  | false => exact h0 (by rw [ha]; rfl)
  | true =>
    rw [if_pos rfl]
    refine t19_ok ?_
    cases hb : inn b (q / 20) (q - q / 20 * 20) with
    | false => exact h0 (by rw [ha, hb]; rfl)
    | true => exact h1 (by rw [ha, hb]; rfl)
theorem sh_ok {a b : A4} {N : Nat} (hN : (400 : Int).toNat = N) (hN2 : N ≤ 1000) (hz : DD.nx [x0, x1, x2, x3, x4, x5, x6, x7, x8, x9, x10, x11, x12, x13, x14, x15, x16, x17, some a.v, some b.v, x20, some (.fl (spots (meet a b) N)), x22, x23, x24] L) :
    WS (SH [x0, x1, x2, x3, x4, x5, x6, x7, x8, x9, x10, x11, x12, x13, x14, x15, x16, x17, some a.v, some b.v, x20, x21, x22, x23, x24] L) DD := by
  rw [sh_eq]
  simp only [mAsg, WS_lift', mLc, mI, WP_bind, mCons, mC, mNil, WP_ok]
  refine range1_ok (by omega) (by omega) ?_
  rw [hN]
  refine WP_lc (n := N) (fun i acc L' => acc = spots (meet a b) i ∧ L' = L) (by unfold FUEL; omega) (fun i acc L' hi ⟨e, _⟩ => by rw [e]; have := spots_len (meet a b) i; omega) ?_ ?_ ⟨rfl, rfl⟩
  · rintro i acc L' hi ⟨rfl, rfl⟩
    refine ⟨_, _, itR_at hi, rfl, ?_⟩
    rw [show (0 + (i : Int)) = (i : Int) by omega]
    have es : spot i = .tup [.int ((i : Int) / 20), .int ((i : Int) - (i : Int) / 20 * 20)] := rfl
    have eb : inK (meet a b) i = (inn a ((i : Int) / 20) ((i : Int) - (i : Int) / 20 * 20) && inn b ((i : Int) / 20) ((i : Int) - (i : Int) / 20 * 20)) := inn_both
    have s1 := spots_succ (meet a b) i
    generalize (i : Int) = q at es eb ⊢
    refine spot_ok (a := a) (b := b) (fun e => ?_) (fun e => ?_)
    · rw [if_neg (by decide), s1, eb, e, if_neg (by decide)]
      exact ⟨rfl, rfl⟩
    · rw [if_pos rfl]
      refine el_ok (q := q) rfl ?_
      rw [s1, eb, e, if_pos rfl, es]
      exact ⟨rfl, rfl⟩
  · rintro acc L' ⟨rfl, rfl⟩
    exact ⟨itR_end, hz⟩
end
end Q.K07
end
section
set_option Elab.async false
set_option linter.all false
set_option maxRecDepth 100000
set_option maxHeartbeats 2000000
namespace Q.K07
open PySem L2 Q
/-- a comprehension none of whose items is taken -/
theorem none_ok {fi : Sl → M LV} {tt : Sl → M Bool} {el : Sl → M LV} {i : Nat} {vs : List Nat} {s : Sl} {L : LH} {x : LV} {xs : List LV} {Z : LV → LH → Prop} (ex : fi s L = .ok x L) (hit : itOf x L = .ok (itV xs) L) (hn : xs.length < 100000)
    (ht : ∀ v, v ∈ xs → ∀ Y : Bool → LH → Prop, Y false L → WP (tt ((wipeL s vs).set i (some v)) L) Y) (hz : Z (.fl []) L) : WP (mLc (mIt fi) (gN i) tt el vs s L) Z := by
  unfold mLc mIt
  simp only [WP_bind, ex, WP_ok, hit]
  refine WP_lc (n := xs.length) (fun j acc L' => acc = [] ∧ L' = L) (by unfold FUEL; omega) (fun j acc L' hj ⟨e, _⟩ => by rw [e]; decide) ?_ ?_ ?_
  · rintro j acc L' hj ⟨rfl, rfl⟩
    refine ⟨xs[j], _, by unfold itV; rw [List.getElem?_eq_getElem hj], rfl, ?_⟩
    refine ht _ (List.getElem_mem hj) _ ?_
    rw [if_neg (by decide)]
    exact ⟨rfl, rfl⟩
  · rintro acc L' ⟨rfl, rfl⟩
    exact ⟨by unfold itV; rw [List.getElem?_eq_none (Nat.le_refl _)], hz⟩
  · exact ⟨rfl, rfl⟩
theorem e_lenF {xs : List LV} {L : LH} : fLen [.fl xs] L = .ok (.int xs.length) L := rfl
section
variable {L : LH} {x0 x1 x2 x3 x4 x5 x6 x7 x8 x9 x10 x11 x12 x13 x14 x15 x16 x17 x18 x19 x22 x23 x24 : Option LV} {DD : EW}
def CH6 : Sl → M Bool := (mOr (mTest (mOp (gEq true) (mLc (mIt (mVar 21)) (gN 24) (mNot (mTest (mCall F_law_in [] (mCons (mVar 20) (mCons (mOp gIx (mVar 24) (mC (.int 0))) (mCons (mOp gIx (mVar 24) (mC (.int 1))) mNil)))))) (mVar 24) [24]) (mFl mNil))) (mOr (mTest (mOp (gEq true) (mOp gMul (mOp gIx (mVar 20) (mC (.int 2))) (mOp gIx (mVar 20) (mC (.int 3)))) (mBlt fLen (mCons (mVar 21) mNil)))) (mTest (mOp gLt (mBlt fMin (mCons (mOp gIx (mVar 20) (mC (.int 2))) (mCons (mOp gIx (mVar 20) (mC (.int 3))) mNil))) (mC (.int 0))))))
theorem e_s20 {a b : LV} {L : LH} : gIx (.tup [a, b]) (.int 0) L = .ok a L := rfl
theorem e_s21 {a b : LV} {L : LH} : gIx (.tup [a, b]) (.int 1) L = .ok b L := rfl
theorem ch6_ok {b : A4} {Y : Bool → LH → Prop} {N : Nat} (hN : N = 400) (h1 : 0 ≤ b.l ∧ 0 ≤ b.w ∧ b.l + b.w ≤ 20) (h2 : 0 ≤ b.t ∧ 0 ≤ b.h ∧ b.t + b.h ≤ 20) (hz : Y false L) :
    WP (CH6 [x0, x1, x2, x3, x4, x5, x6, x7, x8, x9, x10, x11, x12, x13, x14, x15, x16, x17, x18, x19, some b.v, some (.fl (spots b N)), x22, x23, x24] L) Y := by
  have hc : ((spots b N).length : Int) = b.w * b.h := by
    subst hN
    unfold spots
    rw [List.length_map]
    exact count_both h1 h2
  have hl := spots_len b N
  unfold CH6
  simp only [mOr, mTest, mOp, WP_bind]
  refine none_ok (x := .fl (spots b N)) (xs := spots b N) rfl rfl (by omega) (fun v hv Y hY => ?_) ?_
  · obtain ⟨k, hk, rfl⟩ := List.mem_map.mp (show v ∈ ((List.range N).filter (inK b)).map spot from hv)
    have hi := (List.mem_filter.mp hk).2
    unfold spot
    simp only [WP_bind, WP_ok, WP_no, WP_ite, WS_lift', WS_next, WS_ret, WS_brk, WS_cont, WS_seq, WS_ite, WP_call, mSeq, mIfS, mAsg, mRet, mRetN, mSetIx, mDrop, mOr, mAnd, mNot, mTest, mOp, mVar, mC, mCons, mNil, mBlt, mTup, mFl, mLst, mIf, mUn, mNotV, mAndV, mOrV, toB, mSkip, mBreak, mCont, mPar, e_gI, e_gIc, e_gMul, e_gAdd, e_gCmp, e_gEq, e_gEqS, e_ix30, e_ix31, e_ix32, e_set30, e_set31, e_set32, e_t40, e_t41, e_t42, e_t43, Bool.false_eq_true, gN, gT, gNil, gCons, Option.bind_some, Option.bind_none, fAbs, fMax, fMin, fInt,   List.map_cons, List.map_nil, List.cons_append, List.nil_append, List.length_cons, List.length_nil, List.replicate, List.set_cons_succ, List.set_cons_zero, List.getElem?_cons_succ, List.getElem?_cons_zero, Nat.reduceSub, Nat.reduceAdd, Nat.reduceLeDiff, if_true, if_false, true_and, and_true, false_and, and_false, mChain, mRaise, mBM, mFld, mDGet1, mDGet2, mDPut, mSetFld, mMeth, mCall, mMake, mDNew, isNon, mFor, mI, mIt, mLc, mYes, mTupG, gTupG, mSl, mNoP, mPart, mJoin, wipeL, List.append_nil, Bool.not_true, Bool.not_false, decide_true, true_implies, false_implies, implies_true, reduceCtorEq, Bool.true_eq_false, Bool.and_true, Bool.true_and, WP_exc, WS_exc, e_s20, e_s21]
    refine in_ok ?_
    have e2 : decide (b.l ≤ (k : Int) / 20 ∧ (k : Int) / 20 < b.l + b.w ∧ b.t ≤ (k : Int) - (k : Int) / 20 * 20 ∧ (k : Int) - (k : Int) / 20 * 20 < b.t + b.h) = true := hi
    rw [e2]
    exact hY
  · have e0 : ∀ L, gEq true (.fl []) (.fl []) L = .ok (.bl false) L := fun L => rfl
    have em : cMul b.w b.h = true := by simp [cMul]; omega
    simp only [WP_bind, WP_ok, WP_no, WP_ite, WS_lift', WS_next, WS_ret, WS_brk, WS_cont, WS_seq, WS_ite, WP_call, mSeq, mIfS, mAsg, mRet, mRetN, mSetIx, mDrop, mOr, mAnd, mNot, mTest, mOp, mVar, mC, mCons, mNil, mBlt, mTup, mFl, mLst, mIf, mUn, mNotV, mAndV, mOrV, toB, mSkip, mBreak, mCont, mPar, e_gI, e_gIc, e_gMul, e_gAdd, e_gCmp, e_gEq, e_gEqS, e_ix30, e_ix31, e_ix32, e_set30, e_set31, e_set32, e_t40, e_t41, e_t42, e_t43, Bool.false_eq_true, gN, gT, gNil, gCons, Option.bind_some, Option.bind_none, fAbs, fMax, fMin, fInt,   List.map_cons, List.map_nil, List.cons_append, List.nil_append, List.length_cons, List.length_nil, List.replicate, List.set_cons_succ, List.set_cons_zero, List.getElem?_cons_succ, List.getElem?_cons_zero, Nat.reduceSub, Nat.reduceAdd, Nat.reduceLeDiff, if_true, if_false, true_and, and_true, false_and, and_false, mChain, mRaise, mBM, mFld, mDGet1, mDGet2, mDPut, mSetFld, mMeth, mCall, mMake, mDNew, isNon, mFor, mI, mIt, mLc, mYes, mTupG, gTupG, mSl, mNoP, mPart, mJoin, wipeL, List.append_nil, Bool.not_true, Bool.not_false, decide_true, true_implies, false_implies, implies_true, reduceCtorEq, Bool.true_eq_false, Bool.and_true, Bool.true_and, WP_exc, WS_exc, e0, e_lenF, em, hc]
    have e3 : decide ((if b.h < b.w then b.h else b.w) < 0) = false := decide_eq_false (by split <;> omega)
    simp only [WP_bind, WP_ok, WP_no, WP_ite, WS_lift', WS_next, WS_ret, WS_brk, WS_cont, WS_seq, WS_ite, WP_call, mSeq, mIfS, mAsg, mRet, mRetN, mSetIx, mDrop, mOr, mAnd, mNot, mTest, mOp, mVar, mC, mCons, mNil, mBlt, mTup, mFl, mLst, mIf, mUn, mNotV, mAndV, mOrV, toB, mSkip, mBreak, mCont, mPar, e_gI, e_gIc, e_gMul, e_gAdd, e_gCmp, e_gEq, e_gEqS, e_ix30, e_ix31, e_ix32, e_set30, e_set31, e_set32, e_t40, e_t41, e_t42, e_t43, Bool.false_eq_true, gN, gT, gNil, gCons, Option.bind_some, Option.bind_none, fAbs, fMax, fMin, fInt,   List.map_cons, List.map_nil, List.cons_append, List.nil_append, List.length_cons, List.length_nil, List.replicate, List.set_cons_succ, List.set_cons_zero, List.getElem?_cons_succ, List.getElem?_cons_zero, Nat.reduceSub, Nat.reduceAdd, Nat.reduceLeDiff, if_true, if_false, true_and, and_true, false_and, and_false, mChain, mRaise, mBM, mFld, mDGet1, mDGet2, mDPut, mSetFld, mMeth, mCall, mMake, mDNew, isNon, mFor, mI, mIt, mLc, mYes, mTupG, gTupG, mSl, mNoP, mPart, mJoin, wipeL, List.append_nil, Bool.not_true, Bool.not_false, decide_true, true_implies, false_implies, implies_true, reduceCtorEq, Bool.true_eq_false, Bool.and_true, Bool.true_and, WP_exc, WS_exc, e3]
    exact hz
end
end Q.K07
end
section
set_option Elab.async false
set_option linter.all false
set_option maxRecDepth 100000
set_option maxHeartbeats 4000000
namespace Q.K07
open PySem L2 Q
def A1 : MS := (mAsg (mTup (mCons (mOp gAdd (mC (.int 1)) (mCall F_law_roll [] (mCons (mVar 1) (mCons (mC (.int 30)) mNil)))) (mCons (mCall F_law_roll [] (mCons (mVar 1) (mCons (mC (.int 21)) mNil))) (mCons (mDNew (.dT [])) mNil)))) (gT 3 (gCons (gN 2) (gCons (gN 3) (gCons (gN 4) gNil)))))
def A2 : MS := (mAsg (mMake i_Canvas F_Canvas_init [] (mCons (mVar 2) (mCons (mVar 3) mNil))) (gN 22))
def A3 : MS := (mAsg (mTup (mCons (mOp gSub (mCall F_law_roll [] (mCons (mVar 1) (mCons (mC (.int 40)) mNil))) (mC (.int 5))) (mCons (mOp gSub (mCall F_law_roll [] (mCons (mVar 1) (mCons (mC (.int 30)) mNil))) (mC (.int 5))) mNil))) (gT 2 (gCons (gN 16) (gCons (gN 15) gNil))))
def A4' (k : Nat) : MS := (mAsg (mTup (mCons (mCall F_law_roll [] (mCons (mVar 1) (mCons (mC (.int 9)) mNil))) (mCons (mCall F_law_roll [] (mCons (mVar 1) (mCons (mC (.int 9)) mNil))) (mCons (mCall F_law_roll [] (mCons (mVar 1) (mCons (mC (.int 9)) mNil))) (mCons (mCall F_law_roll [] (mCons (mVar 1) (mCons (mC (.int 9)) mNil))) mNil))))) (gN k))
def A6 : MS := (mAsg (mCall F_meeting [] (mCons (mVar 18) (mCons (mVar 19) mNil))) (gN 20))
def NO : MS := mRet (mC (.bl false))
def STEPS : MS := mFor (mI range1 (mCons (mCall F_law_roll [] (mCons (mVar 1) (mCons (mC (.int 21)) mNil))) mNil)) (gN 5) STEP
def ROUND : MS := mSeq A1 (mSeq A2 (mSeq STEPS (mSeq DUE (mSeq (mIfS (mOr CH1 CH2) NO mSkip) (mSeq (mIfS (mOr CH3 CH4) NO mSkip) (mSeq A3 (mSeq (mIfS CH5 NO mSkip) (mSeq (A4' 18) (mSeq (A4' 19) (mSeq A6 (mSeq SH (mIfS CH6 NO mSkip))))))))))))
theorem law_eq : B_law = mSeq (mFor (mIt (mCall F_law_rounds [] (mCons (mVar 0) (mCons (mC (.int 1)) mNil)))) (gN 1) ROUND) FIN := rfl
section
variable {L : LH} {x0 x2 x3 x4 x5 x6 x7 x8 x9 x10 x11 x12 x13 x14 x15 x16 x17 x18 x19 x20 x21 x22 x23 x24 : Option LV} {x y z w h : Int} {DD : EW} {R : LH}
theorem a1_ok (k : ∀ w h x y z, 1 ≤ w ∧ w ≤ 30 ∧ 0 ≤ h ∧ h ≤ 20 → DD.nx [x0, some (.ref 0), some (.int w), some (.int h), some (.ref 1), x5, x6, x7, x8, x9, x10, x11, x12, x13, x14, x15, x16, x17, x18, x19, x20, x21, x22, x23, x24] [.lst [.int x, .int y, .int z], .dT []]) :
    WS (A1 [x0, some (.ref 0), x2, x3, x4, x5, x6, x7, x8, x9, x10, x11, x12, x13, x14, x15, x16, x17, x18, x19, x20, x21, x22, x23, x24] [.lst [.int x, .int y, .int z]]) DD := by
  unfold A1
  try simp only [WP_bind, WP_ok, WP_no, WP_ite, WS_lift', WS_next, WS_ret, WS_brk, WS_cont, WS_seq, WS_ite, WP_call, mSeq, mIfS, mAsg, mRet, mRetN, mSetIx, mDrop, mOr, mAnd, mNot, mTest, mOp, mVar, mC, mCons, mNil, mBlt, mTup, mFl, mLst, mIf, mUn, mNotV, mAndV, mOrV, toB, mSkip, mBreak, mCont, mPar, e_gI, e_gIc, e_gMul, e_gAdd, e_gCmp, e_gEq, e_gEqS, e_ix30, e_ix31, e_ix32, e_set30, e_set31, e_set32, e_t40, e_t41, e_t42, e_t43, Bool.false_eq_true, gN, gT, gNil, gCons, Option.bind_some, Option.bind_none, fAbs, fMax, fMin, fInt,   List.map_cons, List.map_nil, List.cons_append, List.nil_append, List.length_cons, List.length_nil, List.replicate, List.set_cons_succ, List.set_cons_zero, List.getElem?_cons_succ, List.getElem?_cons_zero, Nat.reduceSub, Nat.reduceAdd, Nat.reduceLeDiff, if_true, if_false, true_and, and_true, false_and, and_false, mChain, mRaise, mBM, mFld, mDGet1, mDGet2, mDPut, mSetFld, mMeth, mCall, mMake, mDNew, isNon, mFor, mI, mIt, mLc, mYes, mTupG, gTupG, mSl, mNoP, mPart, mJoin, wipeL, List.append_nil, Bool.not_true, Bool.not_false, decide_true, true_implies, false_implies, implies_true, reduceCtorEq, Bool.true_eq_false, Bool.and_true, Bool.true_and, WP_exc, WS_exc, if_true]
  refine roll_ok (by decide) (by decide) fun a x y z a0 a1 => ?_
  try simp only [WP_bind, WP_ok, WP_no, WP_ite, WS_lift', WS_next, WS_ret, WS_brk, WS_cont, WS_seq, WS_ite, WP_call, mSeq, mIfS, mAsg, mRet, mRetN, mSetIx, mDrop, mOr, mAnd, mNot, mTest, mOp, mVar, mC, mCons, mNil, mBlt, mTup, mFl, mLst, mIf, mUn, mNotV, mAndV, mOrV, toB, mSkip, mBreak, mCont, mPar, e_gI, e_gIc, e_gMul, e_gAdd, e_gCmp, e_gEq, e_gEqS, e_ix30, e_ix31, e_ix32, e_set30, e_set31, e_set32, e_t40, e_t41, e_t42, e_t43, Bool.false_eq_true, gN, gT, gNil, gCons, Option.bind_some, Option.bind_none, fAbs, fMax, fMin, fInt,   List.map_cons, List.map_nil, List.cons_append, List.nil_append, List.length_cons, List.length_nil, List.replicate, List.set_cons_succ, List.set_cons_zero, List.getElem?_cons_succ, List.getElem?_cons_zero, Nat.reduceSub, Nat.reduceAdd, Nat.reduceLeDiff, if_true, if_false, true_and, and_true, false_and, and_false, mChain, mRaise, mBM, mFld, mDGet1, mDGet2, mDPut, mSetFld, mMeth, mCall, mMake, mDNew, isNon, mFor, mI, mIt, mLc, mYes, mTupG, gTupG, mSl, mNoP, mPart, mJoin, wipeL, List.append_nil, Bool.not_true, Bool.not_false, decide_true, true_implies, false_implies, implies_true, reduceCtorEq, Bool.true_eq_false, Bool.and_true, Bool.true_and, WP_exc, WS_exc, if_true]
  refine roll_ok (by decide) (by decide) fun b x y z b0 b1 => ?_
  simp only [WP_bind, WP_ok, WP_no, WP_ite, WS_lift', WS_next, WS_ret, WS_brk, WS_cont, WS_seq, WS_ite, WP_call, mSeq, mIfS, mAsg, mRet, mRetN, mSetIx, mDrop, mOr, mAnd, mNot, mTest, mOp, mVar, mC, mCons, mNil, mBlt, mTup, mFl, mLst, mIf, mUn, mNotV, mAndV, mOrV, toB, mSkip, mBreak, mCont, mPar, e_gI, e_gIc, e_gMul, e_gAdd, e_gCmp, e_gEq, e_gEqS, e_ix30, e_ix31, e_ix32, e_set30, e_set31, e_set32, e_t40, e_t41, e_t42, e_t43, Bool.false_eq_true, gN, gT, gNil, gCons, Option.bind_some, Option.bind_none, fAbs, fMax, fMin, fInt,   List.map_cons, List.map_nil, List.cons_append, List.nil_append, List.length_cons, List.length_nil, List.replicate, List.set_cons_succ, List.set_cons_zero, List.getElem?_cons_succ, List.getElem?_cons_zero, Nat.reduceSub, Nat.reduceAdd, Nat.reduceLeDiff, if_true, if_false, true_and, and_true, false_and, and_false, mChain, mRaise, mBM, mFld, mDGet1, mDGet2, mDPut, mSetFld, mMeth, mCall, mMake, mDNew, isNon, mFor, mI, mIt, mLc, mYes, mTupG, gTupG, mSl, mNoP, mPart, mJoin, wipeL, List.append_nil, Bool.not_true, Bool.not_false, decide_true, true_implies, false_implies, implies_true, reduceCtorEq, Bool.true_eq_false, Bool.and_true, Bool.true_and, WP_exc, WS_exc, mDNew]
  exact k _ _ _ _ _ ⟨by omega, by omega, b0, by omega⟩
theorem a2_ok (hw : 1 ≤ w ∧ w ≤ 30) (hh : 0 ≤ h ∧ h ≤ 20) (k : DD.nx [x0, some (.ref 0), some (.int w), some (.int h), x4, x5, x6, x7, x8, x9, x10, x11, x12, x13, x14, x15, x16, x17, x18, x19, x20, x21, some (.ref 2), x23, x24] (St (.lst [.int x, .int y, .int z]) [] w h [] [])) :
    WS (A2 [x0, some (.ref 0), some (.int w), some (.int h), x4, x5, x6, x7, x8, x9, x10, x11, x12, x13, x14, x15, x16, x17, x18, x19, x20, x21, x22, x23, x24] [.lst [.int x, .int y, .int z], .dT []]) DD := by
  unfold A2
  try simp only [WP_bind, WP_ok, WP_no, WP_ite, WS_lift', WS_next, WS_ret, WS_brk, WS_cont, WS_seq, WS_ite, WP_call, mSeq, mIfS, mAsg, mRet, mRetN, mSetIx, mDrop, mOr, mAnd, mNot, mTest, mOp, mVar, mC, mCons, mNil, mBlt, mTup, mFl, mLst, mIf, mUn, mNotV, mAndV, mOrV, toB, mSkip, mBreak, mCont, mPar, e_gI, e_gIc, e_gMul, e_gAdd, e_gCmp, e_gEq, e_gEqS, e_ix30, e_ix31, e_ix32, e_set30, e_set31, e_set32, e_t40, e_t41, e_t42, e_t43, Bool.false_eq_true, gN, gT, gNil, gCons, Option.bind_some, Option.bind_none, fAbs, fMax, fMin, fInt,   List.map_cons, List.map_nil, List.cons_append, List.nil_append, List.length_cons, List.length_nil, List.replicate, List.set_cons_succ, List.set_cons_zero, List.getElem?_cons_succ, List.getElem?_cons_zero, Nat.reduceSub, Nat.reduceAdd, Nat.reduceLeDiff, if_true, if_false, true_and, and_true, false_and, and_false, mChain, mRaise, mBM, mFld, mDGet1, mDGet2, mDPut, mSetFld, mMeth, mCall, mMake, mDNew, isNon, mFor, mI, mIt, mLc, mYes, mTupG, gTupG, mSl, mNoP, mPart, mJoin, wipeL, List.append_nil, Bool.not_true, Bool.not_false, decide_true, true_implies, false_implies, implies_true, reduceCtorEq, Bool.true_eq_false, Bool.and_true, Bool.true_and, WP_exc, WS_exc, if_true]
  have hp : w * h ≤ 30 * 20 := Int.mul_le_mul hw.2 hh.2 hh.1 (by decide)
  refine init_ok hw.1 hh.1 (by omega) (by omega) ?_
  try simp only [WP_bind, WP_ok, WP_no, WP_ite, WS_lift', WS_next, WS_ret, WS_brk, WS_cont, WS_seq, WS_ite, WP_call, mSeq, mIfS, mAsg, mRet, mRetN, mSetIx, mDrop, mOr, mAnd, mNot, mTest, mOp, mVar, mC, mCons, mNil, mBlt, mTup, mFl, mLst, mIf, mUn, mNotV, mAndV, mOrV, toB, mSkip, mBreak, mCont, mPar, e_gI, e_gIc, e_gMul, e_gAdd, e_gCmp, e_gEq, e_gEqS, e_ix30, e_ix31, e_ix32, e_set30, e_set31, e_set32, e_t40, e_t41, e_t42, e_t43, Bool.false_eq_true, gN, gT, gNil, gCons, Option.bind_some, Option.bind_none, fAbs, fMax, fMin, fInt,   List.map_cons, List.map_nil, List.cons_append, List.nil_append, List.length_cons, List.length_nil, List.replicate, List.set_cons_succ, List.set_cons_zero, List.getElem?_cons_succ, List.getElem?_cons_zero, Nat.reduceSub, Nat.reduceAdd, Nat.reduceLeDiff, if_true, if_false, true_and, and_true, false_and, and_false, mChain, mRaise, mBM, mFld, mDGet1, mDGet2, mDPut, mSetFld, mMeth, mCall, mMake, mDNew, isNon, mFor, mI, mIt, mLc, mYes, mTupG, gTupG, mSl, mNoP, mPart, mJoin, wipeL, List.append_nil, Bool.not_true, Bool.not_false, decide_true, true_implies, false_implies, implies_true, reduceCtorEq, Bool.true_eq_false, Bool.and_true, Bool.true_and, WP_exc, WS_exc, if_true]
  exact k
theorem a3_ok (k : ∀ c r x y z : Int, DD.nx [x0, some (.ref 0), x2, x3, x4, x5, x6, x7, x8, x9, x10, x11, x12, x13, x14, some (.int r), some (.int c), x17, x18, x19, x20, x21, x22, x23, x24] (.lst [.int x, .int y, .int z] :: R)) :
    WS (A3 [x0, some (.ref 0), x2, x3, x4, x5, x6, x7, x8, x9, x10, x11, x12, x13, x14, x15, x16, x17, x18, x19, x20, x21, x22, x23, x24] (.lst [.int x, .int y, .int z] :: R)) DD := by
  unfold A3
  try simp only [WP_bind, WP_ok, WP_no, WP_ite, WS_lift', WS_next, WS_ret, WS_brk, WS_cont, WS_seq, WS_ite, WP_call, mSeq, mIfS, mAsg, mRet, mRetN, mSetIx, mDrop, mOr, mAnd, mNot, mTest, mOp, mVar, mC, mCons, mNil, mBlt, mTup, mFl, mLst, mIf, mUn, mNotV, mAndV, mOrV, toB, mSkip, mBreak, mCont, mPar, e_gI, e_gIc, e_gMul, e_gAdd, e_gCmp, e_gEq, e_gEqS, e_ix30, e_ix31, e_ix32, e_set30, e_set31, e_set32, e_t40, e_t41, e_t42, e_t43, Bool.false_eq_true, gN, gT, gNil, gCons, Option.bind_some, Option.bind_none, fAbs, fMax, fMin, fInt,   List.map_cons, List.map_nil, List.cons_append, List.nil_append, List.length_cons, List.length_nil, List.replicate, List.set_cons_succ, List.set_cons_zero, List.getElem?_cons_succ, List.getElem?_cons_zero, Nat.reduceSub, Nat.reduceAdd, Nat.reduceLeDiff, if_true, if_false, true_and, and_true, false_and, and_false, mChain, mRaise, mBM, mFld, mDGet1, mDGet2, mDPut, mSetFld, mMeth, mCall, mMake, mDNew, isNon, mFor, mI, mIt, mLc, mYes, mTupG, gTupG, mSl, mNoP, mPart, mJoin, wipeL, List.append_nil, Bool.not_true, Bool.not_false, decide_true, true_implies, false_implies, implies_true, reduceCtorEq, Bool.true_eq_false, Bool.and_true, Bool.true_and, WP_exc, WS_exc, if_true]
  refine roll_ok (by decide) (by decide) fun a x y z a0 a1 => ?_
  try simp only [WP_bind, WP_ok, WP_no, WP_ite, WS_lift', WS_next, WS_ret, WS_brk, WS_cont, WS_seq, WS_ite, WP_call, mSeq, mIfS, mAsg, mRet, mRetN, mSetIx, mDrop, mOr, mAnd, mNot, mTest, mOp, mVar, mC, mCons, mNil, mBlt, mTup, mFl, mLst, mIf, mUn, mNotV, mAndV, mOrV, toB, mSkip, mBreak, mCont, mPar, e_gI, e_gIc, e_gMul, e_gAdd, e_gCmp, e_gEq, e_gEqS, e_ix30, e_ix31, e_ix32, e_set30, e_set31, e_set32, e_t40, e_t41, e_t42, e_t43, Bool.false_eq_true, gN, gT, gNil, gCons, Option.bind_some, Option.bind_none, fAbs, fMax, fMin, fInt,   List.map_cons, List.map_nil, List.cons_append, List.nil_append, List.length_cons, List.length_nil, List.replicate, List.set_cons_succ, List.set_cons_zero, List.getElem?_cons_succ, List.getElem?_cons_zero, Nat.reduceSub, Nat.reduceAdd, Nat.reduceLeDiff, if_true, if_false, true_and, and_true, false_and, and_false, mChain, mRaise, mBM, mFld, mDGet1, mDGet2, mDPut, mSetFld, mMeth, mCall, mMake, mDNew, isNon, mFor, mI, mIt, mLc, mYes, mTupG, gTupG, mSl, mNoP, mPart, mJoin, wipeL, List.append_nil, Bool.not_true, Bool.not_false, decide_true, true_implies, false_implies, implies_true, reduceCtorEq, Bool.true_eq_false, Bool.and_true, Bool.true_and, WP_exc, WS_exc, if_true]
  refine roll_ok (by decide) (by decide) fun b x y z b0 b1 => ?_
  try simp only [WP_bind, WP_ok, WP_no, WP_ite, WS_lift', WS_next, WS_ret, WS_brk, WS_cont, WS_seq, WS_ite, WP_call, mSeq, mIfS, mAsg, mRet, mRetN, mSetIx, mDrop, mOr, mAnd, mNot, mTest, mOp, mVar, mC, mCons, mNil, mBlt, mTup, mFl, mLst, mIf, mUn, mNotV, mAndV, mOrV, toB, mSkip, mBreak, mCont, mPar, e_gI, e_gIc, e_gMul, e_gAdd, e_gCmp, e_gEq, e_gEqS, e_ix30, e_ix31, e_ix32, e_set30, e_set31, e_set32, e_t40, e_t41, e_t42, e_t43, Bool.false_eq_true, gN, gT, gNil, gCons, Option.bind_some, Option.bind_none, fAbs, fMax, fMin, fInt,   List.map_cons, List.map_nil, List.cons_append, List.nil_append, List.length_cons, List.length_nil, List.replicate, List.set_cons_succ, List.set_cons_zero, List.getElem?_cons_succ, List.getElem?_cons_zero, Nat.reduceSub, Nat.reduceAdd, Nat.reduceLeDiff, if_true, if_false, true_and, and_true, false_and, and_false, mChain, mRaise, mBM, mFld, mDGet1, mDGet2, mDPut, mSetFld, mMeth, mCall, mMake, mDNew, isNon, mFor, mI, mIt, mLc, mYes, mTupG, gTupG, mSl, mNoP, mPart, mJoin, wipeL, List.append_nil, Bool.not_true, Bool.not_false, decide_true, true_implies, false_implies, implies_true, reduceCtorEq, Bool.true_eq_false, Bool.and_true, Bool.true_and, WP_exc, WS_exc, if_true]
  exact k _ _ _ _ _
theorem a4_ok (k : ∀ (a : A4) (x y z : Int), (0 ≤ a.l ∧ a.l ≤ 8) ∧ (0 ≤ a.t ∧ a.t ≤ 8) ∧ (0 ≤ a.w ∧ a.w ≤ 8) ∧ (0 ≤ a.h ∧ a.h ≤ 8) → DD.nx [x0, some (.ref 0), x2, x3, x4, x5, x6, x7, x8, x9, x10, x11, x12, x13, x14, x15, x16, x17, some a.v, x19, x20, x21, x22, x23, x24] (.lst [.int x, .int y, .int z] :: R)) :
    WS (A4' 18 [x0, some (.ref 0), x2, x3, x4, x5, x6, x7, x8, x9, x10, x11, x12, x13, x14, x15, x16, x17, x18, x19, x20, x21, x22, x23, x24] (.lst [.int x, .int y, .int z] :: R)) DD := by
  unfold A4'
  try simp only [WP_bind, WP_ok, WP_no, WP_ite, WS_lift', WS_next, WS_ret, WS_brk, WS_cont, WS_seq, WS_ite, WP_call, mSeq, mIfS, mAsg, mRet, mRetN, mSetIx, mDrop, mOr, mAnd, mNot, mTest, mOp, mVar, mC, mCons, mNil, mBlt, mTup, mFl, mLst, mIf, mUn, mNotV, mAndV, mOrV, toB, mSkip, mBreak, mCont, mPar, e_gI, e_gIc, e_gMul, e_gAdd, e_gCmp, e_gEq, e_gEqS, e_ix30, e_ix31, e_ix32, e_set30, e_set31, e_set32, e_t40, e_t41, e_t42, e_t43, Bool.false_eq_true, gN, gT, gNil, gCons, Option.bind_some, Option.bind_none, fAbs, fMax, fMin, fInt,   List.map_cons, List.map_nil, List.cons_append, List.nil_append, List.length_cons, List.length_nil, List.replicate, List.set_cons_succ, List.set_cons_zero, List.getElem?_cons_succ, List.getElem?_cons_zero, Nat.reduceSub, Nat.reduceAdd, Nat.reduceLeDiff, if_true, if_false, true_and, and_true, false_and, and_false, mChain, mRaise, mBM, mFld, mDGet1, mDGet2, mDPut, mSetFld, mMeth, mCall, mMake, mDNew, isNon, mFor, mI, mIt, mLc, mYes, mTupG, gTupG, mSl, mNoP, mPart, mJoin, wipeL, List.append_nil, Bool.not_true, Bool.not_false, decide_true, true_implies, false_implies, implies_true, reduceCtorEq, Bool.true_eq_false, Bool.and_true, Bool.true_and, WP_exc, WS_exc, if_true]
  refine roll_ok (by decide) (by decide) fun a x y z a0 a1 => ?_
  try simp only [WP_bind, WP_ok, WP_no, WP_ite, WS_lift', WS_next, WS_ret, WS_brk, WS_cont, WS_seq, WS_ite, WP_call, mSeq, mIfS, mAsg, mRet, mRetN, mSetIx, mDrop, mOr, mAnd, mNot, mTest, mOp, mVar, mC, mCons, mNil, mBlt, mTup, mFl, mLst, mIf, mUn, mNotV, mAndV, mOrV, toB, mSkip, mBreak, mCont, mPar, e_gI, e_gIc, e_gMul, e_gAdd, e_gCmp, e_gEq, e_gEqS, e_ix30, e_ix31, e_ix32, e_set30, e_set31, e_set32, e_t40, e_t41, e_t42, e_t43, Bool.false_eq_true, gN, gT, gNil, gCons, Option.bind_some, Option.bind_none, fAbs, fMax, fMin, fInt,   List.map_cons, List.map_nil, List.cons_append, List.nil_append, List.length_cons, List.length_nil, List.replicate, List.set_cons_succ, List.set_cons_zero, List.getElem?_cons_succ, List.getElem?_cons_zero, Nat.reduceSub, Nat.reduceAdd, Nat.reduceLeDiff, if_true, if_false, true_and, and_true, false_and, and_false, mChain, mRaise, mBM, mFld, mDGet1, mDGet2, mDPut, mSetFld, mMeth, mCall, mMake, mDNew, isNon, mFor, mI, mIt, mLc, mYes, mTupG, gTupG, mSl, mNoP, mPart, mJoin, wipeL, List.append_nil, Bool.not_true, Bool.not_false, decide_true, true_implies, false_implies, implies_true, reduceCtorEq, Bool.true_eq_false, Bool.and_true, Bool.true_and, WP_exc, WS_exc, if_true]
  refine roll_ok (by decide) (by decide) fun b x y z b0 b1 => ?_
  try simp only [WP_bind, WP_ok, WP_no, WP_ite, WS_lift', WS_next, WS_ret, WS_brk, WS_cont, WS_seq, WS_ite, WP_call, mSeq, mIfS, mAsg, mRet, mRetN, mSetIx, mDrop, mOr, mAnd, mNot, mTest, mOp, mVar, mC, mCons, mNil, mBlt, mTup, mFl, mLst, mIf, mUn, mNotV, mAndV, mOrV, toB, mSkip, mBreak, mCont, mPar, e_gI, e_gIc, e_gMul, e_gAdd, e_gCmp, e_gEq, e_gEqS, e_ix30, e_ix31, e_ix32, e_set30, e_set31, e_set32, e_t40, e_t41, e_t42, e_t43, Bool.false_eq_true, gN, gT, gNil, gCons, Option.bind_some, Option.bind_none, fAbs, fMax, fMin, fInt,   List.map_cons, List.map_nil, List.cons_append, List.nil_append, List.length_cons, List.length_nil, List.replicate, List.set_cons_succ, List.set_cons_zero, List.getElem?_cons_succ, List.getElem?_cons_zero, Nat.reduceSub, Nat.reduceAdd, Nat.reduceLeDiff, if_true, if_false, true_and, and_true, false_and, and_false, mChain, mRaise, mBM, mFld, mDGet1, mDGet2, mDPut, mSetFld, mMeth, mCall, mMake, mDNew, isNon, mFor, mI, mIt, mLc, mYes, mTupG, gTupG, mSl, mNoP, mPart, mJoin, wipeL, List.append_nil, Bool.not_true, Bool.not_false, decide_true, true_implies, false_implies, implies_true, reduceCtorEq, Bool.true_eq_false, Bool.and_true, Bool.true_and, WP_exc, WS_exc, if_true]
  refine roll_ok (by decide) (by decide) fun c x y z c0 c1 => ?_
  try simp only [WP_bind, WP_ok, WP_no, WP_ite, WS_lift', WS_next, WS_ret, WS_brk, WS_cont, WS_seq, WS_ite, WP_call, mSeq, mIfS, mAsg, mRet, mRetN, mSetIx, mDrop, mOr, mAnd, mNot, mTest, mOp, mVar, mC, mCons, mNil, mBlt, mTup, mFl, mLst, mIf, mUn, mNotV, mAndV, mOrV, toB, mSkip, mBreak, mCont, mPar, e_gI, e_gIc, e_gMul, e_gAdd, e_gCmp, e_gEq, e_gEqS, e_ix30, e_ix31, e_ix32, e_set30, e_set31, e_set32, e_t40, e_t41, e_t42, e_t43, Bool.false_eq_true, gN, gT, gNil, gCons, Option.bind_some, Option.bind_none, fAbs, fMax, fMin, fInt,   List.map_cons, List.map_nil, List.cons_append, List.nil_append, List.length_cons, List.length_nil, List.replicate, List.set_cons_succ, List.set_cons_zero, List.getElem?_cons_succ, List.getElem?_cons_zero, Nat.reduceSub, Nat.reduceAdd, Nat.reduceLeDiff, if_true, if_false, true_and, and_true, false_and, and_false, mChain, mRaise, mBM, mFld, mDGet1, mDGet2, mDPut, mSetFld, mMeth, mCall, mMake, mDNew, isNon, mFor, mI, mIt, mLc, mYes, mTupG, gTupG, mSl, mNoP, mPart, mJoin, wipeL, List.append_nil, Bool.not_true, Bool.not_false, decide_true, true_implies, false_implies, implies_true, reduceCtorEq, Bool.true_eq_false, Bool.and_true, Bool.true_and, WP_exc, WS_exc, if_true]
  refine roll_ok (by decide) (by decide) fun d x y z d0 d1 => ?_
  try simp only [WP_bind, WP_ok, WP_no, WP_ite, WS_lift', WS_next, WS_ret, WS_brk, WS_cont, WS_seq, WS_ite, WP_call, mSeq, mIfS, mAsg, mRet, mRetN, mSetIx, mDrop, mOr, mAnd, mNot, mTest, mOp, mVar, mC, mCons, mNil, mBlt, mTup, mFl, mLst, mIf, mUn, mNotV, mAndV, mOrV, toB, mSkip, mBreak, mCont, mPar, e_gI, e_gIc, e_gMul, e_gAdd, e_gCmp, e_gEq, e_gEqS, e_ix30, e_ix31, e_ix32, e_set30, e_set31, e_set32, e_t40, e_t41, e_t42, e_t43, Bool.false_eq_true, gN, gT, gNil, gCons, Option.bind_some, Option.bind_none, fAbs, fMax, fMin, fInt,   List.map_cons, List.map_nil, List.cons_append, List.nil_append, List.length_cons, List.length_nil, List.replicate, List.set_cons_succ, List.set_cons_zero, List.getElem?_cons_succ, List.getElem?_cons_zero, Nat.reduceSub, Nat.reduceAdd, Nat.reduceLeDiff, if_true, if_false, true_and, and_true, false_and, and_false, mChain, mRaise, mBM, mFld, mDGet1, mDGet2, mDPut, mSetFld, mMeth, mCall, mMake, mDNew, isNon, mFor, mI, mIt, mLc, mYes, mTupG, gTupG, mSl, mNoP, mPart, mJoin, wipeL, List.append_nil, Bool.not_true, Bool.not_false, decide_true, true_implies, false_implies, implies_true, reduceCtorEq, Bool.true_eq_false, Bool.and_true, Bool.true_and, WP_exc, WS_exc, if_true]
  exact k ⟨a, b, c, d⟩ _ _ _ ⟨⟨a0, Int.le_of_lt_add_one a1⟩, ⟨b0, Int.le_of_lt_add_one b1⟩, ⟨c0, Int.le_of_lt_add_one c1⟩, d0, Int.le_of_lt_add_one d1⟩
theorem a5_ok (k : ∀ (a : A4) (x y z : Int), (0 ≤ a.l ∧ a.l ≤ 8) ∧ (0 ≤ a.t ∧ a.t ≤ 8) ∧ (0 ≤ a.w ∧ a.w ≤ 8) ∧ (0 ≤ a.h ∧ a.h ≤ 8) → DD.nx [x0, some (.ref 0), x2, x3, x4, x5, x6, x7, x8, x9, x10, x11, x12, x13, x14, x15, x16, x17, x18, some a.v, x20, x21, x22, x23, x24] (.lst [.int x, .int y, .int z] :: R)) :
    WS (A4' 19 [x0, some (.ref 0), x2, x3, x4, x5, x6, x7, x8, x9, x10, x11, x12, x13, x14, x15, x16, x17, x18, x19, x20, x21, x22, x23, x24] (.lst [.int x, .int y, .int z] :: R)) DD := by
  unfold A4'
  try simp only [WP_bind, WP_ok, WP_no, WP_ite, WS_lift', WS_next, WS_ret, WS_brk, WS_cont, WS_seq, WS_ite, WP_call, mSeq, mIfS, mAsg, mRet, mRetN, mSetIx, mDrop, mOr, mAnd, mNot, mTest, mOp, mVar, mC, mCons, mNil, mBlt, mTup, mFl, mLst, mIf, mUn, mNotV, mAndV, mOrV, toB, mSkip, mBreak, mCont, mPar, e_gI, e_gIc, e_gMul, e_gAdd, e_gCmp, e_gEq, e_gEqS, e_ix30, e_ix31, e_ix32, e_set30, e_set31, e_set32, e_t40, e_t41, e_t42, e_t43, Bool.false_eq_true, gN, gT, gNil, gCons, Option.bind_some, Option.bind_none, fAbs, fMax, fMin, fInt,   List.map_cons, List.map_nil, List.cons_append, List.nil_append, List.length_cons, List.length_nil, List.replicate, List.set_cons_succ, List.set_cons_zero, List.getElem?_cons_succ, List.getElem?_cons_zero, Nat.reduceSub, Nat.reduceAdd, Nat.reduceLeDiff, if_true, if_false, true_and, and_true, false_and, and_false, mChain, mRaise, mBM, mFld, mDGet1, mDGet2, mDPut, mSetFld, mMeth, mCall, mMake, mDNew, isNon, mFor, mI, mIt, mLc, mYes, mTupG, gTupG, mSl, mNoP, mPart, mJoin, wipeL, List.append_nil, Bool.not_true, Bool.not_false, decide_true, true_implies, false_implies, implies_true, reduceCtorEq, Bool.true_eq_false, Bool.and_true, Bool.true_and, WP_exc, WS_exc, if_true]
  refine roll_ok (by decide) (by decide) fun a x y z a0 a1 => ?_
  try simp only [WP_bind, WP_ok, WP_no, WP_ite, WS_lift', WS_next, WS_ret, WS_brk, WS_cont, WS_seq, WS_ite, WP_call, mSeq, mIfS, mAsg, mRet, mRetN, mSetIx, mDrop, mOr, mAnd, mNot, mTest, mOp, mVar, mC, mCons, mNil, mBlt, mTup, mFl, mLst, mIf, mUn, mNotV, mAndV, mOrV, toB, mSkip, mBreak, mCont, mPar, e_gI, e_gIc, e_gMul, e_gAdd, e_gCmp, e_gEq, e_gEqS, e_ix30, e_ix31, e_ix32, e_set30, e_set31, e_set32, e_t40, e_t41, e_t42, e_t43, Bool.false_eq_true, gN, gT, gNil, gCons, Option.bind_some, Option.bind_none, fAbs, fMax, fMin, fInt,   List.map_cons, List.map_nil, List.cons_append, List.nil_append, List.length_cons, List.length_nil, List.replicate, List.set_cons_succ, List.set_cons_zero, List.getElem?_cons_succ, List.getElem?_cons_zero, Nat.reduceSub, Nat.reduceAdd, Nat.reduceLeDiff, if_true, if_false, true_and, and_true, false_and, and_false, mChain, mRaise, mBM, mFld, mDGet1, mDGet2, mDPut, mSetFld, mMeth, mCall, mMake, mDNew, isNon, mFor, mI, mIt, mLc, mYes, mTupG, gTupG, mSl, mNoP, mPart, mJoin, wipeL, List.append_nil, Bool.not_true, Bool.not_false, decide_true, true_implies, false_implies, implies_true, reduceCtorEq, Bool.true_eq_false, Bool.and_true, Bool.true_and, WP_exc, WS_exc, if_true]
  refine roll_ok (by decide) (by decide) fun b x y z b0 b1 => ?_
  try simp only [WP_bind, WP_ok, WP_no, WP_ite, WS_lift', WS_next, WS_ret, WS_brk, WS_cont, WS_seq, WS_ite, WP_call, mSeq, mIfS, mAsg, mRet, mRetN, mSetIx, mDrop, mOr, mAnd, mNot, mTest, mOp, mVar, mC, mCons, mNil, mBlt, mTup, mFl, mLst, mIf, mUn, mNotV, mAndV, mOrV, toB, mSkip, mBreak, mCont, mPar, e_gI, e_gIc, e_gMul, e_gAdd, e_gCmp, e_gEq, e_gEqS, e_ix30, e_ix31, e_ix32, e_set30, e_set31, e_set32, e_t40, e_t41, e_t42, e_t43, Bool.false_eq_true, gN, gT, gNil, gCons, Option.bind_some, Option.bind_none, fAbs, fMax, fMin, fInt,   List.map_cons, List.map_nil, List.cons_append, List.nil_append, List.length_cons, List.length_nil, List.replicate, List.set_cons_succ, List.set_cons_zero, List.getElem?_cons_succ, List.getElem?_cons_zero, Nat.reduceSub, Nat.reduceAdd, Nat.reduceLeDiff, if_true, if_false, true_and, and_true, false_and, and_false, mChain, mRaise, mBM, mFld, mDGet1, mDGet2, mDPut, mSetFld, mMeth, mCall, mMake, mDNew, isNon, mFor, mI, mIt, mLc, mYes, mTupG, gTupG, mSl, mNoP, mPart, mJoin, wipeL, List.append_nil, Bool.not_true, Bool.not_false, decide_true, true_implies, false_implies, implies_true, reduceCtorEq, Bool.true_eq_false, Bool.and_true, Bool.true_and, WP_exc, WS_exc, if_true]
  refine roll_ok (by decide) (by decide) fun c x y z c0 c1 => ?_
  try simp only [WP_bind, WP_ok, WP_no, WP_ite, WS_lift', WS_next, WS_ret, WS_brk, WS_cont, WS_seq, WS_ite, WP_call, mSeq, mIfS, mAsg, mRet, mRetN, mSetIx, mDrop, mOr, mAnd, mNot, mTest, mOp, mVar, mC, mCons, mNil, mBlt, mTup, mFl, mLst, mIf, mUn, mNotV, mAndV, mOrV, toB, mSkip, mBreak, mCont, mPar, e_gI, e_gIc, e_gMul, e_gAdd, e_gCmp, e_gEq, e_gEqS, e_ix30, e_ix31, e_ix32, e_set30, e_set31, e_set32, e_t40, e_t41, e_t42, e_t43, Bool.false_eq_true, gN, gT, gNil, gCons, Option.bind_some, Option.bind_none, fAbs, fMax, fMin, fInt,   List.map_cons, List.map_nil, List.cons_append, List.nil_append, List.length_cons, List.length_nil, List.replicate, List.set_cons_succ, List.set_cons_zero, List.getElem?_cons_succ, List.getElem?_cons_zero, Nat.reduceSub, Nat.reduceAdd, Nat.reduceLeDiff, if_true, if_false, true_and, and_true, false_and, and_false, mChain, mRaise, mBM, mFld, mDGet1, mDGet2, mDPut, mSetFld, mMeth, mCall, mMake, mDNew, isNon, mFor, mI, mIt, mLc, mYes, mTupG, gTupG, mSl, mNoP, mPart, mJoin, wipeL, List.append_nil, Bool.not_true, Bool.not_false, decide_true, true_implies, false_implies, implies_true, reduceCtorEq, Bool.true_eq_false, Bool.and_true, Bool.true_and, WP_exc, WS_exc, if_true]
  refine roll_ok (by decide) (by decide) fun d x y z d0 d1 => ?_
  try simp only [WP_bind, WP_ok, WP_no, WP_ite, WS_lift', WS_next, WS_ret, WS_brk, WS_cont, WS_seq, WS_ite, WP_call, mSeq, mIfS, mAsg, mRet, mRetN, mSetIx, mDrop, mOr, mAnd, mNot, mTest, mOp, mVar, mC, mCons, mNil, mBlt, mTup, mFl, mLst, mIf, mUn, mNotV, mAndV, mOrV, toB, mSkip, mBreak, mCont, mPar, e_gI, e_gIc, e_gMul, e_gAdd, e_gCmp, e_gEq, e_gEqS, e_ix30, e_ix31, e_ix32, e_set30, e_set31, e_set32, e_t40, e_t41, e_t42, e_t43, Bool.false_eq_true, gN, gT, gNil, gCons, Option.bind_some, Option.bind_none, fAbs, fMax, fMin, fInt,   List.map_cons, List.map_nil, List.cons_append, List.nil_append, List.length_cons, List.length_nil, List.replicate, List.set_cons_succ, List.set_cons_zero, List.getElem?_cons_succ, List.getElem?_cons_zero, Nat.reduceSub, Nat.reduceAdd, Nat.reduceLeDiff, if_true, if_false, true_and, and_true, false_and, and_false, mChain, mRaise, mBM, mFld, mDGet1, mDGet2, mDPut, mSetFld, mMeth, mCall, mMake, mDNew, isNon, mFor, mI, mIt, mLc, mYes, mTupG, gTupG, mSl, mNoP, mPart, mJoin, wipeL, List.append_nil, Bool.not_true, Bool.not_false, decide_true, true_implies, false_implies, implies_true, reduceCtorEq, Bool.true_eq_false, Bool.and_true, Bool.true_and, WP_exc, WS_exc, if_true]
  exact k ⟨a, b, c, d⟩ _ _ _ ⟨⟨a0, Int.le_of_lt_add_one a1⟩, ⟨b0, Int.le_of_lt_add_one b1⟩, ⟨c0, Int.le_of_lt_add_one c1⟩, d0, Int.le_of_lt_add_one d1⟩
theorem a6_ok {a b : A4} (k : DD.nx [x0, some (.ref 0), x2, x3, x4, x5, x6, x7, x8, x9, x10, x11, x12, x13, x14, x15, x16, x17, some a.v, some b.v, some (meet a b).v, x21, x22, x23, x24] L) :
    WS (A6 [x0, some (.ref 0), x2, x3, x4, x5, x6, x7, x8, x9, x10, x11, x12, x13, x14, x15, x16, x17, some a.v, some b.v, x20, x21, x22, x23, x24] L) DD := by
  unfold A6
  simp only [WP_bind, WP_ok, WP_no, WP_ite, WS_lift', WS_next, WS_ret, WS_brk, WS_cont, WS_seq, WS_ite, WP_call, mSeq, mIfS, mAsg, mRet, mRetN, mSetIx, mDrop, mOr, mAnd, mNot, mTest, mOp, mVar, mC, mCons, mNil, mBlt, mTup, mFl, mLst, mIf, mUn, mNotV, mAndV, mOrV, toB, mSkip, mBreak, mCont, mPar, e_gI, e_gIc, e_gMul, e_gAdd, e_gCmp, e_gEq, e_gEqS, e_ix30, e_ix31, e_ix32, e_set30, e_set31, e_set32, e_t40, e_t41, e_t42, e_t43, Bool.false_eq_true, gN, gT, gNil, gCons, Option.bind_some, Option.bind_none, fAbs, fMax, fMin, fInt,   List.map_cons, List.map_nil, List.cons_append, List.nil_append, List.length_cons, List.length_nil, List.replicate, List.set_cons_succ, List.set_cons_zero, List.getElem?_cons_succ, List.getElem?_cons_zero, Nat.reduceSub, Nat.reduceAdd, Nat.reduceLeDiff, if_true, if_false, true_and, and_true, false_and, and_false, mChain, mRaise, mBM, mFld, mDGet1, mDGet2, mDPut, mSetFld, mMeth, mCall, mMake, mDNew, isNon, mFor, mI, mIt, mLc, mYes, mTupG, gTupG, mSl, mNoP, mPart, mJoin, wipeL, List.append_nil, Bool.not_true, Bool.not_false, decide_true, true_implies, false_implies, implies_true, reduceCtorEq, Bool.true_eq_false, Bool.and_true, Bool.true_and, WP_exc, WS_exc, e_meet]
  exact k
end
theorem no_ok {c : Sl → M Bool} {s : Sl} {L : LH} {DD : EW} (h : WP (c s L) fun b L' => b = false ∧ DD.nx s L') : WS (mIfS c NO mSkip s L) DD := by
  unfold mIfS
  rw [WS_lift']
  refine h.imp ?_
  rintro b L' ⟨rfl, q⟩
  rw [if_neg (by decide)]
  exact q
theorem or_ok {c e : Sl → M Bool} {s : Sl} {L : LH} {Y : Bool → LH → Prop} (h : WP (c s L) fun b L' => b = false ∧ WP (e s L') Y) : WP (mOr c e s L) Y := by
  unfold mOr
  rw [WP_bind]
  refine h.imp ?_
  rintro b L' ⟨rfl, q⟩
  rw [if_neg (by decide)]
  exact q
theorem both_in {a b : A4} (ha : (0 ≤ a.l ∧ a.l ≤ 8) ∧ (0 ≤ a.t ∧ a.t ≤ 8) ∧ (0 ≤ a.w ∧ a.w ≤ 8) ∧ (0 ≤ a.h ∧ a.h ≤ 8)) (hb : (0 ≤ b.l ∧ b.l ≤ 8) ∧ (0 ≤ b.t ∧ b.t ≤ 8) ∧ (0 ≤ b.w ∧ b.w ≤ 8) ∧ (0 ≤ b.h ∧ b.h ≤ 8)) :
    (0 ≤ (meet a b).l ∧ 0 ≤ (meet a b).w ∧ (meet a b).l + (meet a b).w ≤ 20) ∧ (0 ≤ (meet a b).t ∧ 0 ≤ (meet a b).h ∧ (meet a b).t + (meet a b).h ≤ 20) := by
  unfold meet mx mn
  simp only []
  refine ⟨⟨by split <;> omega, by split <;> omega, ?_⟩, by split <;> omega, by split <;> omega, ?_⟩
  · (repeat' split) <;> omega
  · (repeat' split) <;> omega
theorem steps_all {w h : Int} {x y z : Int} {x0 : Option LV} {DD : EW} (hw : 1 ≤ w ∧ w ≤ 30) (hh : 0 ≤ h ∧ h ≤ 20) (hz : ∀ m s L, SI w h m s L → DD.nx s L) :
    WS (STEPS [x0, some (.ref 0), some (.int w), some (.int h), some (.ref 1), none, none, none, none, none, none, none, none, none, none, none, none, none, none, none, none, none, some (.ref 2), none, none] (St (.lst [.int x, .int y, .int z]) [] w h [] [])) DD := by
  unfold STEPS
  try simp only [WP_bind, WP_ok, WP_no, WP_ite, WS_lift', WS_next, WS_ret, WS_brk, WS_cont, WS_seq, WS_ite, WP_call, mSeq, mIfS, mAsg, mRet, mRetN, mSetIx, mDrop, mOr, mAnd, mNot, mTest, mOp, mVar, mC, mCons, mNil, mBlt, mTup, mFl, mLst, mIf, mUn, mNotV, mAndV, mOrV, toB, mSkip, mBreak, mCont, mPar, e_gI, e_gIc, e_gMul, e_gAdd, e_gCmp, e_gEq, e_gEqS, e_ix30, e_ix31, e_ix32, e_set30, e_set31, e_set32, e_t40, e_t41, e_t42, e_t43, Bool.false_eq_true, gN, gT, gNil, gCons, Option.bind_some, Option.bind_none, fAbs, fMax, fMin, fInt,   List.map_cons, List.map_nil, List.cons_append, List.nil_append, List.length_cons, List.length_nil, List.replicate, List.set_cons_succ, List.set_cons_zero, List.getElem?_cons_succ, List.getElem?_cons_zero, Nat.reduceSub, Nat.reduceAdd, Nat.reduceLeDiff, if_true, if_false, true_and, and_true, false_and, and_false, mChain, mRaise, mBM, mFld, mDGet1, mDGet2, mDPut, mSetFld, mMeth, mCall, mMake, mDNew, isNon, mFor, mI, mIt, mLc, mYes, mTupG, gTupG, mSl, mNoP, mPart, mJoin, wipeL, List.append_nil, Bool.not_true, Bool.not_false, decide_true, true_implies, false_implies, implies_true, reduceCtorEq, Bool.true_eq_false, Bool.and_true, Bool.true_and, WP_exc, WS_exc, if_true]
  refine roll_ok (by decide) (by decide) fun n x y z n0 n1 => ?_
  refine range1_ok (j := n) (by omega) (by omega) ?_
  exact steps_ok (w := w) (h := h) (n := n.toNat) ⟨by omega, hw.2⟩ hh (by omega) ⟨_, _, _, _, _, _, _, _, _, _, _, _, _, _, _, _, _, _, _, _, _, _, _, [], [], fun _ _ => Cl.e, rfl, rfl, Dic.nil, Dic.nil, fun c r => ⟨Nat.le_of_eq (show (" " : Str).length = 1 by decide +kernel), (show PyData.strOk " " = true by decide +kernel), (show PyData.strOk "black" = true by decide +kernel), (show PyData.strOk "white" = true by decide +kernel)⟩⟩ fun s L hs => hz _ _ _ hs
/-- a round comes to its end -/
theorem round_ok {x0 : Option LV} {x y z : Int} {DD : EW} (hz : ∀ s L, DD.nx s L) : WS (ROUND [x0, some (.ref 0), none, none, none, none, none, none, none, none, none, none, none, none, none, none, none, none, none, none, none, none, none, none, none] [.lst [.int x, .int y, .int z]]) DD := by
  unfold ROUND
  simp only [mSeq, WS_seq]
  refine a1_ok fun w h x y z ⟨w0, w1, h0, h1⟩ => ?_
  dsimp only
  refine a2_ok ⟨w0, w1⟩ ⟨h0, h1⟩ ?_
  dsimp only
  refine steps_all ⟨w0, w1⟩ ⟨h0, h1⟩ fun m s L hs => ?_
  obtain ⟨x0, x5, x6, x7, x8, x9, x10, x11, x12, x13, x14, x15, x16, x17, x18, x19, x20, x21, x23, x24, x, y, z, D, C, f, rfl, rfl, kD, kC, kf⟩ := hs
  dsimp only
  refine due_ok (w := w) (h := h) ⟨by omega, w1⟩ ⟨h0, h1⟩ kD ?_
  dsimp only
  refine no_ok (or_ok (ch1_ok (w := w) (h := h) ⟨by omega, w1⟩ ⟨h0, h1⟩ kC kf ⟨rfl, ?_⟩))
  refine ch2_ok (w := w) (h := h) ⟨by omega, w1⟩ ⟨h0, h1⟩ kC kf fun T1 => ⟨rfl, ?_⟩
  dsimp only
  refine no_ok (or_ok (ch3_ok (w := w) (h := h) ⟨by omega, w1⟩ ⟨h0, h1⟩ kC kf fun T2 => ⟨rfl, ?_⟩))
  refine ch4_ok (w := w) (h := h) ⟨by omega, w1⟩ ⟨h0, h1⟩ kC ⟨rfl, ?_⟩
  dsimp only
  refine a3_ok fun c r x y z => ?_
  dsimp only
  refine no_ok (ch5_ok kC kf ⟨rfl, ?_⟩)
  dsimp only
  refine a4_ok fun a x y z ha => ?_
  dsimp only
  refine a5_ok fun b x y z hb => ?_
  dsimp only
  refine a6_ok ?_
  dsimp only
  obtain ⟨q1, q2⟩ := both_in ha hb
  refine sh_ok (N := 400) rfl (by decide) ?_
  dsimp only
  exact no_ok (ch6_ok rfl q1 q2 ⟨rfl, hz _ _⟩)
theorem pure_ok (ns : List Int) (_ : ns.length ≤ 63) : ∃ L, F_law [.sl (ns.map LV.int)] [] = .ok (.bl true) L := by
  have key : WP (F_law [.sl (ns.map LV.int)] []) fun v _ => v = .bl true := by
    unfold F_law
    rw [law_eq, WP_call]
    simp only [mSeq, WS_seq, mFor, WS_lift', mIt, WP_bind, mCall, mCons, mNil, mVar, mC, WP_ok, List.map_cons, List.map_nil, List.cons_append, List.nil_append, List.length_cons, List.length_nil, Nat.reduceSub, Nat.reduceAdd, List.replicate, List.getElem?_cons_succ, List.getElem?_cons_zero, List.append_nil]
    refine rounds_ok fun x y z => ?_
    simp only [e_itF, WP_ok]
    refine WS_for (n := 1) (fun i s L => i = 1 ∨ (s = [some (.sl (ns.map LV.int)), none, none, none, none, none, none, none, none, none, none, none, none, none, none, none, none, none, none, none, none, none, none, none, none] ∧ L = [.lst [.int x, .int y, .int z]])) (by unfold FUEL; omega) ?_ ?_ (.inr ⟨rfl, rfl⟩)
    · rintro i s L hi (rfl | ⟨rfl, rfl⟩)
      · omega
      · have : i = 0 := by omega
        subst this
        refine ⟨.ref 0, _, rfl, rfl, ?_⟩
        exact round_ok fun s L => .inl rfl
    · rintro s L _
      refine ⟨rfl, ?_⟩
      exact fin_ok (s := s) (L := L) (DD := { nx := fun x L => LV.non = LV.bl true, rt := fun v x => v = LV.bl true }) fun L' => rfl
  obtain ⟨v, L, e, rfl⟩ := key.ex
  exact ⟨L, e⟩
end Q.K07
end
section
set_option Elab.async false
set_option linter.all false
set_option maxRecDepth 100000
set_option maxHeartbeats 0
/-! ### the head -/
namespace Q.K07
open PySem PySem.Spec L2 Q
def fa0 : List He.Fa := [.free "abs", .free "int", .free "len", .free "min", .free "max", .free "sorted", .free "tuple", .free "list", .free "dict", .free "str", .free "range", .free "zip", .free "enumerate", .free "sum", .free "any", .free "all", .free "isinstance", .free "reversed", .free "bool", .glo "meeting"]
def fa1 : List He.Fa := [.meth "Canvas" "cell", .meth "Canvas" "visible", .meth "Canvas" "fill", .meth "Canvas" "write", .meth "Canvas" "shown", .meth "Canvas" "letter_rows", .glo "element_at", .glo "_law_dice", .glo "_law_roll", .glo "_law_rounds", .glo "_law_in", .glo "law", .glo "_law_told", .glo "SizeError", .exc "SizeError", .glo "Canvas", .cls "Canvas", .mkr "Canvas", .noat "Canvas" "width", .noat "Canvas" "height"]
def fa2 : List He.Fa := [.noat "Canvas" "cells", .exm "SizeError" "SizeError" true, .int "MOST_CELLS" 20000, .glo "EMPTY_CELL"]
def fa : List He.Fa := fa0 ++ fa1 ++ fa2
def d_meeting : He.DefD := ⟨("meeting", none), "meeting", "meeting", defArgs s_meeting, defBody s_meeting, defScope s_meeting, [], []⟩
def d_Canvas_init : He.DefD := ⟨("Canvas", some "__init__"), "__init__", "Canvas.__init__", defArgs s_Canvas_init, defBody s_Canvas_init, defScope s_Canvas_init, [], []⟩
def d_Canvas_cell : He.DefD := ⟨("Canvas", some "cell"), "cell", "Canvas.cell", defArgs s_Canvas_cell, defBody s_Canvas_cell, defScope s_Canvas_cell, [], []⟩
def d_Canvas_visible : He.DefD := ⟨("Canvas", some "visible"), "visible", "Canvas.visible", defArgs s_Canvas_visible, defBody s_Canvas_visible, defScope s_Canvas_visible, [], []⟩
def d_Canvas_fill : He.DefD := ⟨("Canvas", some "fill"), "fill", "Canvas.fill", defArgs s_Canvas_fill, defBody s_Canvas_fill, defScope s_Canvas_fill, [], []⟩
def d_Canvas_write : He.DefD := ⟨("Canvas", some "write"), "write", "Canvas.write", defArgs s_Canvas_write, defBody s_Canvas_write, defScope s_Canvas_write, [], []⟩
def d_Canvas_shown : He.DefD := ⟨("Canvas", some "shown"), "shown", "Canvas.shown", defArgs s_Canvas_shown, defBody s_Canvas_shown, defScope s_Canvas_shown, [], []⟩
def d_Canvas_letter_rows : He.DefD := ⟨("Canvas", some "letter_rows"), "letter_rows", "Canvas.letter_rows", defArgs s_Canvas_letter_rows, defBody s_Canvas_letter_rows, defScope s_Canvas_letter_rows, [], []⟩
def d_element_at : He.DefD := ⟨("element_at", none), "element_at", "element_at", defArgs s_element_at, defBody s_element_at, defScope s_element_at, [], []⟩
def d_law_dice : He.DefD := ⟨("_law_dice", none), "_law_dice", "_law_dice", defArgs s_law_dice, defBody s_law_dice, defScope s_law_dice, [], []⟩
def d_law_roll : He.DefD := ⟨("_law_roll", none), "_law_roll", "_law_roll", defArgs s_law_roll, defBody s_law_roll, defScope s_law_roll, [], []⟩
def d_law_rounds : He.DefD := ⟨("_law_rounds", none), "_law_rounds", "_law_rounds", defArgs s_law_rounds, defBody s_law_rounds, defScope s_law_rounds, [], []⟩
def d_law_in : He.DefD := ⟨("_law_in", none), "_law_in", "_law_in", defArgs s_law_in, defBody s_law_in, defScope s_law_in, [], []⟩
def d_law : He.DefD := ⟨("law", none), "law", "law", defArgs s_law, defBody s_law, defScope s_law, [], []⟩
def d_law_told : He.DefD := ⟨("_law_told", none), "_law_told", "_law_told", defArgs s_law_told, defBody s_law_told, defScope s_law_told, [], []⟩
def fn : List He.DefD := [d_meeting, d_Canvas_init, d_Canvas_cell, d_Canvas_visible, d_Canvas_fill, d_Canvas_write, d_Canvas_shown, d_Canvas_letter_rows, d_element_at, d_law_dice, d_law_roll, d_law_rounds, d_law_in, d_law, d_law_told]
def tf : List He.Defn := [("Canvas", some "shown"), ("Canvas", some "letter_rows"), ("law", none)]
def ex (K : PySem.W.Frag) : Bool := (He.tupB K "EMPTY_CELL" [.str " ", .str "black", .str "white", .non]) && (decide (¬ (He.cT K ("law", none)).2 = (He.cT K ("Canvas", some "shown")).2)) && (decide (¬ (He.cT K ("law", none)).2 = (He.cT K ("Canvas", some "letter_rows")).2)) && true
abbrev R : PySem.W.OpenRow := PySem.W.OpenLaw.row PySem.Challenge.rw_pagestack_k07_cells_that_are_painted
abbrev hk : PySem.W.Hook := He.hookX 6 fa fn [] tf ex
def ob (s : PySem.W.SharedT) : He.AlX := He.obsX 6 fa fn [] tf ex (HandSHeadRun.getT s)
theorem ob_eq (s : PySem.W.SharedT) : ob s = hk.obs s.abs := He.obsX_eq (HandSHeadRun.getT_eq s)
theorem run (w : World) : HandSHeadRun.RunEq R (PySem.W.view R.prog [15]) hk ob 4000 ["PageError", "SizeError", "MOST_CELLS", "EMPTY_CELL", "meeting", "Canvas", "element_at", "_law_dice", "_law_roll", "_law_rounds", "_law_told", "_law_in"] w := by
  intro os
  kernel_rfl
def kt (K : PySem.W.Frag) : Kt := ⟨K, fun n => if n = 0 then He.ga K "SizeError" else if n = 1 then He.ga K "Canvas" else 0, [(He.cT K ("Canvas", some "shown")).2, (He.cT K ("Canvas", some "letter_rows")).2], [((He.cT K ("law", none)).2, (PyProof.Rows.envOfC "law" (defScope s_law) 0 0 .none).qual ++ ("<lambda>" : Str))]⟩
theorem law_at {l : PySem.W.OpenLaw} {w : World} {K : PySem.W.Frag} {mg : Str → Option Value} {f : Addr} {h : Heap} (X : K.In h) (G : h.Ns mainGlobals mg) (hfa : mg ("law" : Str) = some (.ref f)) (c : He.SaysX fa fn [] tf ex w h K)
    (hpure : ∀ ns : List Int, ns.length ≤ 63 → ∃ L, F_law [.sl (ns.map LV.int)] [] = .ok (.bl true) L) : LamX.LawAtS l w K (L2.CX l.prog w) 10 63 "script" mg f h := by
  have D := c.t.d
  obtain ⟨fd_meeting, D_meeting⟩ := D.def_ 0 (d := d_meeting) rfl
  obtain ⟨fd_Canvas_init, D_Canvas_init⟩ := D.def_ 1 (d := d_Canvas_init) rfl
  obtain ⟨fd_Canvas_cell, D_Canvas_cell⟩ := D.def_ 2 (d := d_Canvas_cell) rfl
  obtain ⟨fd_Canvas_visible, D_Canvas_visible⟩ := D.def_ 3 (d := d_Canvas_visible) rfl
  obtain ⟨fd_Canvas_fill, D_Canvas_fill⟩ := D.def_ 4 (d := d_Canvas_fill) rfl
  obtain ⟨fd_Canvas_write, D_Canvas_write⟩ := D.def_ 5 (d := d_Canvas_write) rfl
  obtain ⟨fd_Canvas_shown, D_Canvas_shown⟩ := D.def_ 6 (d := d_Canvas_shown) rfl
  obtain ⟨fd_Canvas_letter_rows, D_Canvas_letter_rows⟩ := D.def_ 7 (d := d_Canvas_letter_rows) rfl
  obtain ⟨fd_element_at, D_element_at⟩ := D.def_ 8 (d := d_element_at) rfl
  obtain ⟨fd_law_dice, D_law_dice⟩ := D.def_ 9 (d := d_law_dice) rfl
  obtain ⟨fd_law_roll, D_law_roll⟩ := D.def_ 10 (d := d_law_roll) rfl
  obtain ⟨fd_law_rounds, D_law_rounds⟩ := D.def_ 11 (d := d_law_rounds) rfl
  obtain ⟨fd_law_in, D_law_in⟩ := D.def_ 12 (d := d_law_in) rfl
  obtain ⟨fd_law, D_law⟩ := D.def_ 13 (d := d_law) rfl
  obtain ⟨fd_law_told, D_law_told⟩ := D.def_ 14 (d := d_law_told) rfl
  have e := hfa.symm.trans (He.glo_ok X G (D.fact 31 (f := .glo "law") rfl))
  cases e
  have hex := c.more
  simp only [ex, Bool.and_eq_true, decide_eq_true_eq] at hex
  obtain ⟨⟨⟨hx0, hx1⟩, hx2⟩, _⟩ := hex
  have b_meeting : Binds K fd_meeting ["one", "other"] [] := FunD.bindsN D_meeting fun _ _ _ _ _ _ us hl => match us, hl with | [_, _], _ => rfl
  have b_Canvas_init : Binds K fd_Canvas_init ["self", "width", "height"] [] := FunD.bindsN D_Canvas_init fun _ _ _ _ _ _ us hl => match us, hl with | [_, _, _], _ => rfl
  have b_Canvas_cell : Binds K fd_Canvas_cell ["self", "column", "row"] [] := FunD.bindsN D_Canvas_cell fun _ _ _ _ _ _ us hl => match us, hl with | [_, _, _], _ => rfl
  have b_Canvas_visible : Binds K fd_Canvas_visible ["self", "area", "clip"] [] := FunD.bindsN D_Canvas_visible fun _ _ _ _ _ _ us hl => match us, hl with | [_, _, _], _ => rfl
  have b_Canvas_fill : Binds K fd_Canvas_fill ["self", "area", "colour", "number", "clip"] [] := FunD.bindsN D_Canvas_fill fun _ _ _ _ _ _ us hl => match us, hl with | [_, _, _, _, _], _ => rfl
  have b_Canvas_write : Binds K fd_Canvas_write ["self", "column", "row", "text", "look", "clip"] [] := FunD.bindsN D_Canvas_write fun _ _ _ _ _ _ us hl => match us, hl with | [_, _, _, _, _, _], _ => rfl
  have b_Canvas_shown : Binds K fd_Canvas_shown ["self"] [] := FunD.bindsN D_Canvas_shown fun _ _ _ _ _ _ us hl => match us, hl with | [_], _ => rfl
  have b_Canvas_letter_rows : Binds K fd_Canvas_letter_rows ["self"] [] := FunD.bindsN D_Canvas_letter_rows fun _ _ _ _ _ _ us hl => match us, hl with | [_], _ => rfl
  have b_element_at : Binds K fd_element_at ["canvas", "column", "row"] [] := FunD.bindsN D_element_at fun _ _ _ _ _ _ us hl => match us, hl with | [_, _, _], _ => rfl
  have b_law_dice : Binds K fd_law_dice ["cell"] [] := FunD.bindsN D_law_dice fun _ _ _ _ _ _ us hl => match us, hl with | [_], _ => rfl
  have b_law_roll : Binds K fd_law_roll ["dice", "many"] [] := FunD.bindsN D_law_roll fun _ _ _ _ _ _ us hl => match us, hl with | [_, _], _ => rfl
  have b_law_rounds : Binds K fd_law_rounds ["script", "most"] [] := FunD.bindsN D_law_rounds fun _ _ _ _ _ _ us hl => match us, hl with | [_, _], _ => rfl
  have b_law_in : Binds K fd_law_in ["area", "column", "row"] [] := FunD.bindsN D_law_in fun _ _ _ _ _ _ us hl => match us, hl with | [_, _, _], _ => rfl
  have b_law : Binds K fd_law ["script"] [] := FunD.bindsN D_law fun _ _ _ _ _ _ us hl => match us, hl with | [_], _ => rfl
  have b_law_told : Binds K fd_law_told ["what"] [] := FunD.bindsN D_law_told fun _ _ _ _ _ _ us hl => match us, hl with | [_], _ => rfl
  obtain ⟨x1_SizeError, x2_SizeError, x3_SizeError, x4_SizeError⟩ := He.exc_ok (D.fact 34 (f := .exc "SizeError") rfl)
  obtain ⟨t_MOST_CELLS, v_MOST_CELLS⟩ := He.int_ok X G (D.fact 42 (f := .int "MOST_CELLS" 20000) rfl)
  let a : Ad := { meeting := He.fAd K ("meeting", none), fd_meeting := fd_meeting, Canvas_init := He.fAd K ("Canvas", some "__init__"), fd_Canvas_init := fd_Canvas_init, Canvas_cell := He.fAd K ("Canvas", some "cell"), fd_Canvas_cell := fd_Canvas_cell, Canvas_visible := He.fAd K ("Canvas", some "visible"), fd_Canvas_visible := fd_Canvas_visible, Canvas_fill := He.fAd K ("Canvas", some "fill"), fd_Canvas_fill := fd_Canvas_fill, Canvas_write := He.fAd K ("Canvas", some "write"), fd_Canvas_write := fd_Canvas_write, Canvas_shown := He.fAd K ("Canvas", some "shown"), fd_Canvas_shown := fd_Canvas_shown, code_Canvas_shown := (He.cT K ("Canvas", some "shown")).1, tab_Canvas_shown := (He.cT K ("Canvas", some "shown")).2, Canvas_letter_rows := He.fAd K ("Canvas", some "letter_rows"), fd_Canvas_letter_rows := fd_Canvas_letter_rows, code_Canvas_letter_rows := (He.cT K ("Canvas", some "letter_rows")).1, tab_Canvas_letter_rows := (He.cT K ("Canvas", some "letter_rows")).2, element_at := He.fAd K ("element_at", none), fd_element_at := fd_element_at, law_dice := He.fAd K ("_law_dice", none), fd_law_dice := fd_law_dice, law_roll := He.fAd K ("_law_roll", none), fd_law_roll := fd_law_roll, law_rounds := He.fAd K ("_law_rounds", none), fd_law_rounds := fd_law_rounds, law_in := He.fAd K ("_law_in", none), fd_law_in := fd_law_in, law := He.fAd K ("law", none), fd_law := fd_law, code_law := (He.cT K ("law", none)).1, tab_law := (He.cT K ("law", none)).2, v_MOST_CELLS := .int 20000 t_MOST_CELLS, o_EMPTY_CELL := He.ga K "EMPTY_CELL", law_told := He.fAd K ("_law_told", none), fd_law_told := fd_law_told }
  have bA := FunD.bindsA (ps := ["script"]) D_law fun _ _ _ _ _ _ us hl => match us, hl with | [_], _ => rfl
  refine ⟨fd_law, tf.map (He.cT K), spF (kt K) 1 F_law, fun p hp => ?_, fun p hp => ?_, fun p hp => ?_, fun s u => bA s [u] rfl, fun H z ns hl _ hT hS => ?_, fun base KB GB TB => ?_⟩
  · obtain ⟨q, hq, rfl⟩ := List.mem_map.mp hp
    exact c.empty q hq
  · obtain ⟨q, hq, rfl⟩ := List.mem_map.mp hp
    exact c.out q hq
  · obtain ⟨q, hq, rfl⟩ := List.mem_map.mp hp
    exact PySem.W.codeHd_of_K X (c.hd q hq)
  · have hT : ∀ q, q ∈ tf → H (He.cT K q).2 = some (.tbl #[]) := fun q hq => hT _ (List.mem_map.mpr ⟨q, hq, rfl⟩)
    refine law_starts (K := kt K) (fun P hP => ?_) (fun p hp => ?_) hS (hpure ns hl)
    · simp only [kt, List.mem_cons, List.not_mem_nil, or_false] at hP
      rcases hP with rfl | rfl
      · exact hT _ (by simp [tf])
      · exact hT _ (by simp [tf])
    · rw [List.mem_singleton.mp hp]
      refine ⟨hT _ (by simp [tf]), fun hP => ?_⟩
      simp only [kt, List.mem_cons, List.not_mem_nil, or_false] at hP
      rcases hP with z | z
      · exact hx1 z
      · exact hx2 z
  · have TB : ∀ q, q ∈ tf → LamX.TabB base mg (He.cT K q).1 (He.cT K q).2 := fun q hq => TB _ (List.mem_map.mpr ⟨q, hq, rfl⟩)
    exact ok_law (a := a) (K := kt K) {
      bi := ⟨He.free_ok X G (D.fact 0 (f := .free "abs") rfl), He.free_ok X G (D.fact 1 (f := .free "int") rfl), He.free_ok X G (D.fact 2 (f := .free "len") rfl), He.free_ok X G (D.fact 3 (f := .free "min") rfl), He.free_ok X G (D.fact 4 (f := .free "max") rfl), He.free_ok X G (D.fact 5 (f := .free "sorted") rfl), He.free_ok X G (D.fact 6 (f := .free "tuple") rfl), He.free_ok X G (D.fact 7 (f := .free "list") rfl), He.free_ok X G (D.fact 8 (f := .free "dict") rfl), He.free_ok X G (D.fact 9 (f := .free "str") rfl), He.free_ok X G (D.fact 10 (f := .free "range") rfl), He.free_ok X G (D.fact 11 (f := .free "zip") rfl), He.free_ok X G (D.fact 12 (f := .free "enumerate") rfl), He.free_ok X G (D.fact 13 (f := .free "sum") rfl), He.free_ok X G (D.fact 14 (f := .free "any") rfl), He.free_ok X G (D.fact 15 (f := .free "all") rfl), He.free_ok X G (D.fact 16 (f := .free "isinstance") rfl), He.free_ok X G (D.fact 17 (f := .free "reversed") rfl), He.free_ok X G (D.fact 18 (f := .free "bool") rfl)⟩,
      f_meeting := He5.fun_of D_meeting,
      g_meeting := He.glo_ok X G (D.fact 19 (f := .glo "meeting") rfl),
      k_meeting := D_meeting.kp,
      b_meeting := b_meeting,
      f_Canvas_init := He5.fun_of D_Canvas_init,
      M_Canvas := He.mkr_ok (D.fact 37 (f := .mkr "Canvas") rfl),
      bi_Canvas := b_Canvas_init,
      f_Canvas_cell := He5.fun_of D_Canvas_cell,
      m_Canvas_cell := He.meth_ok (D.fact 20 (f := .meth "Canvas" "cell") rfl),
      b_Canvas_cell := b_Canvas_cell,
      f_Canvas_visible := He5.fun_of D_Canvas_visible,
      m_Canvas_visible := He.meth_ok (D.fact 21 (f := .meth "Canvas" "visible") rfl),
      b_Canvas_visible := b_Canvas_visible,
      f_Canvas_fill := He5.fun_of D_Canvas_fill,
      m_Canvas_fill := He.meth_ok (D.fact 22 (f := .meth "Canvas" "fill") rfl),
      b_Canvas_fill := b_Canvas_fill,
      f_Canvas_write := He5.fun_of D_Canvas_write,
      m_Canvas_write := He.meth_ok (D.fact 23 (f := .meth "Canvas" "write") rfl),
      b_Canvas_write := b_Canvas_write,
      f_Canvas_shown := funC_of (K := K) (st := s_Canvas_shown) (p := ("Canvas", some "shown")) D_Canvas_shown,
      t_Canvas_shown := List.mem_cons_self,
      TG_Canvas_shown := gx_of (TB _ (by simp [tf])),
      m_Canvas_shown := He.meth_ok (D.fact 24 (f := .meth "Canvas" "shown") rfl),
      b_Canvas_shown := b_Canvas_shown,
      f_Canvas_letter_rows := funC_of (K := K) (st := s_Canvas_letter_rows) (p := ("Canvas", some "letter_rows")) D_Canvas_letter_rows,
      t_Canvas_letter_rows := List.mem_cons_of_mem _ (List.mem_cons_self),
      TG_Canvas_letter_rows := gx_of (TB _ (by simp [tf])),
      m_Canvas_letter_rows := He.meth_ok (D.fact 25 (f := .meth "Canvas" "letter_rows") rfl),
      b_Canvas_letter_rows := b_Canvas_letter_rows,
      f_element_at := He5.fun_of D_element_at,
      g_element_at := He.glo_ok X G (D.fact 26 (f := .glo "element_at") rfl),
      k_element_at := D_element_at.kp,
      b_element_at := b_element_at,
      f_law_dice := He5.fun_of D_law_dice,
      g_law_dice := He.glo_ok X G (D.fact 27 (f := .glo "_law_dice") rfl),
      k_law_dice := D_law_dice.kp,
      b_law_dice := b_law_dice,
      f_law_roll := He5.fun_of D_law_roll,
      g_law_roll := He.glo_ok X G (D.fact 28 (f := .glo "_law_roll") rfl),
      k_law_roll := D_law_roll.kp,
      b_law_roll := b_law_roll,
      f_law_rounds := He5.fun_of D_law_rounds,
      g_law_rounds := He.glo_ok X G (D.fact 29 (f := .glo "_law_rounds") rfl),
      k_law_rounds := D_law_rounds.kp,
      b_law_rounds := b_law_rounds,
      f_law_in := He5.fun_of D_law_in,
      g_law_in := He.glo_ok X G (D.fact 30 (f := .glo "_law_in") rfl),
      k_law_in := D_law_in.kp,
      b_law_in := b_law_in,
      f_law := funC_of (K := K) (st := s_law) (p := ("law", none)) D_law,
      t_law := List.mem_cons_self,
      u_law := fun p hp _ => by rw [List.mem_singleton.mp hp],
      TL_law := TB _ (by simp [tf]),
      g_law := He.glo_ok X G (D.fact 31 (f := .glo "law") rfl),
      k_law := D_law.kp,
      b_law := b_law,
      g_SizeError := He.glo_ok X G (D.fact 33 (f := .glo "SizeError") rfl),
      x_SizeError := x1_SizeError,
      kc_SizeError := x2_SizeError,
      rb_SizeError := x3_SizeError,
      rt_SizeError := x4_SizeError,
      g_Canvas := He.glo_ok X G (D.fact 35 (f := .glo "Canvas") rfl),
      c_Canvas := He.cls_ok (D.fact 36 (f := .cls "Canvas") rfl),
      n_Canvas_width := He.noat_ok (D.fact 38 (f := .noat "Canvas" "width") rfl),
      n_Canvas_height := He.noat_ok (D.fact 39 (f := .noat "Canvas" "height") rfl),
      n_Canvas_cells := He.noat_ok (D.fact 40 (f := .noat "Canvas" "cells") rfl),
      v_MOST_CELLS := v_MOST_CELLS,
      r_MOST_CELLS := ⟨_, rfl⟩,
      v_EMPTY_CELL := He.glo_ok X G (D.fact 43 (f := .glo "EMPTY_CELL") rfl),
      s_EMPTY_CELL := stT_of (K := kt K) hx0,
      f_law_told := He5.fun_of D_law_told,
      g_law_told := He.glo_ok X G (D.fact 32 (f := .glo "_law_told") rfl),
      b_law_told := b_law_told,
      e_law_told := fun c hc => (by simp only [cg_law_told, Bool.or_eq_true, beq_iff_eq] at hc; subst hc; exact He.exm_ok (D.fact 41 (f := .exm "SizeError" "SizeError" true) rfl)) }
open PySem.W PySem.Calls PyProof.Rows in
theorem holds_of (hpure : ∀ ns : List Int, ns.length ≤ 63 → ∃ L, F_law [.sl (ns.map LV.int)] [] = .ok (.bl true) L) : PySem.Challenge.rw_pagestack_k07_cells_that_are_painted.Holds := by
  w_on; o_law
  refine HandSHeadRun.head_any (r := PySem.W.OpenLaw.row PySem.Challenge.rw_pagestack_k07_cells_that_are_painted) (q := PySem.W.view (PySem.W.OpenLaw.row PySem.Challenge.rw_pagestack_k07_cells_that_are_painted).prog [15]) (H := hk) (ob := ob) (M := 4000) (loose := ["PageError", "SizeError", "MOST_CELLS", "EMPTY_CELL", "meeting", "Canvas", "element_at", "_law_dice", "_law_roll", "_law_rounds", "_law_told", "_law_in"]) (d := HandSHeadRun.topDef (PySem.W.OpenLaw.row PySem.Challenge.rw_pagestack_k07_cells_that_are_painted).prog 15) (kwd := []) ob_eq
    (by kernel_rfl) (fun s => by kernel_rfl) run (by kernel_rfl) (by kernel_rfl) (by kernel_rfl) (by rfl) (by first | assumption | decide +kernel) (by decide +kernel) ⟨rfl, rfl, rfl, rfl, rfl, by decide +kernel⟩ ?hw ?hc
  case hw => w_witness2
  case hc =>
    refine LamX.walk_ofTsE (l := PySem.Challenge.rw_pagestack_k07_cells_that_are_painted) (n := 63) (k := 10) (x := "script") (CX := fun w => L2.CX (PySem.Challenge.rw_pagestack_k07_cells_that_are_painted).prog w) rfl (by decide) (by kernel_rfl) ⟨rfl, by decide, by decide⟩ ?F (fun w H s e s' z => noStop_none z)
    intro w mg fa h Y G hmg0
    obtain ⟨K, KX, c⟩ := Y
    have hmg : mg ("law" : PySem.Str) = some (.ref fa) := by
      have e : (HandSHeadRun.topDef (PySem.W.OpenLaw.row PySem.Challenge.rw_pagestack_k07_cells_that_are_painted).prog 15).name = ("law" : PySem.Str) := by kernel_rfl
      rw [← e]
      exact hmg0
    exact ⟨K, KX, law_at KX G hmg c hpure⟩
end Q.K07
end
open PySem PySem.W PyProof.Rows
set_option Elab.async false
set_option maxRecDepth 100000 in
set_option maxHeartbeats 8000000 in
theorem PySem.Challenge.cw_pagestack_k07_cells_that_are_painted_holds : PySem.Challenge.rw_pagestack_k07_cells_that_are_painted.Holds := by
  exact Q.K07.holds_of Q.K07.pure_ok
