import PyProof.Rows.All
import Wide.All
import OpenK.AllK
import Wide.FinOn
import HandS.ForMost
import HandS.Flow
import HandS.Conv
import HandS.More
import HandS.Codes
import KE.DataEq
import HandS.IsInst
import PyProof.Rows.SetFrom
import HandS.Strs
import HandS.Set
import PyProof.ReprRoads
import HandS.Ends
import HandS.Words
import KE.DataIsa
import KE.KDictPairs
import HandS.Dict
import HandS.TupAny
import KE.KRevSl
import HandS.Small
import HandS.Iter
import HandS.RaiseMore
import HandS.Rev
import HandS.RevTup
import HandS.Defaults
import HandS.DictComp
import HandS.Star
import HandS.Zip
import PyProof.SumAny
import HandS.TryOnly
import KE.KExcIs
import HandS.ExcInit
import HandS.ExcOwn
import HandS.CallLocal
import HandS.WordsExc
import HandS.Text
import HandS.ExcField
import HandS.ExcIs
import KE.IntTextLaws
import KE.KIntText
import KE.KxText
import PyProof.Rows.StrDigitsNeg
import PyProof.Rows.ReprOcc
import PyProof.StrLawsTight
import PyProof.StrLawsChain
import PySem.Challenge.RW_strokeguess_k10_touches_as_texts
set_option Elab.async false
set_option maxRecDepth 100000
set_option linter.all false
/-! Strokeguess: what all our proofs share: a def's contract as one fact (Cl), frames (Fr), new objects. -/
namespace SG
open PySem PySem.Spec PyProof.Rows L2

/-! ### a def of the module, by its contract -/
structure Cl (P : Program) (w : World) (K : PySem.W.Frag) (mg : Str → Option Value) (base : Heap) (k : Nat) (x : Str) (sp : Sp) : Prop where
  ex : ∃ (f : Addr) (fd : FuncData) (ps : List Str), FnOk P w K mg base CX0 k f fd ps sp ∧ mg x = some (.ref f) ∧ PySem.W.keepIn K (.ref f) = true ∧ Binds K fd ps []
/-- a def as the top has left it -/
structure Df (K : PySem.W.Frag) (mg : Str → Option Value) (x : Str) (st : Stmt) (ps : List Str) : Prop where
  ex : ∃ (f : Addr) (fd : FuncData), Fun K x x st f fd ∧ mg x = some (.ref f) ∧ Binds K fd ps []
section
variable {P : Program} {w : World} {K : PySem.W.Frag} {mg : Str → Option Value} {base : Heap}
theorem Cl.mono {j k : Nat} {x : Str} {sp : Sp} (c : Cl P w K mg base j x sp) (h : j ≤ k) : Cl P w K mg base k x sp := by
  obtain ⟨f, fd, ps, F, m, kp, b⟩ := c.ex
  exact ⟨f, fd, ps, F.mono h, m, kp, b⟩
theorem Cl.imp {k : Nat} {x : Str} {sp sp' : Sp} (c : Cl P w K mg base k x sp) (h : ∀ vs H Q E, sp' vs H Q E → sp vs H Q E) : Cl P w K mg base k x sp' := by
  obtain ⟨f, fd, ps, F, m, kp, b⟩ := c.ex
  exact ⟨f, fd, ps, F.imp h, m, kp, b⟩
theorem Df.ok {x : Str} {st : Stmt} {N ps : List Str} {k : Nat} {sp : Sp} (D : Df K mg x st ps) (S : FnScope N ps (defScope st)) (len : ∀ vs H Q E, sp vs H Q E → vs.length = ps.length)
    (hbody : ∀ (f : Addr) (cdv : Value) (A : Around) (outer : List Env) (s : Shared) (H : Hp) (vs : List V) (Q : VK) (E : XK), Room k (A.deeper (envOfC x (defScope st) s.heap.objs.size f cdv)) → sp vs H Q E →
      ∃ t, PSs (cxOf CX0 P w K mg base N x (defScope st) f cdv A outer s H E).nox (defBody st) t ∧ t { nx := fun _ H' => Q .non H', rt := Q } (start N vs) H) : Cl P w K mg base (k + 1) x sp := by
  obtain ⟨f, fd, F, m, b⟩ := D.ex
  exact ⟨f, fd, ps, F.ok S len (fun cdv A outer s H vs Q E hr h => hbody f cdv A outer s H vs Q E hr h), m, F.kp, b⟩
/-- no call left: nothing can be asked -/
theorem Df.none {x : Str} {st : Stmt} {ps : List Str} {sp : Sp} (D : Df K mg x st ps) (no : ∀ vs H Q E, ¬ sp vs H Q E) : Cl P w K mg base 0 x sp := by
  obtain ⟨f, fd, F, m, b⟩ := D.ex
  exact ⟨f, fd, ps, ⟨fun vs H Q E h => absurd h (no vs H Q E), fun A outer s H args us vs Q E _ _ _ _ h => absurd h (no vs H Q E)⟩, m, F.kp, b⟩
end
section
variable {X : Cx} {k : Nat} {x : Str} {sp : Sp} {e : Expr} {es : List Expr} {t : TA} {p pos : Pos}
theorem pe_cl (c : Cl X.prog X.w X.K X.mg X.base k x sp) (hr : Room k X.A) (hg : Gl X x) (ha : PA X (e :: es) t)
    (hdb : (x == ("__debug__" : Str)) = false := by decide) (he : starEach (e :: es) X.env = (false, eval e X.env) :: starEach es X.env := by rfl) (hpl : (backTo pos (starEach es X.env)).any (·.1) = false := by rfl) :
    PE X (.Call (.Name x p) (e :: es) [] pos) (tCall sp [] E0 t) := by
  obtain ⟨f, fd, ps, F, hm, kp, b⟩ := c.ex
  exact pe_call F hr hg hm kp b .nil pass0 ha hdb he hpl
end
/-! ### heaps -/
/-- all but the objects of S are as they were -/
def Fr (S : List Addr) (H H' : Hp) : Prop := ∀ b o, H b = some o → b ∉ S → H' b = some o
/-- tuples never change -/
def Tp (H H' : Hp) : Prop := ∀ b xs, H b = some (.tup xs) → H' b = some (.tup xs)
theorem Fr.refl (S : List Addr) (H : Hp) : Fr S H H := fun _ _ h _ => h
theorem Fr.trans {S : List Addr} {H H1 H2 : Hp} (a : Fr S H H1) (b : Fr S H1 H2) : Fr S H H2 := fun c o h n => b c o (a c o h n) n
theorem Fr.mono {S S' : List Addr} {H H1 : Hp} (a : Fr S H H1) (h : ∀ x ∈ S, x ∈ S') : Fr S' H H1 := fun c o e n => a c o e fun m => n (h c m)
theorem Fr.new {S : List Addr} {H : Hp} {p : Addr} {o : HO} (h : H p = none) : Fr S H (upd H p o) := fun b u e _ => by
  rw [upd_ne (ne_of_none e h)]
  exact e
theorem Fr.put {S : List Addr} {H : Hp} {p : Addr} {o : HO} (h : p ∈ S) : Fr S H (upd H p o) := fun b u e n => by
  rw [upd_ne (fun z => n (by rw [z]; exact h))]
  exact e
theorem Fr.same {H H' : Hp} (h : Same H H') (S : List Addr) : Fr S H H' := fun b o e _ => h b o e
theorem Fr.nil {H H' : Hp} (h : Fr [] H H') : Same H H' := fun b o e => h b o e (by simp)
theorem Tp.refl (H : Hp) : Tp H H := fun _ _ h => h
theorem Tp.trans {H H1 H2 : Hp} (a : Tp H H1) (b : Tp H1 H2) : Tp H H2 := fun c o h => b c o (a c o h)
theorem Tp.new {H : Hp} {p : Addr} {o : HO} (h : H p = none) : Tp H (upd H p o) := fun b u e => by
  rw [upd_ne (ne_of_none e h)]
  exact e
theorem Tp.same {H H' : Hp} (h : Same H H') : Tp H H' := fun b _ e => h b _ e
theorem same_new {H : Hp} {p : Addr} {o : HO} (h : H p = none) : Same H (upd H p o) := fun b u e => by
  rw [upd_ne (ne_of_none e h)]
  exact e
/-- a new object, told by what is known of it -/
theorem alloc {H : Hp} {o : HO} {Q : Addr → Hp → Prop} (k : ∀ p H', H p = none → H' p = some o → Same H H' → (∀ q, q ≠ p → H' q = H q) → Q p H') : ∀ p, H p = none → Q p (upd H p o) :=
  fun p hp => k p _ hp upd_same (same_new hp) fun _ h => upd_ne h
theorem Same.tup {K : PySem.W.Frag} {H H' : Hp} {a : Addr} {xs : List V} (e : Same H H') (h : SqT K H a xs) : SqT K H' a xs := by
  rcases h with (h | ⟨o, h⟩) | h
  · exact .inl (.inl (e _ _ h))
  · exact .inl (.inr ⟨o, e _ _ h⟩)
  · exact .inr h
end SG
namespace SG
open PySem PySem.Spec PyProof.Rows L2
section
variable {X : Cx}
/-- == and != of data without dicts, any texts -/
def rEqP (K : PySem.W.Frag) : R2 := fun x y H Q => ∃ d e, Dp K H x d ∧ Dp K H y e ∧ PyData.plain d = true ∧ PyData.plain e = true ∧ min d.depth e.depth ≤ 64 ∧ Q (.bl (PyData.eqv d e)) H
def rNeP (K : PySem.W.Frag) : R2 := fun x y H Q => ∃ d e, Dp K H x d ∧ Dp K H y e ∧ PyData.plain d = true ∧ PyData.plain e = true ∧ min d.depth e.depth ≤ 64 ∧ Q (.bl (!PyData.eqv d e)) H
theorem op_eqP (hu : X.A.units + 64 < cLine) : OpR X (compareOp .Eq) (rEqP X.K) := by
  intro pins s σ H x y v u Q I rx ry h
  obtain ⟨d, e, hd, he, sd, se, hm, q⟩ := h
  obtain ⟨as, r1⟩ := Dp.reads I d x v hd rx
  obtain ⟨bs, r2⟩ := Dp.reads I e y u he ry
  exact SeqAt.eq_plain r1 r2 sd se (by omega) ⟨.bl _, H, I, rfl, q⟩
theorem op_neP (hu : X.A.units + 64 < cLine) : OpR X (compareOp .NotEq) (rNeP X.K) := by
  intro pins s σ H x y v u Q I rx ry h
  obtain ⟨d, e, hd, he, sd, se, hm, q⟩ := h
  obtain ⟨as, r1⟩ := Dp.reads I d x v hd rx
  obtain ⟨bs, r2⟩ := Dp.reads I e y u he ry
  exact SeqAt.ne_plain r1 r2 sd se (by omega) ⟨.bl _, H, I, rfl, q⟩
end
/-! ### powers of any base -/
def CPowG (i j : Int) : Prop := 0 ≤ j ∧ (Builtin.Int.intBits i : Int) * j ≤ 2 ^ 27
theorem op_powG {X : Cx} : OpR X (binaryOp .Pow) (rI CPowG fun i j => .int (i ^ j.toNat)) := opI fun _ _ _ _ _ _ _ hc q => pow_int hc.1 hc.2 q
/-! ### data made of tuples alone: it never changes -/
mutual
inductive Im (H : Hp) : V → PyData → Prop
  | non : Im H .non .none
  | bl (b : Bool) : Im H (.bl b) (.bool b)
  | int (i : Int) : Im H (.int i) (.int i)
  | str (x : Str) : Im H (.str x) (.str x)
  | tup {a : Addr} {xs : List V} {ds : List PyData} : H a = some (.tup xs) → ImAll H xs ds → Im H (.ref a) (.tuple ds)
inductive ImAll (H : Hp) : List V → List PyData → Prop
  | nil : ImAll H [] []
  | cons {v : V} {vs : List V} {d : PyData} {ds : List PyData} : Im H v d → ImAll H vs ds → ImAll H (v :: vs) (d :: ds)
end
mutual
theorem Im.dp {K : PySem.W.Frag} {H : Hp} : ∀ {d : PyData} {v : V}, Im H v d → Dp K H v d
  | .none, _, h => by cases h; exact .non
  | .bool _, _, h => by cases h; exact .bl _
  | .int _, _, h => by cases h; exact .int _
  | .str _, _, h => by cases h; exact .str _
  | .tuple _, _, h => by
    cases h with
    | tup a b => exact .tup (SqT.of a) (ImAll.dp b)
  | .list _, _, h => by cases h
  | .dict _, _, h => by cases h
theorem ImAll.dp {K : PySem.W.Frag} {H : Hp} : ∀ {ds : List PyData} {vs : List V}, ImAll H vs ds → DpAll K H vs ds
  | [], _, h => by cases h; exact .nil
  | _ :: _, _, h => by
    cases h with
    | cons a b => exact .cons (Im.dp a) (ImAll.dp b)
end
mutual
theorem Im.tp {H H' : Hp} (t : Tp H H') : ∀ {d : PyData} {v : V}, Im H v d → Im H' v d
  | .none, _, h => by cases h; exact .non
  | .bool _, _, h => by cases h; exact .bl _
  | .int _, _, h => by cases h; exact .int _
  | .str _, _, h => by cases h; exact .str _
  | .tuple _, _, h => by
    cases h with
    | tup a b => exact .tup (t _ _ a) (ImAll.tp t b)
  | .list _, _, h => by cases h
  | .dict _, _, h => by cases h
theorem ImAll.tp {H H' : Hp} (t : Tp H H') : ∀ {ds : List PyData} {vs : List V}, ImAll H vs ds → ImAll H' vs ds
  | [], _, h => by cases h; exact .nil
  | _ :: _, _, h => by
    cases h with
    | cons a b => exact .cons (Im.tp t a) (ImAll.tp t b)
end
theorem Im.plain {H : Hp} : ∀ {d : PyData} {v : V}, Im H v d → d.plain = true := by
  intro d v h
  induction h using Im.rec (motive_2 := fun vs ds _ => PyData.plainAll ds = true) with
  | non => rfl
  | bl => rfl
  | int => rfl
  | str => rfl
  | tup _ _ ih => exact ih
  | nil => rfl
  | cons _ _ a b =>
    show (PyData.plain _ && PyData.plainAll _) = true
    rw [a, b]; rfl
end SG
namespace SG
open PySem PySem.Spec PyProof.Rows L2
theorem upd_is {H H' : Hp} {p : Addr} {o : HO} (e : upd H p o = H') : H' p = some o := by
  rw [← e]
  exact upd_same
theorem same_is {H H' : Hp} {p : Addr} {o : HO} (e : upd H p o = H') (h : H p = none) : Same H H' := by
  rw [← e]
  exact same_new h
end SG
namespace SG
open PySem PySem.Spec PyProof.Rows L2
section
variable {X : Cx}
/-- != of any list and an empty one -/
def rNeNil (K : PySem.W.Frag) : R2 := fun x y H Q => ∃ (a b : Addr) (xs : List V), x = .ref a ∧ y = .ref b ∧ SqL K H a xs ∧ SqL K H b [] ∧ Q (.bl (!xs.isEmpty)) H
theorem op_neNil (hu : X.A.units + 64 < cLine) : OpR X (compareOp .NotEq) (rNeNil X.K) := by
  intro pins s σ H x y v u Q I rx ry h
  obtain ⟨a, b, xs, rfl, rfl, ha, hb, q⟩ := h
  cases (show v = Value.ref a from rx)
  cases (show u = Value.ref b from ry)
  obtain ⟨us, r1, p1, _⟩ := I.list ha
  obtain ⟨ws, r2, p2, _⟩ := I.list hb
  have e2 : ws = [] := by cases r2; rfl
  subst e2
  have hu' : X.A.units < cLine := by omega
  cases xs with
  | nil =>
    have e1 : us = [] := by cases r1; rfl
    subst e1
    have z := SeqAt.RcNeAt.lists (A := X.A) (s := s) (e := fun _ => true) p1.isList p2.isList rfl hu' (fun j j1 _ => absurd j1 (Nat.not_lt_zero j))
    exact z X.prog X.w _ _ ⟨.bl false, H, I, rfl, q⟩
  | cons x r =>
    have hsz : ¬ us.toArray.size = ([] : List Value).toArray.size := by
      cases r1 with
      | cons => simp
    have z := SeqAt.RcNeAt.lists_lengths (A := X.A) (s := s) p1.isList p2.isList (by simpa using hsz) hu'
    exact z X.prog X.w _ _ ⟨.bl true, H, I, rfl, q⟩
end
end SG
namespace SG
open PySem PySem.Spec PyProof.Rows L2
/-! ### sets of texts: how many -/
/-- the first i of xs, each once -/
def seen (xs : List Str) (i : Nat) : List Str := (xs.take i).foldl step_dedup []
theorem seen_succ {xs : List Str} {i : Nat} {x : Str} (h : xs[i]? = some x) : seen xs (i + 1) = step_dedup (seen xs i) x := by
  obtain ⟨hi, e⟩ := List.getElem?_eq_some_iff.mp h
  unfold seen
  rw [List.take_succ_eq_append_getElem hi, List.foldl_append, e]
  rfl
theorem dedup_any (σ : List Str) (v k : Str) : (step_dedup σ v).any (· == k) = (σ.any (· == k) || decide (k = v)) := by
  unfold step_dedup
  by_cases hv : σ.any (· == v) = true
  · rw [if_pos hv]
    by_cases e : k = v
    · subst e; simp [hv]
    · simp [e]
  · rw [if_neg hv, List.any_append]
    by_cases e : k = v
    · subst e; simp
    · simp [e, Ne.symm e]
theorem dedup_len (σ : List Str) (v : Str) : (step_dedup σ v).length = if σ.any (· == v) = true then σ.length else σ.length + 1 := by
  unfold step_dedup
  split <;> simp
theorem seen_le (xs : List Str) (i : Nat) : (seen xs i).length ≤ i := Nat.le_trans (foldl_step_dedup_nil_length_le _) (by rw [List.length_take]; omega)
section
variable {prog : Program} {w : World} {A : Around}
/-- the walk of set.update over texts: after i of them the set is that of the first i -/
theorem strs_into {R : Result → Shared → Prop} {I : Addr} {fp wr : List Addr} {G : Array GenState → Array GenState → Prop} {n : Nat} {P : Nat → Value → Prop} {St : Nat → Shared → Prop}
    (W : WalksS prog w A.in1 I fp wr G n P St) (S : Addr) (out : S ∉ fp) (xs : List Str) (hn : xs.length = n) (few : n + 1 < scanBound) (val : ∀ (i : Nat) (v : Value), P i v → ∃ x t, xs[i]? = some x ∧ v = Value.str x t) :
    ∀ (left i : Nat) (s : Shared), i + left = n → St i s → s.heap.SetOf (PySem.strKind prog w) S (fun k => (seen xs i).any (· == k)) (seen xs i).length →
      (∀ s2, Moved (S :: wr) G s s2 → s2.heap.SetOf (PySem.strKind prog w) S (fun k => (seen xs n).any (· == k)) (seen xs n).length → R (.ok (.ret .none)) s2) →
      codeAny (model prog w) A (.builtin "set.update.loop" ⟨[.ref S, .ref I], []⟩) R s
  | 0, i, s, e, st, hS, fin => by
    obtain rfl : i = n := by omega
    refine codeAny_builtin PyProof.Rows.F.entry_set_update_loop ?_
    rw [Around.under_plainId PyProof.Rows.F.plain_set_update_loop _]
    refine wpAny_bind (W.done s _ _ st fun s2 mv => wpAny_pure (fin s2 (mv.mono fun b hb => List.mem_cons_of_mem _ hb) ?_))
    obtain ⟨o, es, ep, tb, ho, more⟩ := hS
    exact ⟨o, es, ep, tb, mv.heap S _ (fun z => out (W.sub _ z)) ho, more⟩
  | left + 1, i, s, e, st, hS, fin => by
    refine codeAny_builtin PyProof.Rows.F.entry_set_update_loop ?_
    rw [Around.under_plainId PyProof.Rows.F.plain_set_update_loop _]
    refine wpAny_bind (W.item i s _ _ (by omega) st fun v s2 hv st2 mv => ?_)
    obtain ⟨x, t, hx, rfl⟩ := val i v hv
    have hS2 : s2.heap.SetOf (PySem.strKind prog w) S (fun k => (seen xs i).any (· == k)) (seen xs i).length := by
      obtain ⟨o, es, ep, tb, ho, more⟩ := hS
      exact ⟨o, es, ep, tb, mv.heap S _ (fun z => out (W.sub _ z)) ho, more⟩
    refine wpAny_bind (wpAny_holding ?_)
    unfold setAdd
    refine wpAny_holding (wpAny_bind ((PySem.strKind prog w).pyHash (k := x) (strKind_is _ _ _ _) ?_))
    have room := seen_le xs i
    refine wpAny_setAddHashed_of (knd := PySem.strKind prog w) (s := { s2 with toks := s2.toks + 1 }) (strKind_is _ _ _ _) rfl hS2 (by omega) fun h3 but hS3 => ?_
    have hS4 : h3.SetOf (PySem.strKind prog w) S (fun k => (seen xs (i + 1)).any (· == k)) (seen xs (i + 1)).length :=
      PyProof.Rows.SetOf_congr hS3 (fun k => by rw [seen_succ hx, dedup_any]) (by rw [seen_succ hx, dedup_len])
    refine wpAny_pure ⟨plainId_quiet PyProof.Rows.F.plain_set_update_loop _, strs_into W S out xs hn few val left (i + 1) _ (by omega) (W.frame _ s2 _ _ st2 (Nat.le_succ _) fun b hb o q => ?_) hS4 fun s5 mv5 hS5 => fin s5 (Moved.trans W.gtrans ((mv.mono fun b hb => List.mem_cons_of_mem _ hb).then_heap (Nat.le_succ _) fun b o hb q => ?_) mv5) hS5⟩
    · rw [but.2 b (fun z : b = S => out (by rw [← z]; exact hb))]
      exact q
    · rw [but.2 b (fun z : b = S => hb (by rw [z]; exact List.mem_cons_self))]
      exact q
set_option maxHeartbeats 3200000 in
/-- set(xs), xs a list of texts -/
theorem set_of_strs {E : Value → Shared → Prop} {s : Shared} {l : Addr} {items : Array Value} {xs : List Str} {Q : Value → Shared → Prop} (calm : A.handled = none) (hl : s.heap.IsList l items) (hi : PyProof.Rows.StrsAre items.toList xs) (few : xs.length + 1 < scanBound)
    (k : ∀ (h2 : Heap) (tk : Nat), h2.SetOf (PySem.strKind prog w) s.heap.objs.size (fun j => (seen xs xs.length).any (· == j)) (seen xs xs.length).length →
      (∀ b o, b < s.heap.objs.size → s.heap.get? b = some o → h2.get? b = some o) → Q (.ref s.heap.objs.size) { s with heap := h2, toks := tk }) : wpAny (model prog w) A (call (.type "set") [.ref l]) Q E s := by
  have nx : xs.length = items.size := by rw [← StrsAre.len_eq hi, Array.length_toList]
  obtain ⟨_, _, hmro⟩ := PySem.F.called_set.mro
  have hmade := PySem.F.called_set.made; have hsub := PySem.F.called_set.sub
  refine wpAny_call (codeAny_of_tree (show wpAny _ _ (callAny (.type "set") _) _ _ _ from wpAny_pure ⟨Code.quiet_builtin _ (by decide +kernel), codeAny_builtin PySem.F.entry_type_call ?_⟩))
  rw [Around.under_plain (weight_type_call_type "set" [.ref l] []) rfl]
  have h1 := PySem.F.called_set.notType; have h2 := PySem.F.called_set.canCreate; have h3 := PySem.F.typeCall_set_1 (.ref l)
  repeat (any_goals (first | assumption | wp_step))
  refine codeAny_mono (code_set_new_1 (.ref l) (E := E) (Q₁ := fun ob s2 => ∃ led : Bool, ob = .ref s.heap.objs.size ∧ s2 = { s with heap := s.heap.push { cls := .type "set", dict := none, data := .set #[] 0 (.fresh 0 0 led) } }) fun led => ⟨led, rfl, rfl⟩) fun r s2 hr => ?_
  match r, hr with
  | .error e, hr => exact hr
  | .ok .next, hr => exact hr.elim
  | .ok .brk, hr => exact hr.elim
  | .ok .cont, hr => exact hr.elim
  | .ok (.ret ob), ⟨led, e1, e2⟩ =>
  subst e1; subst e2
  have hS : (s.heap.push { cls := .type "set", dict := none, data := .set #[] 0 (.fresh 0 0 led) }).get? s.heap.objs.size = some { cls := .type "set", dict := none, data := .set #[] 0 (.fresh 0 0 led) } := Heap.get?_push_size _ rfl
  have hT : Shared.TypeIs { s with heap := s.heap.push { cls := .type "set", dict := none, data := .set #[] 0 (.fresh 0 0 led) } } (.ref s.heap.objs.size) "set" := ⟨_, hS, rfl⟩
  have h4 := PySem.F.called_set.init.lookup; have h5 := PySem.F.called_set.init.bind (.ref s.heap.objs.size)
  repeat (any_goals (first | assumption | wp_step))
  refine codeAny_mono (codeAny_call_builtin (R := wants (fun r s3 => r = .none ∧ ∃ h2 tk, s3 = { s with heap := h2, toks := tk } ∧ h2.SetOf (PySem.strKind prog w) s.heap.objs.size (fun j => (seen xs xs.length).any (· == j)) (seen xs xs.length).length ∧
    (∀ b o, b < s.heap.objs.size → s.heap.get? b = some o → h2.get? b = some o)) E) PySem.F.called_set.init.plain PySem.F.entry_set_init (check_set_init_1 hT ?_)) fun r s3 hr => ?_
  · obtain ⟨⟨ocls, odict, odata, oslots⟩, hol, hcl, nl, hdl⟩ := hl
    simp only at hcl hdl
    subst hcl; subst hdl
    have hol2 : (s.heap.push { cls := .type "set", dict := none, data := .set #[] 0 (.fresh 0 0 led) }).get? l = some { cls := .type "list", dict := odict, data := .seq items nl, slots := oslots } := Heap.get?_push_of_some _ hol
    have a1 := PySem.F.sub_list_set; have a2 := PySem.F.sub_list_frozenset; have a3 : (Value.type "list" == Value.type "dict") = false := by decide
    have hl2 : (s.heap.push { cls := .type "set", dict := none, data := .set #[] 0 (.fresh 0 0 led) }).IsList l items := ⟨_, hol2, rfl, nl, rfl⟩
    unfold Builtin.«set.__init__» noKeywords Builtin.Frozenset.updateFrom
    generalize hPI : pyIter = PI
    wp_walk
    subst hPI
    refine wpAny_pyIter_list hl2 (wpAny_bind (wpAny_runValue ?_))
    have lS : l < s.heap.objs.size := Heap.lt_size hol
    have calm3 : A.in1.in1.in1.handled = none := by simp [calm]
    have ne1 : l ≠ (s.heap.push { cls := .type "set", dict := none, data := .set #[] 0 (.fresh 0 0 led) }).objs.size := by
      rw [Heap.size_push]; exact Nat.ne_of_lt (Nat.lt_succ_of_lt lS)
    have ne2 : s.heap.objs.size ∉ [(s.heap.push { cls := .type "set", dict := none, data := .set #[] 0 (.fresh 0 0 led) }).objs.size, l] := by
      rw [Heap.size_push]
      simp only [List.mem_cons, List.not_mem_nil, or_false, not_or]
      exact ⟨Nat.ne_of_lt (Nat.lt_succ_self _), Nat.ne_of_gt lS⟩
    refine strs_into ((Walks.list calm3 _ l ne1 items).toS) s.heap.objs.size ne2 xs nx (by omega) (fun i v hv => ?_) items.size 0 _ (by omega) ⟨⟨_, Heap.get?_push_size _ rfl, rfl, rfl⟩, (hl2.push _)⟩ ?first ?last
    · have hv' : items[i]? = some v := hv
      obtain ⟨t, e⟩ := SS.strs_at hi i v (by rw [Array.getElem?_toList]; exact hv')
      have il : i < xs.length := by rw [nx]; exact (Array.getElem?_eq_some_iff.mp hv').1
      exact ⟨xs[i], t, List.getElem?_eq_getElem il, by rw [e]; simp [List.getD, List.getElem?_eq_getElem il]⟩
    case first =>
      have g : ((s.heap.push { cls := .type "set", dict := none, data := .set #[] 0 (.fresh 0 0 led) }).push { cls := .type "list_iterator", data := .fields #[.ref l, .int 0 0] }).get? s.heap.objs.size = some { cls := .type "set", dict := none, data := .set #[] 0 (.fresh 0 0 led) } := Heap.get?_push_of_some _ hS
      exact PyProof.Rows.SetOf_congr ((PyProof.Rows.setObjOf_fresh (knd := PySem.strKind prog w) led).setOf g (by unfold scanBound; omega)) (fun _ => rfl) rfl
    case last =>
      intro s4 mv hS4
      obtain ⟨h6, g6, d6, tk6, os6⟩ := s4
      obtain rfl : g6 = s.gens := mv.gens
      obtain rfl : d6 = s.drawn := mv.drawn
      obtain rfl : os6 = s.os := mv.os
      refine wpAny_pure (show wpAny _ _ (ret Value.none) _ _ _ from wpAny_pure ⟨rfl, h6, tk6, rfl, by rw [nx]; exact hS4, fun b o hb q => ?_⟩)
      refine mv.heap b o ?_ (Heap.get?_push_of_some _ (Heap.get?_push_of_some _ q))
      rw [Heap.size_push]
      simp only [List.mem_cons, List.not_mem_nil, or_false, not_or]
      exact ⟨Nat.ne_of_lt hb, Nat.ne_of_lt (Nat.lt_succ_of_lt hb)⟩
  · match r, hr with
    | .error e, hr => exact hr
    | .ok .next, hr => exact hr.elim
    | .ok .brk, hr => exact hr.elim
    | .ok .cont, hr => exact hr.elim
    | .ok (.ret r), ⟨e1, h6, tk6, e2, hS6, hk6⟩ =>
    subst e1; subst e2
    repeat (any_goals (first | assumption | wp_step))
    exact k _ _ hS6 hk6
end
section
variable {X : Cx}
/-- len(set(xs)), xs a list of texts -/
def tLenSetT (K : PySem.W.Frag) (ta : TE) : TE := fun σ H Q => ta σ H fun x H1 => ∃ (l : Addr) (xs : List Str), x = .ref l ∧ SqL K H1 l (xs.map V.str) ∧ xs.length ≤ 4000 ∧ Q (.int ((seen xs xs.length).length : Nat)) H1
theorem pe_lenSetT {a : Expr} {ta : TE} {p p2 q pos : Pos} (calm : X.calm = true) (g1 : Gl X "len") (m1 : X.mg "len" = none) (g2 : Gl X "set") (m2 : X.mg "set" = none) (ha : PE X a ta)
    (na : starEach [a] X.env = (false, eval a X.env) :: starEach [] X.env := by rfl) : PE X (.Call (.Name "len" p) [.Call (.Name "set" p2) [a] [] q] [] pos) (tLenSetT X.K ta) := by
  refine ⟨fun pins s σ H Q I h => Call_ (ld_blt I g1 m1 boot_len (PyProof.Rows.callWith_builtin1 (PyProof.Rows.args_cons ?_ rfl) rfl rfl))⟩
  refine Call_ (ld_blt I g2 m2 boot_set (PyProof.Rows.callWith_type1 (PyProof.Rows.args_cons (thn (ha.run pins s σ H _ I h) fun v s1 ⟨x, H1, I1, r1, l, xs, ex, hq, few, q1⟩ => PyProof.Rows.args_nil ?_) na) na rfl))
  subst ex
  cases r1
  obtain ⟨its, r, pl, _⟩ := I1.list hq
  have lx : its.length = xs.length := by rw [← r.length, List.length_map]
  refine set_of_strs (I1.ok.hd calm) pl.isList (by simpa using strsAre_of r) (by unfold scanBound; omega) fun h2 tk hS hk => PyProof.Rows.args_nil ?_
  obtain ⟨o, es, ep, t, ho, hex, hd, _, _, _, hf, hn⟩ := hS
  have I2 : Inv X pins σ H1 { s1 with heap := h2, toks := tk } := I1.kept fun b o e => hk b o (Heap.lt_size e) e
  have bd := seen_le xs xs.length
  exact call_len_set ho hex hd hf (by rw [hn]; omega) ⟨.int _, H1, I2.tok _, ⟨_, by rw [hn]⟩, q1⟩
end
end SG
/-! functions that are called while nothing is being shown: repr of data can be called in them -/
namespace SG
open PySem PySem.Spec PyProof.Rows L2
/-- FnOk, where no repr is under way -/
structure FnG (P : Program) (w : World) (K : PySem.W.Frag) (mg : Str → Option Value) (base : Heap) (k : Nat) (f : Addr) (fd : FuncData) (ps : List Str) (sp : Sp) : Prop where
  cnt : ∀ vs H Q E, sp vs H Q E → vs.length = ps.length
  go : ∀ (A : Around) (up : List Env) (s : Shared) (H : Hp) (ar : Args) (us : List Value) (vs : List V) (Q : VK) (E : XK),
    Room k A → A.guards = some [] → Env0 P w K mg base A up s H → BindsTo s fd ar (ps.zip us) → Vals vs us → sp vs H Q E →
    codeAny (model P w) A (.call (.ref f) ar) (CR CX0 up P w H s Q E) s
structure ClG (P : Program) (w : World) (K : PySem.W.Frag) (mg : Str → Option Value) (base : Heap) (k : Nat) (x : Str) (sp : Sp) : Prop where
  ex : ∃ (f : Addr) (fd : FuncData) (ps : List Str), FnG P w K mg base k f fd ps sp ∧ mg x = some (.ref f) ∧ PySem.W.keepIn K (.ref f) = true ∧ Binds K fd ps []
section
variable {P : Program} {w : World} {K : PySem.W.Frag} {mg : Str → Option Value} {base : Heap}
theorem ClG.mono {j k : Nat} {x : Str} {sp : Sp} (c : ClG P w K mg base j x sp) (h : j ≤ k) : ClG P w K mg base k x sp := by
  obtain ⟨f, fd, ps, F, m, kp, b⟩ := c.ex
  exact ⟨f, fd, ps, ⟨F.cnt, fun A up s H ar us vs Q E hr => F.go A up s H ar us vs Q E (hr.mono h)⟩, m, kp, b⟩
theorem fun_okG {x qual : Str} {st : Stmt} {f : Addr} {fd : FuncData} {N ps : List Str} {k : Nat} {sp : Sp} (F : Fun K x qual st f fd) (S : FnScope N ps (defScope st)) (len : ∀ vs H Q E, sp vs H Q E → vs.length = ps.length)
    (hb : ∀ (cdv : Value) (A : Around) (up : List Env) (s : Shared) (H : Hp) (vs : List V) (Q : VK) (E : XK), Room k (A.deeper (envOfC qual (defScope st) s.heap.objs.size f cdv)) → A.guards = some [] → sp vs H Q E →
      ∃ t, PSs (cxOf CX0 P w K mg base N qual (defScope st) f cdv A up s H E).nox (defBody st) t ∧ t { nx := fun _ H' => Q .non H', rt := Q } (start N vs) H) : FnG P w K mg base (k + 1) f fd ps sp := by
  obtain ⟨oc, od, kV, doc, pm, an, cdv, ct, osl, rfl, lk, hcd⟩ := F.ex
  constructor
  · exact len
  intro A up s H ar us vs Q E hr hg e0 bd rv hsp
  have inK : K.In s.heap := e0.mod.kin.keeps fun b o e => (e0.bs b o e).1
  have free : s.heap.NoLimit := e0.mod.nolimit.keeps fun b o e => (e0.bs b o e).1
  have kinds : ∀ y ∈ ps.zip us, (defScope st).names.lookup y.1 = some .local ∨
      ((defScope st).names.lookup y.1 = some .cell ∧ ((cellsFrom (s.heap.objs.size + 1) (defScope st).names []).lookup y.1).isSome = true) := by
    rintro ⟨n, v⟩ hy
    cases S.par n (List.of_mem_zip hy).1 with
    | inl q => exact Or.inl q
    | inr q => exact Or.inr ⟨q, PySem.W.cellsFrom_some _ _ _ (Or.inl q)⟩
  apply codeAny_call_function hr.depth (inK _ _ lk) rfl S.co S.gen rfl (PySem.W.codeRec_of inK hcd) (bd _ _ _ _ ?_)
  apply wpAny_newFunctionEnv_cells S.kind kinds
  intro env he s1 ic
  subst he
  refine ⟨free.keeps ic.toInCall.keep, codeAny_func ?_⟩
  obtain ⟨t, ht0, hq⟩ := hb cdv A up s H vs Q E (hr.deeper _) hg hsp
  have ht := ht0.nox
  have J0 := inv_start (CX := CX0) (E := E) S hr.hd e0 (len _ _ _ _ hsp) rv ic
  refine wpAny_mono (ht.run [] s1 (start N vs) H _ J0 hq) ?_ ?_
  · intro fl s' hs
    cases fl with
    | ret u =>
      obtain ⟨v, σ', H', J, rv', q⟩ := hs
      exact ⟨v, H', J.os, J.bare, J.base, J.hok, rv', q⟩
    | next =>
      obtain ⟨σ', H', J, q⟩ := hs
      exact ⟨V.non, H', J.os, J.bare, J.base, J.hok, rfl, q⟩
    | brk => obtain ⟨_, _, _, q⟩ := hs; exact q.elim
    | cont => obtain ⟨_, _, _, q⟩ := hs; exact q.elim
  · intro e s' hs
    exact hs
theorem Df.okG {x : Str} {st : Stmt} {N ps : List Str} {k : Nat} {sp : Sp} (D : Df K mg x st ps) (S : FnScope N ps (defScope st)) (len : ∀ vs H Q E, sp vs H Q E → vs.length = ps.length)
    (hb : ∀ (f : Addr) (cdv : Value) (A : Around) (up : List Env) (s : Shared) (H : Hp) (vs : List V) (Q : VK) (E : XK), Room k (A.deeper (envOfC x (defScope st) s.heap.objs.size f cdv)) → A.guards = some [] → sp vs H Q E →
      ∃ t, PSs (cxOf CX0 P w K mg base N x (defScope st) f cdv A up s H E).nox (defBody st) t ∧ t { nx := fun _ H' => Q .non H', rt := Q } (start N vs) H) : ClG P w K mg base (k + 1) x sp := by
  obtain ⟨f, fd, F, m, b⟩ := D.ex
  exact ⟨f, fd, ps, fun_okG F S len (fun cdv A up s H vs Q E hr hg h => hb f cdv A up s H vs Q E hr hg h), m, F.kp, b⟩
end
theorem guards_in {A : Around} {q : Str} {sc : Scope} {n : Addr} {f : Addr} {c : Value} (h : A.guards = some []) : (A.deeper (envOfC q sc n f c)).guards = some [] := by
  simpa [Around.deeper] using h
section
variable {X : Cx} {k : Nat} {x : Str} {sp : Sp} {e : Expr} {es : List Expr} {t : TA} {p pos : Pos}
theorem pe_clG (c : ClG X.prog X.w X.K X.mg X.base k x sp) (hr : Room k X.A) (hg : X.A.guards = some []) (gl : Gl X x) (ha : PA X (e :: es) t)
    (hdb : (x == ("__debug__" : Str)) = false := by decide) (he : starEach (e :: es) X.env = (false, eval e X.env) :: starEach es X.env := by rfl) (hpl : (backTo pos (starEach es X.env)).any (·.1) = false := by rfl) :
    PE X (.Call (.Name x p) (e :: es) [] pos) (tCall sp [] E0 t) := by
  obtain ⟨f, fd, ps, F, hm, kp, b⟩ := c.ex
  constructor
  intro pins s σ H Q I h
  apply wpAny_Call_Name_kw (ld_glob I gl hm ?_ hdb)
  apply PySem.W.callWith_K (h₀ := X.base) I.ok.mod.kin kp (thn (ha.run pos pins s σ H _ I h) ?_) he hpl
  rintro us s1 ⟨vs, H1, J, rv, q⟩
  refine ⟨J.kIn, ?_⟩
  have q' : sp (vs ++ []) H1 Q E0 := q
  rw [List.append_nil] at q'
  have cnt : us.length = ps.length := by rw [← rv.length]; exact F.cnt _ _ _ _ q'
  have bd := b s1 us J.kIn (by rw [List.append_nil]; exact cnt)
  rw [List.append_nil] at bd
  refine wpAny_call (codeAny_mono (F.go X.A X.stack s1 H1 ⟨us, []⟩ us vs Q E0 hr hg J.env0 bd rv q') ?_)
  rintro (er | fl) s' hq
  · exact False.elim hq
  · cases fl with
    | ret u => exact J.after hq
    | next => exact hq.elim
    | brk => exact hq.elim
    | cont => exact hq.elim
end
/-- the law's own call, nothing being shown around it -/
theorem law_callG {P : Program} {w : World} {K : PySem.W.Frag} {mg mb : Str → Option Value} {k : Nat} {fa a : Addr} {fd : FuncData} {x : Str} {sp : Sp} {s : Shared} {vs : List Value} {ns : List Int}
    (KX : K.In s.heap) (hns : s.heap.Ns mainGlobals mg) (hb : s.heap.Ns builtinsNs mb) (hbb : ∀ x : Str, x ≠ "__name__" → mb x = bootBuiltins x) (hlim : s.heap.NoLimit) (hg : s.gens = #[])
    (ha : s.heap.get? a = some { cls := .type "list", data := .seq vs.toArray }) (hi : IntsAre vs ns) (hl : ns.length ≤ sizeLine) (hr : Room k callerA)
    (F : ∀ base : Heap, K.In base → base.Ns mainGlobals mg → FnG P w K mg base k fa fd [x] sp) (bd : ∀ (s : Shared) (u : Value), BindsTo s fd ⟨[u], []⟩ [(x, u)])
    (ask : ∀ H : Hp, Only H → SqL K H a (ns.map V.int) → sp [.ref a] H (fun v _ => v = .bl true) fun _ _ _ => False) :
    codeAny (model P w) callerA (.call (.ref fa) ⟨[.ref a], []⟩) (fun r s' => r = .ok (.ret (.bool true)) ∧ OldK s.heap s'.heap ∧ s'.os = s.os ∧ AllBare s'.gens) s := by
  have vals := vals_ints hi
  have many := hi.length
  have main : ∀ H : Hp, Only H → SqL K H a (ns.map V.int) → HOk P w H s.heap → (∀ b, H b ≠ none → b = a) → (H a ≠ none → K.lookup a = none) →
      codeAny (model P w) callerA (.call (.ref fa) ⟨[.ref a], []⟩) (fun r s' => r = .ok (.ret (.bool true)) ∧ OldK s.heap s'.heap ∧ s'.os = s.os ∧ AllBare s'.gens) s := by
    intro H only sq hok at_a hK
    have rest : ∀ {b : Addr} {o : Obj}, s.heap.get? b = some o → H b = none → (hidT s.heap H).get? b = some o := fun e n => hidT_get e n
    have dicts : ∀ {b : Addr} {o : Obj} {es : Array DictEntry} {ep : Nat}, s.heap.get? b = some o → o.data = .dict es ep → H b = none := by
      intro b o es ep e d
      rcases q : H b with _ | u
      · rfl
      · have e' : b = a := at_a b (by rw [q]; exact Option.some_ne_none _)
        rw [e', ha] at e
        cases e
        have d' : Data.seq vs.toArray _ = Data.dict es ep := d
        cases d'
    have spaces : ∀ {b : Addr} {m : Str → Option Value}, s.heap.Ns b m → (hidT s.heap H).Ns b m := by
      rintro b m ⟨o, es, ep, e, d, r⟩
      exact ⟨o, es, ep, rest e (dicts e d), d, r⟩
    have inB : K.In (hidT s.heap H) := by
      intro b o e
      refine rest (KX b o e) ?_
      rcases q : H b with _ | u
      · rfl
      · have nn : H b ≠ none := by rw [q]; exact Option.some_ne_none _
        have e' : b = a := at_a b nn
        rw [e'] at nn e
        rw [hK nn] at e
        cases e
    have md : Mod K mg (hidT s.heap H) := by
      obtain ⟨mc, h1, h2⟩ := hlim
      exact ⟨inB, spaces hns, ⟨mb, spaces hb, hbb⟩, mc, spaces h1, h2⟩
    have e0 : Env0 P w K mg (hidT s.heap H) callerA [] s H := by
      refine ⟨rfl, md, fun b o e => of_hidT e, Nat.le_of_eq (hidT_size _ _), trivial, ?_, hok, .of_eq hg⟩
      intro b hb
      have z : b ∈ ([] : List Addr) := hb
      cases z
    refine codeAny_mono ((F _ inB (spaces hns)).go callerA [] s H ⟨[.ref a], []⟩ [.ref a] [.ref a] _ _ hr rfl e0 (bd s (.ref a)) (.cons rfl .nil) (ask H only sq)) ?_
    rintro (e | fl) s' h
    · exact False.elim h
    · cases fl with
      | next => exact h.elim
      | brk => exact h.elim
      | cont => exact h.elim
      | ret u =>
        obtain ⟨v, H', os, bare, un, hok', r', q⟩ := h
        have q' : v = .bl true := q
        rw [q'] at r'
        obtain rfl : u = Value.bool true := r'
        refine ⟨rfl, OldK.of_keep ?_, os, bare⟩
        intro b o e
        rcases qb : H b with _ | u
        · refine un.keep b o e qb ?_ (by simp)
          intro z
          have z' : b ∈ ([] : List Addr) := z
          cases z'
        · rcases only b with z | ⟨ob, xs, z⟩
          · rw [qb] at z; cases z
          · obtain ⟨e1, _⟩ := hok b _ z
            obtain ⟨e2, _⟩ := hok' b _ (un.frzs b ob _ z)
            rw [e] at e1
            cases e1
            exact e2
  rcases hk : K.lookup a with _ | o
  · have yes : ∀ b, b = a → (fun b => if b = a then some (HO.frz { cls := .type "list", data := .seq vs.toArray } (.lst (ns.map V.int))) else none) b = some (HO.frz { cls := .type "list", data := .seq vs.toArray } (.lst (ns.map V.int))) := fun b e => if_pos e
    refine main (fun b => if b = a then some (.frz { cls := .type "list", data := .seq vs.toArray } (.lst (ns.map V.int))) else none) ?_ (.inl (.inr ⟨_, yes a rfl⟩)) ?_ ?_ fun _ => hk
    · intro b
      by_cases e : b = a
      · exact Or.inr ⟨_, _, yes b e⟩
      · exact Or.inl (if_neg e)
    · intro b u z
      by_cases e : b = a
      · rw [yes b e] at z
        cases z
        rw [e]
        exact ⟨ha, by rw [List.length_map]; exact hl, vs, _, vals, ha⟩
      · have z' := (if_neg e).symm.trans z
        cases z'
    · intro b z
      by_cases e : b = a
      · exact e
      · exact (z (if_neg e)).elim
  · have e := KX a o hk
    rw [ha] at e
    cases e
    refine main (fun _ => none) (fun _ => .inl rfl) (.inr ⟨_, vs.toArray, _, hk, rfl, rfl, rfl, by rw [List.size_toArray, many]; exact hl, by simpa using vals⟩) ?_ (fun b z => absurd rfl z) fun z => absurd rfl z
    intro b u z
    have z' : (none : Option HO) = some u := z
    cases z'
/-- the end, from the promise of the law's def -/
theorem walkG {l : PySem.W.OpenLaw} {n k : Nat} {q : Program} {loose : List Str} {XP : (Str → Option Value) → Heap → Prop} {YP : World → Heap → Prop} {d : DefRec} {K : Params → PySem.W.Frag} {sp : World → Sp} {x : Str}
    (hn : l.most = some n) (hn2 : n ≤ sizeLine) (hdf : d.params.defaults = []) (hr : Room k callerA) (hY : ∀ (w : World) (h : Heap), YP w h → (K w.params).In h)
    (F : ∀ (w : World) (mg : Str → Option Value) (fa : Addr) (h : Heap), (K w.params).In h → h.Ns mainGlobals mg → mg d.name = some (.ref fa) →
      ∃ fd : FuncData, (∀ (s : Shared) (u : Value), BindsTo s fd ⟨[u], []⟩ [(x, u)]) ∧ ∀ base : Heap, (K w.params).In base → base.Ns mainGlobals mg → FnG l.prog w (K w.params) mg base k fa fd [x] (sp w))
    (ask : ∀ (w : World) (H : Hp) (a : Addr) (ns : List Int), ns.length ≤ n → Only H → SqL (K w.params) H a (ns.map V.int) → sp w [.ref a] H (fun v _ => v = .bl true) fun _ _ _ => False) :
    PySem.W.WalkO q loose XP YP l.row.toRowW d [] (fun f vs => PySem.call f vs) := by
  apply Att.attach_call hn hdf
  intro w s₀ s₁ mg mb fa o pm cd doc a vs ns G Y ho hd hcd hmg hobj hints hlen hg
  obtain ⟨fd, hb, hF⟩ := F w mg fa _ (hY w _ Y) G.T.g hmg
  exact law_callG (hY w _ Y) G.T.g G.T.b G.T.builtins G.T.nolimit hg hobj hints (Nat.le_trans hlen hn2) hr hF hb fun H only sq => ask w H a ns hlen only sq
mutual
theorem Dp.noDict {K : PySem.W.Frag} {H : Hp} : ∀ {d : PyData} {v : V}, Dp K H v d → d.hasDict = false
  | _, _, .non => rfl
  | _, _, .bl _ => rfl
  | _, _, .int _ => rfl
  | _, _, .str _ => rfl
  | _, _, .lst _ a => DpAll.noDict a
  | _, _, .tup _ a => DpAll.noDict a
theorem DpAll.noDict {K : PySem.W.Frag} {H : Hp} : ∀ {ds : List PyData} {vs : List V}, DpAll K H vs ds → PyData.hasDictAll ds = false
  | _, _, .nil => rfl
  | _, _, .cons h t => by simp only [PyData.hasDictAll, Dp.noDict h, DpAll.noDict t, Bool.or_self]
end
section
variable {X : Cx}
def rRepr (K : PySem.W.Frag) : List V → Hp → VK → Prop := fun xs H Q => ∃ x d, xs = [x] ∧ Dp K H x d ∧ d.showable = true ∧ d.shown.length ≤ sizeLine ∧ d.depth ≤ 200 ∧ Q (.str d.shown) H
theorem call_reprD (hg : X.A.guards = some []) (hu : X.A.units + 220 < cLine) : CallR X (.builtin "repr") (rRepr X.K) := by
  intro pins s σ H xs us Q I r h
  obtain ⟨x, d, rfl, D, hs, hz, dd, q⟩ := h
  obtain ⟨u, rfl, rv⟩ := vals1 r
  have nd := Dp.noDict D
  cases D with
  | non => obtain rfl : u = Value.none := rv
           exact PySem.P.repr_of_none ⟨.str _, H, I.tok _, ⟨_, rfl⟩, q⟩
  | bl b => obtain rfl : u = Value.bool b := rv
            exact PySem.P.repr_of_bool ⟨.str _, H, I.tok _, ⟨_, rfl⟩, q⟩
  | int i => obtain ⟨t, rfl⟩ := rv
             exact PySem.P.repr_of_int (by simpa [PyData.showable] using hs) ⟨.str _, H, I.tok _, ⟨_, rfl⟩, q⟩
  | str z => obtain ⟨t, rfl⟩ := rv
             exact PySem.P.repr_of_str ⟨.str _, H, I.tok _, ⟨_, rfl⟩, q⟩ hz
  | lst sq al =>
    obtain ⟨as, rd⟩ := Dp.reads I _ _ _ (.lst sq al) rv
    obtain rfl := rv
    refine repr_of_reads' rd hs (fun z => by rw [nd] at z; cases z) hg (by omega) (fun _ _ e => e) ?_ hz
    intro h' u tk hk
    exact ⟨.str _, H, I.kept hk, ⟨_, rfl⟩, q⟩
  | tup sq al =>
    obtain ⟨as, rd⟩ := Dp.reads I _ _ _ (.tup sq al) rv
    obtain rfl := rv
    refine repr_of_reads' rd hs (fun z => by rw [nd] at z; cases z) hg (by omega) (fun _ _ e => e) ?_ hz
    intro h' u tk hk
    exact ⟨.str _, H, I.kept hk, ⟨_, rfl⟩, q⟩
end
end SG
/-! isinstance, in and not in, dict(a tuple of pairs), over data -/
namespace SG
open PySem PySem.Spec PyProof.Rows L2
section
variable {X : Cx}
/-- isinstance(x, T), x data -/
def rIsD (K : PySem.W.Frag) (T : String) (p : PyData → Bool) : List V → Hp → VK → Prop := fun xs H Q => ∃ x d, xs = [x, .ty T] ∧ Dp K H x d ∧ Q (.bl (p d)) H
theorem call_isInt : CallR X (.builtin "isinstance") (rIsD X.K "int" PyData.isInt) := by
  intro pins s σ H xs us Q I r h
  obtain ⟨x, d, rfl, D, q⟩ := h
  obtain ⟨u, c, rfl, rv, rc⟩ := vals2 r
  obtain rfl : c = Value.type "int" := rc
  obtain ⟨as, rd⟩ := Dp.reads I _ _ _ D rv
  exact PySem.W.isinstance_int_data rd fun tk _ => ⟨.bl _, H, I.tok tk, rfl, q⟩
theorem call_isBool : CallR X (.builtin "isinstance") (rIsD X.K "bool" PyData.isBool) := by
  intro pins s σ H xs us Q I r h
  obtain ⟨x, d, rfl, D, q⟩ := h
  obtain ⟨u, c, rfl, rv, rc⟩ := vals2 r
  obtain rfl : c = Value.type "bool" := rc
  obtain ⟨as, rd⟩ := Dp.reads I _ _ _ D rv
  exact PySem.W.isinstance_bool_data rd fun tk _ => ⟨.bl _, H, I.tok tk, rfl, q⟩
theorem call_isStr : CallR X (.builtin "isinstance") (rIsD X.K "str" PyData.isStr) := by
  intro pins s σ H xs us Q I r h
  obtain ⟨x, d, rfl, D, q⟩ := h
  obtain ⟨u, c, rfl, rv, rc⟩ := vals2 r
  obtain rfl : c = Value.type "str" := rc
  obtain ⟨as, rd⟩ := Dp.reads I _ _ _ D rv
  exact PySem.W.isinstance_str_data rd fun tk _ => ⟨.bl _, H, I.tok tk, rfl, q⟩
theorem call_isTup : CallR X (.builtin "isinstance") (rIsD X.K "tuple" PyData.isTuple) := by
  intro pins s σ H xs us Q I r h
  obtain ⟨x, d, rfl, D, q⟩ := h
  obtain ⟨u, c, rfl, rv, rc⟩ := vals2 r
  obtain rfl : c = Value.type "tuple" := rc
  obtain ⟨as, rd⟩ := Dp.reads I _ _ _ D rv
  exact PySem.W.isinstance_tuple_data rd fun tk _ => ⟨.bl _, H, I.tok tk, rfl, q⟩
/-- x in t, t a tuple of data -/
def rInT (K : PySem.W.Frag) (neg : Bool) : R2 := fun x y H Q => ∃ d es, Dp K H x d ∧ Dp K H y (.tuple es) ∧ d.plain = true ∧ PyData.plainAll es = true ∧ min (PyData.depthAll es) d.depth ≤ 64 ∧ Q (.bl (xor neg (es.any fun e => PyData.eqv e d))) H
theorem op_inT (hu : X.A.units + 70 < cLine) : OpR X (compareOp .In) (rInT X.K false) := by
  intro pins s σ H x y ux uy Q I rx ry h
  obtain ⟨d, es, D, T, pd, pe, de, q⟩ := h
  obtain ⟨as, r1⟩ := Dp.reads I _ _ _ D rx
  obtain ⟨bs, r2⟩ := Dp.reads I _ _ _ T ry
  rw [Bool.false_xor] at q
  exact PySem.SeqAt.in_tuple_data r2 r1 pe pd (by omega) ⟨.bl _, H, I, rfl, q⟩
theorem op_ninT (hu : X.A.units + 70 < cLine) : OpR X (compareOp .NotIn) (rInT X.K true) := by
  intro pins s σ H x y ux uy Q I rx ry h
  obtain ⟨d, es, D, T, pd, pe, de, q⟩ := h
  obtain ⟨as, r1⟩ := Dp.reads I _ _ _ D rx
  obtain ⟨bs, r2⟩ := Dp.reads I _ _ _ T ry
  rw [Bool.true_xor] at q
  exact PySem.SeqAt.notIn_tuple_data r2 r1 pe pd (by omega) ⟨.bl _, H, I, rfl, q⟩
end
end SG
/-! tuples of which it is known that they have no attributes of their own (dict(t) looks for them): the rules that make tuples, telling that -/
namespace SG
open PySem PySem.Spec PyProof.Rows L2 HT
theorem hin_of {A : Around} {k : Nat} (hr : Room k A) : A.units + 70 < cLine := by have := hr.un; omega
theorem hrep_of {A : Around} {k : Nat} (hr : Room (k + 2) A) : A.units + 220 < cLine := by have := hr.un; omega
def Tz (H : Hp) (a : Addr) (xs : List V) : Prop := ∃ o, H a = some (.frz o (.tup xs)) ∧ o.dict = none
theorem Tz.sq {K : PySem.W.Frag} {H : Hp} {a : Addr} {xs : List V} (h : Tz H a xs) : SqT K H a xs := by
  obtain ⟨o, e, _⟩ := h
  exact .inl (.inr ⟨o, e⟩)
/-- a new such tuple -/
def NewT (H : Hp) (xs : List V) (Q : VK) : Prop := ∀ (p : Addr) (o : Obj), H p = none → o.dict = none → Q (.ref p) (upd H p (.frz o (.tup xs)))
section
variable {X : Cx}
theorem put_tup {pins : List (Addr × Obj)} {σ : L2.St} {H : Hp} {s : Shared} {Q : VK} {xs : List V} {its : List Value} (I : L2.Inv X pins σ H s) (r : Vals xs its) (z : xs.length ≤ sizeLine) (q : NewT H xs Q) :
    EP X pins σ Q (.ref s.heap.objs.size) { s with heap := s.heap.push { cls := .type "tuple", data := .seq its.toArray } } := by
  have free : H s.heap.objs.size = none := I.hok.fresh (Nat.le_refl _)
  have kept : ∀ b u, s.heap.get? b = some u → (s.heap.push { cls := .type "tuple", data := .seq its.toArray }).get? b = some u := fun b u e => Heap.get?_push_of_some _ e
  have got : (s.heap.push { cls := .type "tuple", data := .seq its.toArray }).get? s.heap.objs.size = some { cls := .type "tuple", data := .seq its.toArray } := Heap.get?_push_size _ rfl
  refine ⟨.ref s.heap.objs.size, upd H s.heap.objs.size (.frz { cls := .type "tuple", data := .seq its.toArray } (.tup xs)), I.laid (t' := s.toks) kept (Nat.le_refl _) ?_, rfl, q _ _ free rfl⟩
  exact ⟨got, z, its, r, IsTup.new _ _⟩
/-- len(x), x a list or a tuple -/
def rLenSq (K : PySem.W.Frag) : List V → Hp → VK → Prop := fun xs H Q => ∃ p ys, xs = [.ref p] ∧ (SqL K H p ys ∨ SqT K H p ys) ∧ Q (.int ys.length) H
/-- (a, b, ..) -/
def tTupF (t : TA) : TE := fun σ H Q => t σ H fun xs H1 => xs.length ≤ sizeLine ∧ NewT H1 xs Q
theorem pe_tupF {es : List Expr} {t : TA} {pos : Pos} {x1} (h : PA X es t) : PE X (.Tuple es x1 pos) (tTupF t) := by
  constructor
  intro pins s σ H Q I hq
  apply wpAny_Tuple_spliced (thn (h.run pos pins s σ H _ I hq) ?_)
  rintro us s1 ⟨xs, H1, J, r, z, q⟩
  exact ⟨by rw [← r.length]; exact z, put_tup J r z q⟩
/-- tuple(x), x a list or a tuple -/
def kTupF (K : PySem.W.Frag) (x : V) (H : Hp) (Q : VK) : Prop :=
  (∃ p xs, x = .ref p ∧ SqL K H p xs ∧ NewT H xs Q) ∨ (∃ p xs, x = .ref p ∧ SqT K H p xs ∧ Q (.ref p) H)
theorem pe_tupleOfF {a : Expr} {ta : TE} {p pos : Pos} (hg : Gl X "tuple") (hm : X.mg "tuple" = none) (ha : PE X a ta) (na : starEach [a] X.env = (false, eval a X.env) :: starEach [] X.env := by rfl) :
    PE X (.Call (.Name "tuple" p) [a] [] pos) (tThen ta (kTupF X.K)) := by
  constructor
  intro pins s σ H Q I h
  refine Call_ (ld_blt I hg hm boot_tuple (PyProof.Rows.callWith_type1 (one_arg ha I h ?_ na) na))
  intro v s2 x H2 J r q
  rcases q with ⟨p, xs, rfl, hs, q⟩ | ⟨p, xs, rfl, hs, q⟩
  · obtain rfl : v = .ref p := r
    obtain ⟨its, rv, pl, hz⟩ := J.list hs
    refine call_tuple_list pl.isList ?_ (by rw [List.size_toArray, ← rv.length]; exact hz)
    intro h' hk
    exact put_tup (J.kept (t' := s2.toks) hk) rv hz q
  · obtain rfl : v = .ref p := r
    obtain ⟨its, rv, pl, hz⟩ := J.tuple hs
    exact call_tuple_tup pl ⟨.ref p, H2, J, rfl, q⟩
/-- t[lo:hi] -/
def rSlF (K : PySem.W.Frag) : V → Option Int → Option Int → Hp → VK → Prop := fun x lo hi H Q => ∃ a xs, x = .ref a ∧ SqT K H a xs ∧
  (HT.sIx xs.length 0 lo = 0 ∧ HT.sIx xs.length xs.length hi = xs.length → Q (.ref a) H) ∧ (¬ (HT.sIx xs.length 0 lo = 0 ∧ HT.sIx xs.length xs.length hi = xs.length) → NewT H (cutV xs lo hi) Q)
theorem sl_tupF : SlR X (rSlF X.K) := by
  intro pins s σ H x v vl vu lo hi sl Q I rx hs pl pu h
  obtain ⟨a, xs, rfl, hx, q1, q2⟩ := h
  obtain rfl : v = .ref a := rx
  obtain ⟨its, r, ht, hz⟩ := I.tuple hx
  have many : its.toArray.size = xs.length := by rw [List.size_toArray]; exact r.length.symm
  refine ⟨"tuple", _, PyProof.Rows.slot_tuple_getitem.lookup, ht.typeIs, ?_⟩
  by_cases hw : HT.sIx xs.length 0 lo = 0 ∧ HT.sIx xs.length xs.length hi = xs.length
  · exact getItem_tuple_whole ht hs pl pu (by rw [many]; exact hw) ⟨.ref a, H, I, rfl, q1 hw⟩
  · refine HT.getItem_tuple_cut ht hs pl pu (by rw [many]; exact hw) ?_ (by rw [many]; exact hz)
    rw [many]
    exact put_tup I ((r.drop (HT.sIx xs.length 0 lo)).take (HT.sIx xs.length xs.length hi - HT.sIx xs.length 0 lo)) (Nat.le_trans (cutV_length xs lo hi) hz) (q2 hw)
/-- t + u -/
def rCatF (K : PySem.W.Frag) : R2 := fun x y H Q => ∃ a b xs ys, x = .ref a ∧ y = .ref b ∧ SqT K H a xs ∧ SqT K H b ys ∧ xs.length + ys.length ≤ sizeLine ∧
  (xs = [] → Q (.ref b) H) ∧ (xs ≠ [] → ys = [] → Q (.ref a) H) ∧ (xs ≠ [] → ys ≠ [] → NewT H (xs ++ ys) Q)
theorem op_catF : OpR X (binaryOp .Add) (rCatF X.K) := by
  intro pins s σ H x y v u Q I rx ry h
  obtain ⟨a, b, xs, ys, rfl, rfl, ha, hb, hz, q0, q1, q2⟩ := h
  obtain rfl : v = .ref a := rx
  obtain rfl : u = .ref b := ry
  obtain ⟨its, r1, p1, _⟩ := I.tuple ha
  obtain ⟨its2, r2, p2, _⟩ := I.tuple hb
  by_cases hx : xs = []
  · subst hx
    cases r1
    exact cat_tup0 p1 p2 ⟨.ref b, H, I, rfl, q0 rfl⟩
  · refine HT.cat_tup p1 p2 (fun z => hx (r1.nil_iff.mp z)) (fun z => ⟨.ref a, H, I, rfl, q1 hx (r2.nil_iff.mp z)⟩) (fun z => ?_) (by rw [← r1.length, ← r2.length]; exact hz)
    exact put_tup I (r1.append r2) (by rw [List.length_append]; exact hz) (q2 hx fun w => z (r2.nil_iff.mpr w))
/-- t[::-1] -/
def tRevF (K : PySem.W.Frag) (te : TE) : TE := fun σ H Q => te σ H fun x H1 => ∃ a xs, x = .ref a ∧ SqT K H1 a xs ∧ NewT H1 xs.reverse Q
theorem places_back (n : Nat) : Builtin.Slice.slicePlaces ((n : Int) - 1) (-1) (-1) = n := by
  unfold Builtin.Slice.slicePlaces
  have h1 : ¬ ((-1 : Int) > 0) := by decide
  simp only [h1, if_false]
  split
  · have e : ((n : Int) - 1 - -1 - 1) / (- -1) = (n : Int) - 1 := by
      rw [show (- -1 : Int) = 1 by decide, Int.ediv_one]; omega
    rw [e]; omega
  · omega
theorem fm_congr {α β : Type} {f g : α → Option β} : ∀ {l : List α}, (∀ x ∈ l, f x = g x) → l.filterMap f = l.filterMap g
  | [], _ => rfl
  | x :: l, h => by
    rw [List.filterMap_cons, List.filterMap_cons, h x (by simp), fm_congr fun y hy => h y (by simp [hy])]
theorem pick_back (xs : Array Value) : ((List.range xs.size).filterMap fun (m : Nat) => xs[(((xs.size : Int) - 1) + (m : Int) * -1).toNat]?).toArray = xs.toList.reverse.toArray := by
  have e : ((List.range xs.size).filterMap fun (m : Nat) => xs[(((xs.size : Int) - 1) + (m : Int) * -1).toNat]?) = ((List.range xs.size).map fun k => xs.size - 1 - k).filterMap (xs[·]?) := by
    rw [List.filterMap_map]
    apply fm_congr
    intro m hm
    have := List.mem_range.mp hm
    show xs[_]? = xs[xs.size - 1 - m]?
    congr 1
    omega
  rw [e, PySem.W.krv_range, List.filterMap_reverse, PySem.W.krv_all]
theorem getItem_tuple_back {prog : Program} {w : World} {A : Around} {E : Value → Shared → Prop} {s : Shared} {t sl : Addr} {items : Array Value} {tk : Tok} {Q : Value → Shared → Prop} (ht : IsTup s.heap t items) (hs : s.heap.IsSliceOf sl .none .none (.int (-1) tk))
    (h : Q (.ref s.heap.objs.size) { s with heap := s.heap.push { cls := .type "tuple", data := .seq items.toList.reverse.toArray } })
    (hsz : items.size ≤ sizeLine) : wpAny (model prog w) A (getItem (.ref t) (.ref sl)) Q E s := by
  obtain ⟨os, hos, hcs, hds⟩ := id hs
  have hTs : s.TypeIs (.ref sl) "slice" := ⟨os, hos, hcs⟩
  unfold getItem
  try with_reducible refine wpAny_holding ?_
  first | refine wpAny_bind (wpAny_pure ?_) | skip
  apply wpAny_bind
  apply wpAny_sequenceKey ht.typeIs (by decide)
  apply wpAny_bind
  apply wpAny_callSpecial?_slot (name := Str.ofString "__getitem__") ht.typeIs PyProof.Rows.slot_tuple_getitem
  apply wpAny_call_entry PyProof.Rows.slot_tuple_getitem ht.typeIs entry_tuple_getitem ?_ (args_tuple_getitem _ _)
  show wpAny _ _ (Builtin.Tuple.tupleItemsOf (.ref t) >>= _) _ _ s
  apply wpAny_bind
  apply tupleItemsOf_ ht
  apply wpAny_bind
  apply wpAny_typeOf hTs
  rw [if_pos (by decide)]
  apply wpAny_bind
  unfold Builtin.Slice.sliceApplied Builtin.Slice.sliceFields
  refine wpAny_bind (wpAny_bind (wpAny_field hos hds (x := .none) rfl (wpAny_bind (wpAny_field hos hds (x := .none) rfl (wpAny_bind (wpAny_field hos hds (x := .int (-1) tk) rfl (wpAny_pure ?_)))))))
  refine wpAny_bind (slicePart_int ?_)
  show wpAny _ _ (if ((-1 : Int) == 0) = true then _ else _) _ _ s
  rw [if_neg (by decide)]
  refine wpAny_bind (slicePart_none (wpAny_bind (slicePart_none (wpAny_bind (wpAny_pure ?_)))))
  show wpAny _ _ (pure (((items.size : Int) - 1), (-1 : Int), Builtin.Slice.slicePlaces ((items.size : Int) - 1) (-1) (-1))) _ _ s
  rw [places_back]
  apply wpAny_pure
  have no : ¬ (((((items.size : Int) - 1) == 0 && (-1 : Int) == 1) && items.size == items.size) = true) := by simp
  show wpAny _ _ (if ((((items.size : Int) - 1) == 0 && (-1 : Int) == 1) && items.size == items.size) = true then _ else _) _ _ s
  rw [if_neg no, pick_back]
  have ok : sizeOk (.seq items.toList.reverse.toArray) := by
    show items.toList.reverse.toArray.size ≤ sizeLine
    rw [List.size_toArray, List.length_reverse, Array.length_toList]; exact hsz
  first
    | exact wpAny_bind (m := Builtin.Tuple.tupleExact _) (wpAny_newObj_type (wpAny_pure ⟨_, rfl, wpAny_pure h⟩) ok)
    | exact wpAny_bind (m := Builtin.Tuple.tupleExact _) (wpAny_newObj_type (wpAny_bind (wpAny_pure (wpAny_pure ⟨_, rfl, wpAny_pure h⟩))) ok)
theorem pe_revF {e : Expr} {te : TE} {j : Nat} {p0 p1 p2 pos : Pos} (he : PE X e te) : PE X (.Subscript e (.Slice none none (some (.UnaryOp .USub (.Constant (.int 1) j p0) p1)) p2) pos) (tRevF X.K te) := by
  have hs : PO X (some (.UnaryOp .USub (.Constant (.int 1) j p0) p1)) _ := po_some (pe_un un_neg pe_int)
  constructor
  intro pins s σ H Q I h
  refine Subscript_ (thn (he.run pins s σ H _ I h) ?_)
  rintro v s1 ⟨x, H1, I1, r1, a, xs, rfl, sq, q⟩
  obtain rfl : v = .ref a := r1
  refine wpAny_Slice ?_
  rw [evalPart_none]
  refine wpAny_pure ?_
  refine wpAny_pure ?_
  refine thn (hs.run pins s1 σ H1 (fun o H2 => o = some (-1) ∧ H2 = H1) I1 ?_) ?_
  · exact ⟨_, rfl, _, rfl, rfl, rfl⟩
  rintro vk s3 ⟨u, H3, I3, pu, rfl, rfl⟩
  obtain ⟨tk, rfl⟩ : ∃ tk, vk = .int (-1) tk := by
    cases pu with
    | int i t => exact ⟨t, rfl⟩
  have I4 : L2.Inv X pins σ H3 { s3 with heap := s3.heap.push { cls := .type "slice", data := .fields #[.none, .none, .int (-1) tk] } } := I3.kept (t' := s3.toks) fun b ob q => Heap.get?_push_of_some _ q
  obtain ⟨its, r, ht, hz⟩ := I4.tuple sq
  have many : its.toArray.size = xs.length := by rw [List.size_toArray]; exact r.length.symm
  have done := getItem_tuple_back (prog := X.prog) (w := X.w) (A := X.A) (E := X.xe) (Q := EP X pins σ Q) ht (Heap.IsSliceOf.new ..) (put_tup I4 (by simpa using r.reverse) (by rw [List.length_reverse]; exact hz) q) (by rw [many]; exact hz)
  exact tail_any (ops := [.ref a, .ref s3.heap.objs.size]) ht.typeIs PyProof.Rows.slot_tuple_getitem.lookup done (by with_unfolding_all rfl)
/-- a target x, y -/
theorem pg_two {K : PySem.W.Frag} {i j k : Nat} {x y : Str} {p1 p2 pos : Pos} (hK : X.K = K) (hc : X.calm = true) (hN : X.N.Nodup) (hi : X.N[i]? = some x) (hj : X.N[j]? = some y) (hx : Loc X.env.scope x) (hy : Loc X.env.scope y)
    (fx : X.fn x = true ∨ X.env.scope.names.lookup x = some .local := by first | exact .inl rfl | exact .inr rfl) (fy : X.fn y = true ∨ X.env.scope.names.lookup y = some .local := by first | exact .inl rfl | exact .inr rfl) :
    PG X (.Tuple [.Name x p1, .Name y p2] k pos) (gTup K 2 (gCons (gName i) (gCons (gName j) gNil))) := by
  subst hK
  exact pg_tup hc (pgs_cons (pg_name hN hi hx fx) (pgs_cons (pg_name hN hj hy fy) pgs_nil))
/-- the pairs as they lie -/
theorem pairs_raw {pins : List (Addr × Obj)} {σ : L2.St} {H : Hp} {s : Shared} (I : L2.Inv X pins σ H s) : ∀ {ps : List Addr} {kvs : List (Key × V)}, Paired (fun p kv => SqT X.K H p [kV kv.1, kv.2]) ps kvs →
    ∃ (raw : List (Value × Value)) (prs : List (Key × Value)), KV kvs prs ∧ raw.length = ps.length ∧ prs.length = ps.length ∧
      ∀ (j : Nat) (k v : Value), raw[j]? = some (k, v) → (∃ b, ps[j]? = some b ∧ IsTup s.heap b #[k, v]) ∧ ∃ key, prs[j]? = some (key, v) ∧ keyIs key k = true
  | _, _, .nil => ⟨[], [], .nil, rfl, rfl, fun j k v e => by simp at e⟩
  | _, _, .cons (a := p) (b := kv) h t => by
    obtain ⟨raw, prs, r, h1, h2, hp⟩ := pairs_raw I t
    obtain ⟨its, rv, ht, _⟩ := I.tuple h
    obtain ⟨u, y, ei, ru, ry⟩ := vals2 rv
    subst ei
    refine ⟨(u, y) :: raw, (kv.1, y) :: prs, .cons ⟨rfl, ry⟩ r, by simp [h1], by simp [h2], ?_⟩
    intro j k v e
    cases j with
    | zero =>
      cases e
      exact ⟨⟨p, rfl, ht⟩, kv.1, rfl, kV_is (P := X.prog) (w := X.w) ru⟩
    | succ j => simpa using hp j k v (by simpa using e)
/-- dict(t), t a tuple of pairs -/
theorem call_dictT (hcalm : X.calm = true) : CallR X (.type "dict") (fun xs H Q => ∃ (a : Addr) (ps : List Addr) (kvs : List (Key × V)), xs = [.ref a] ∧ Tz H a (ps.map V.ref) ∧ Paired (fun p kv => SqT X.K H p [kV kv.1, kv.2]) ps kvs ∧
    ∀ p, H p = none → Q (.ref p) (upd H p (.dK (mergeK [] kvs)))) := by
  intro pins s σ H xs us Q I r q
  obtain ⟨a, ps, kvs, rfl, hq, hp, q⟩ := q
  obtain ⟨u, rfl, rx⟩ := vals1 r
  obtain rfl : u = Value.ref a := rx
  obtain ⟨o, ea, hd⟩ := hq
  obtain ⟨ho0, hz, its, rv, o1, ho, hc, n, hdat⟩ := (show ObjOk X.prog X.w H s.heap a (.frz o (.tup (ps.map V.ref))) from I.hok a _ ea)
  rw [ho0] at ho
  cases ho
  obtain rfl := refs_at rv
  rw [List.length_map] at hz
  obtain ⟨raw, prs, rel, l1, l2, hpr⟩ := pairs_raw I hp
  have P := PairArg.tuple (prog := X.prog) (w := X.w) a (ps.map Value.ref).toArray (fun j => ps.getD j 0) raw
  refine PySem.call_dict_pairs (knd := mixKind X.prog X.w) (kvs := prs) P (I.ok.hd hcalm) ⟨⟨o, n, ho0, hc, hd, hdat⟩, by simp [l1], ?_⟩ ⟨by rw [l1, l2], ?_⟩ (by rw [l1]; exact hz) ?_
  · intro j k v e
    obtain ⟨⟨b, hb, ht⟩, _⟩ := hpr j k v e
    have eb : ps.getD j 0 = b := by simp [List.getD, hb]
    exact ⟨by simp [eb, hb], .inl (by show s.heap.IsTuple (ps.getD j 0) _; rw [eb]; exact ht)⟩
  · intro j k v e
    obtain ⟨_, key, e1, e2⟩ := hpr j k v e
    exact ⟨key, e1, e2⟩
  · intro h' tk hd' k
    have k' : ∀ b o, s.heap.get? b = some o → h'.get? b = some o := fun b o e => k b o (by simp) e
    have hm : (s.heap.objs.size == sysModules) = false := beq_eq_false_iff_ne.mpr (Nat.ne_of_gt I.big)
    have hlen : (mergeK [] kvs).length ≤ sizeLine := by
      have := length_mergeK kvs []
      rw [List.length_nil, Nat.zero_add, rel.length, l2] at this
      omega
    exact ⟨.ref s.heap.objs.size, upd H s.heap.objs.size (.dK (mergeK [] kvs)), I.laid (t' := tk) k' (Nat.le_refl _) (show ObjOk X.prog X.w _ _ _ (.dK (mergeK [] kvs)) from ⟨hlen, hm, merged [] prs, KV.merge rel .nil, hd'⟩), rfl, q _ (I.hok.fresh (Nat.le_refl _))⟩
end
end SG
namespace SG
open PySem PySem.Spec PyProof.Rows L2
/-! ### discard from a set of numbers -/
theorem erase_list {α : Type} (xs : Array α) (i : Nat) : (SetTable.eraseAt xs i).toList = xs.toList.take i ++ xs.toList.drop (i + 1) := by
  unfold SetTable.eraseAt
  rw [Array.toList_append, Array.toList_extract, Array.toList_extract]
  simp [List.extract_eq_drop_take]
  rw [List.take_of_length_le (by rw [List.length_drop, Array.length_toList]; omega)]
theorem split_at {α : Type} : ∀ {l : List α} {i : Nat} {x : α}, l[i]? = some x → l = l.take i ++ x :: l.drop (i + 1)
  | [], i, x, h => by simp at h
  | y :: r, 0, x, h => by
    simp at h
    subst h
    simp
  | y :: r, i + 1, x, h => by
    have h' : r[i]? = some x := by simpa using h
    show y :: r = y :: (r.take i ++ x :: r.drop (i + 1))
    rw [← split_at h']
theorem insert_size {α : Type} (xs : Array α) (i : Nat) (x : α) : (SetTable.insertAt xs i x).size = xs.size + 1 := by
  unfold SetTable.insertAt
  simp only [Array.size_append, Array.size_push, Array.size_extract]
  omega
theorem erase_size {α : Type} (xs : Array α) (i : Nat) (h : i < xs.size) : (SetTable.eraseAt xs i).size + 1 = xs.size := by
  unfold SetTable.eraseAt
  simp only [Array.size_append, Array.size_extract]
  omega
section
variable {P : Program} {w : World} {A : Around} {E : Value → Shared → Prop} {s : Shared} {a : Addr} {S : Int → Bool} {n : Nat}
/-- found.discard(k) -/
theorem setR_discard_hashed {k : Int} {tk : Tok} {Q : Bool → Shared → Prop} (R : SetR w s.heap a S n)
    (hQ : ∀ h' b, Heap.SameBut a s.heap h' → SetR w h' a (fun j => S j && !decide (j = k)) (if S k = true then n - 1 else n) → Q b { s with heap := h' }) :
    wpAny (model P w) A (setDiscardHashed a (.int k tk) ((intKind P w).hash k)) Q E s := by
  obtain ⟨o, es, ep, t, ho, hex, hd, g, nd, hm, hb, hf, hn, hr, hl⟩ := R
  have hkey : (intKind P w).is k (.int k tk) = true := intKind_is P w k tk
  have hsc : (Value.int k tk).scannable = true := rfl
  have hel : ElemsOf (intKind P w) es.toList := good_elems g
  unfold setDiscardHashed setFind setFindIn
  refine wpAny_bind (wpAny_bind (wpAny_setState_of ho hd hf ?_))
  dsimp only
  rw [byScan_of hsc hb hel]
  simp only [↓reduceIte]
  refine wpAny_bind (wpAny_rule ?_)
  refine wpAny_bind (wpAny_setScan_of hkey ho hd hf hel ?_)
  cases hfi : List.findIdx? (fun e => (intKind P w).is k e.2) es.toList with
  | none =>
    dsimp only
    have hnk : k ∉ es.toList.map keyOf := fun z => by
      obtain ⟨e, he, q⟩ := (good_mem (P := P) (w := w) g k).1 z
      have c := List.findIdx?_eq_none_iff.mp hfi e he
      rw [q] at c
      cases c
    have hSk : S k = false := by
      cases q : S k with
      | false => rfl
      | true => exact absurd ((hm k).1 q) hnk
    refine wpAny_pure (wpAny_pure ?_)
    have q := hQ s.heap false (Heap.SameBut.refl a s.heap) ⟨o, es, ep, t, ho, hex, hd, g, nd, fun i => by
      rw [Bool.and_eq_true, hm i]
      constructor
      · exact fun z => z.1
      · intro z
        refine ⟨z, ?_⟩
        have : ¬ i = k := fun e => hnk (e ▸ z)
        simp [this], hb, hf, by rw [hSk]; simpa using hn, hr, hl⟩
    exact q
  | some j =>
    dsimp only
    obtain ⟨hj, pj, _⟩ := List.findIdx?_eq_some_iff_getElem.mp hfi
    have hj' : j < es.size := by rw [← Array.length_toList]; exact hj
    have kj : keyOf es.toList[j] = k := (good_is (P := P) (w := w) (g _ (List.getElem_mem hj)) k).1 pj
    have hSk : S k = true := (hm k).2 ((good_mem (P := P) (w := w) g k).2 ⟨es.toList[j], List.getElem_mem hj, pj⟩)
    have hfs : t.place.size = es.size ∧ t.fill ≤ t.mask := by
      simpa [SetTable.fits, Bool.and_eq_true, beq_iff_eq, decide_eq_true_eq] using hf
    obtain ⟨pl, hpl⟩ : ∃ q, t.place[j]? = some q := ⟨_, Array.getElem?_eq_getElem (by omega)⟩
    have hdrop : t.drop j = { t with place := SetTable.eraseAt t.place j, dummies := SetTable.insertAt t.dummies (SetTable.below t.dummies pl) pl } := by
      unfold SetTable.drop
      rw [hpl]
    have sp := split_at (List.getElem?_eq_getElem hj)
    have el := erase_list es j
    have perm : es.toList.Perm (es.toList[j] :: (SetTable.eraseAt es j).toList) := by
      rw [el]
      conv => lhs; rw [sp]
      exact List.perm_middle
    have pk : (es.toList.map keyOf).Perm (k :: (SetTable.eraseAt es j).toList.map keyOf) := by
      have := perm.map keyOf
      rw [List.map_cons, kj] at this
      exact this
    have nd2 := pk.nodup_iff.mp nd
    obtain ⟨nk, nd3⟩ := List.nodup_cons.mp nd2
    have sz := erase_size es j hj'
    have hf2 : (t.drop j).fits (SetTable.eraseAt es j).size = true := by
      rw [hdrop]
      have z1 := erase_size t.place j (by omega)
      have z2 := insert_size t.dummies (SetTable.below t.dummies pl) pl
      have z3 : t.place.size + t.dummies.size ≤ t.mask := hfs.2
      show ((SetTable.eraseAt t.place j).size == (SetTable.eraseAt es j).size && decide ((SetTable.eraseAt t.place j).size + (SetTable.insertAt t.dummies (SetTable.below t.dummies pl) pl).size ≤ t.mask)) = true
      have hp := hfs.1
      rw [Bool.and_eq_true, beq_iff_eq, decide_eq_true_eq]
      omega
    have hr2 : Ris (t.drop j).place.toList := by
      rw [hdrop]
      show Ris (SetTable.eraseAt t.place j).toList
      rw [erase_list]
      have sub : (t.place.toList.take j ++ t.place.toList.drop (j + 1)).Sublist t.place.toList := by
        have q : t.place.toList[j]? = some pl := by rw [Array.getElem?_toList]; exact hpl
        conv => rhs; rw [split_at q]
        exact List.Sublist.append (List.Sublist.refl _) (List.sublist_cons_self _ _)
      exact List.Pairwise.sublist sub hr
    have hl2 : w.params.followText "set-order" = true ∨ (t.drop j).led = true := by
      rw [hdrop]
      exact hl
    have hb2 : (SetTable.eraseAt es j).size < scanBound := by omega
    refine wpAny_pure ?_
    dsimp only
    refine wpAny_bind (wpAny_setState_of ho hd hf ?_)
    dsimp only
    rw [Nat.zero_add]
    refine wpAny_bind (wpAny_storeSet_of ho hd ?_ (fits_of_scanBound hb2))
    refine wpAny_bind (wpAny_point ?_)
    refine wpAny_pure (hQ _ true (Heap.SameBut.update s.heap a _) ?_)
    have ho1 := store_at (es' := SetTable.eraseAt es j) (t' := t.drop j) ho hd
    refine ⟨_, _, _, _, ho1, hex, rfl, fun e he => g e (perm.mem_iff.mpr (List.mem_cons_of_mem _ he)), nd3, fun i => ?_, hb2, hf2, ?_, hr2, hl2⟩
    · rw [Bool.and_eq_true, hm i, pk.mem_iff, List.mem_cons]
      constructor
      · rintro ⟨e | e, q⟩
        · simp [e] at q
        · exact e
      · intro z
        have : ¬ i = k := fun e => nk (e ▸ z)
        exact ⟨.inr z, by simp [this]⟩
    · rw [if_pos hSk]
      omega
theorem setR_discard {k : Int} {tk : Tok} {Q : Value → Shared → Prop} (R : SetR w s.heap a S n)
    (hQ : ∀ h', Heap.SameBut a s.heap h' → SetR w h' a (fun j => S j && !decide (j = k)) (if S k = true then n - 1 else n) → Q .none { s with heap := h', toks := s.toks + 1 }) :
    wpAny (model P w) A (call (.builtin "set.discard") [.ref a, .int k tk]) Q E s := by
  have hS : s.heap.SetOf (intKind P w) a S n := R.setOf
  refine wpAny_call_entry PySem.F.slot_set_discard hS.typeIs PySem.F.entry_set_discard ?_ (PySem.F.args_set_discard_2 _ _)
  unfold Builtin.«set.discard» Builtin.Frozenset.oneOther
  simp only [List.isEmpty_nil, bind_assoc]
  unfold Builtin.Frozenset.addrOf Builtin.Frozenset.withSetAsKey setDiscard
  refine wpAny_bind (wpAny_pure ?_)
  try dsimp only
  refine wpAny_bind (wpAny_pure ?_)
  try dsimp only
  refine wpAny_bind (wpAny_tryCatch ?_)
  refine wpAny_holding ?_
  refine wpAny_bind ((intKind P w).pyHash (intKind_is P w k tk) ?_)
  refine setR_discard_hashed (s := { s with toks := s.toks + 1 }) R fun h' b sb r => ?_
  show wpAny _ _ (ret Value.none) _ _ _
  exact wpAny_pure ⟨_, rfl, hQ h' sb r⟩
end
section
variable {X : Cx}
/-- found.discard(k) -/
def rSDis (w : World) : V → List V → Hp → VK → Prop := fun x xs H Q => ∃ (a : Addr) (k : Int) (S : Int → Bool) (n : Nat), x = V.ref a ∧ xs = [V.int k] ∧ H a = some (SetO w a S n) ∧
  Q .non (upd H a (SetO w a (fun j => S j && !decide (j = k)) (if S k = true then n - 1 else n)))
theorem mt_sdis : MtR X "set.discard" (rSDis X.w) := by
  intro pins s σ H x xs v us Q I rx rxs h
  obtain ⟨a, k, S, n, rfl, rfl, ha, q⟩ := h
  cases rx
  cases rxs with
  | cons ry rt =>
    cases rt
    obtain ⟨tk, rfl⟩ := ry
    have R := setO_get I ha
    refine setR_discard R fun h' sb new => ?_
    have he : ∃ u, h'.get? a = some u := by
      have ⟨o, _, _, _, ho, _⟩ := new
      exact ⟨o, ho⟩
    exact ⟨.non, upd H a (SetO X.w a (fun j => S j && !decide (j = k)) (if S k = true then n - 1 else n)), I.write (e := a) (t' := s.toks + 1) (by rw [ha]; trivial) (.inl rfl) (fun b u hb hu => (sb.2 b hb).trans hu) he (setO_new new), rfl, q⟩
def tSDis (w : World) (to : TE) (t : TA) : TE := fun σ H Q => to σ H fun x H1 => (∃ a S n, x = V.ref a ∧ H1 a = some (SetO w a S n)) ∧ t σ H1 fun xs H2 => rSDis w x xs H2 Q
variable {o e : Expr} {es : List Expr} {to : TE} {t : TA} {apos cpos : Pos}
theorem pe_sdis (ho : PE X o to) (ha : PA X (e :: es) t)
    (hbase : attributeBase o "discard" X.env (eval o X.env) = eval o X.env := by rfl)
    (hfew : ((backTo cpos (starEach (e :: es) X.env)).all (fun x => !x.1) && (backToKw cpos (keywordEach [] X.env)).all (fun x => x.1.isSome)
      && decide ((e :: es).length + ([] : List Keyword).length + (if ([] : List Keyword).isEmpty then 0 else 1) < 30)) = true := by rfl)
    (hline : (apos.endLine == cpos.line) = true := by rfl) (hs : starEach (e :: es) X.env = (false, eval e X.env) :: starEach es X.env := by rfl) (hplain : (backTo cpos (starEach es X.env)).any (·.1) = false := by rfl) :
    PE X (.Call (.Attribute o "discard" apos) (e :: es) [] cpos) (tSDis X.w to t) := by
  refine ⟨fun pins s σ H Q I h => ?_⟩
  refine wpAny_Call_method_late hbase hfew hline rfl (thn (ho.run pins s σ H _ I h) fun v s1 ⟨x, H1, I1, r1, ty, q1⟩ => ?_)
  obtain ⟨a, S, n, rfl, hka⟩ := ty
  have R := setO_get I1 hka
  cases r1
  have hS : s1.heap.SetOf (intKind X.prog X.w) a S n := R.setOf
  refine ⟨"set", "set.discard", PySem.F.plainAttrs_set, PySem.F.slot_set_discard, PySem.F.type_set_discard, hS.typeIs, hS.noDict, ?_⟩
  have hA := ha.run cpos pins s1 σ H1 _ I1 q1
  rw [hs] at hA ⊢
  refine Calls.callWith_builtin (by show (false || (backTo cpos (starEach es X.env)).any (·.1)) = false; rw [hplain] <;> rfl) (Calls.evalArgs_plain ?_)
  exact thn hA fun us s2 ⟨vs, H2, I2, r2, q2⟩ => mt_sdis pins s2 σ H2 (.ref a) vs (.ref a) us Q I2 rfl r2 q2
end
end SG
namespace SG
open PySem PySem.Spec PyProof.Rows L2
section
variable {X : Cx} {e : Expr} {te : TE}
/-- a bound of a slice that may be None -/
def tPartO (t : TE) : TO := fun σ H Q => t σ H fun x H1 => (x = .non ∧ Q none H1) ∨ ∃ i, x = .int i ∧ Q (some i) H1
theorem po_opt (h : PE X e te) : PO X (some e) (tPartO te) := by
  refine ⟨fun pins s σ H Q I hw => ?_⟩
  rw [evalPart_some]
  refine thn (h.run pins s σ H _ I hw) fun u s1 ⟨x, H1, I1, r1, q1⟩ => ?_
  rcases q1 with ⟨rfl, q⟩ | ⟨i, rfl, q⟩
  · obtain rfl : u = Value.none := r1
    exact ⟨none, H1, I1, .none, q⟩
  · obtain ⟨t, rfl⟩ := r1
    exact ⟨some i, H1, I1, .int i t, q⟩
/-- str(x), x a number or a text -/
def rStrIS : List V → Hp → VK → Prop := fun xs H Q => (∃ i, xs = [.int i] ∧ i.natAbs.log2 < 1920 ∧ Q (.str (toString i)) H) ∨ ∃ a, xs = [.str a] ∧ Q (.str a) H
theorem call_strIS : CallR X (.type "str") rStrIS := by
  intro pins s σ H xs us Q I r h
  rcases h with h | h
  · exact call_str_int pins s σ H xs us Q I r h
  · exact SkE.call_str_str pins s σ H xs us Q I r h
end
end SG
namespace SG
open PySem PySem.Spec PyProof.Rows L2
/-! ### data in a heap that grows -/
theorem same_sqT {K : PySem.W.Frag} {H H' : Hp} {a : Addr} {xs : List V} (e : Same H H') (h : SqT K H a xs) : SqT K H' a xs := Same.tup e h
theorem same_sqL {K : PySem.W.Frag} {H H' : Hp} {a : Addr} {xs : List V} (e : Same H H') (h : SqL K H a xs) : SqL K H' a xs := by
  rcases h with (h | ⟨o, h⟩) | h
  · exact .inl (.inl (e _ _ h))
  · exact .inl (.inr ⟨o, e _ _ h⟩)
  · exact .inr h
mutual
theorem Dp.same {K : PySem.W.Frag} {H H' : Hp} (e : Same H H') : ∀ {d : PyData} {v : V}, Dp K H v d → Dp K H' v d
  | _, _, .non => .non
  | _, _, .bl b => .bl b
  | _, _, .int i => .int i
  | _, _, .str x => .str x
  | _, _, .lst a b => .lst (same_sqL e a) (DpAll.same e b)
  | _, _, .tup a b => .tup (same_sqT e a) (DpAll.same e b)
theorem DpAll.same {K : PySem.W.Frag} {H H' : Hp} (e : Same H H') : ∀ {ds : List PyData} {vs : List V}, DpAll K H vs ds → DpAll K H' vs ds
  | _, _, .nil => .nil
  | _, _, .cons h t => .cons (Dp.same e h) (DpAll.same e t)
end
mutual
theorem Dp.plain {K : PySem.W.Frag} {H : Hp} : ∀ {d : PyData} {v : V}, Dp K H v d → d.plain = true
  | _, _, .non => rfl
  | _, _, .bl _ => rfl
  | _, _, .int _ => rfl
  | _, _, .str _ => rfl
  | _, _, .lst _ a => DpAll.plain a
  | _, _, .tup _ a => DpAll.plain a
theorem DpAll.plain {K : PySem.W.Frag} {H : Hp} : ∀ {ds : List PyData} {vs : List V}, DpAll K H vs ds → PyData.plainAll ds = true
  | _, _, .nil => rfl
  | _, _, .cons h t => by
    show (PyData.plain _ && PyData.plainAll _) = true
    rw [Dp.plain h, DpAll.plain t]; rfl
end
theorem DpAll.len {K : PySem.W.Frag} {H : Hp} : ∀ {ds : List PyData} {vs : List V}, DpAll K H vs ds → vs.length = ds.length
  | _, _, .nil => rfl
  | _, _, .cons _ t => by simp [DpAll.len t]
theorem DpAll.get {K : PySem.W.Frag} {H : Hp} : ∀ {ds : List PyData} {vs : List V}, DpAll K H vs ds → ∀ {i : Nat} {d : PyData}, ds[i]? = some d → ∃ v, vs[i]? = some v ∧ Dp K H v d
  | _, _, .nil, i, d, h => by simp at h
  | _, _, .cons a t, 0, d, h => by
    simp only [List.getElem?_cons_zero, Option.some.injEq] at h
    subst h
    exact ⟨_, rfl, a⟩
  | _, _, .cons a t, i + 1, d, h => by
    simp only [List.getElem?_cons_succ] at h
    obtain ⟨v, e, q⟩ := DpAll.get t h
    exact ⟨v, by simpa using e, q⟩
theorem dp_strs {K : PySem.W.Frag} {H : Hp} : ∀ ss : List Str, DpAll K H (ss.map V.str) (ss.map PyData.str)
  | [] => .nil
  | s :: ss => .cons (.str s) (dp_strs ss)
def bet (d : PyData) (lo hi : Int) : Bool := match d with | .int i => decide (lo ≤ i) && decide (i ≤ hi) | _ => false
def inL (ss : List Str) (d : PyData) : Bool := (ss.map PyData.str).any fun e => PyData.eqv e d
theorem eqv_str {a : Str} {d : PyData} (h : PyData.eqv (.str a) d = true) : d = .str a := by
  cases d <;> simp [PyData.eqv] at h
  · rw [h]
theorem inL_str {ss : List Str} {d : PyData} (h : inL ss d = true) : ∃ s, s ∈ ss ∧ d = .str s := by
  unfold inL at h
  rw [List.any_map, List.any_eq_true] at h
  obtain ⟨s, hs, e⟩ := h
  exact ⟨s, hs, eqv_str e⟩
theorem inL_of {ss : List Str} {s : Str} (h : s ∈ ss) : inL ss (.str s) = true := by
  unfold inL
  rw [List.any_map, List.any_eq_true]
  exact ⟨s, h, by simp [PyData.eqv]⟩
def rowN (n : Nat) : PyData → Bool
  | .tuple ds => decide (ds.length = n)
  | _ => false
theorem Dp.tupOf {K : PySem.W.Frag} {H : Hp} {x : V} {ds : List PyData} (h : Dp K H x (.tuple ds)) : ∃ a xs, x = .ref a ∧ SqT K H a xs ∧ DpAll K H xs ds := by
  cases h with
  | tup a b => exact ⟨_, _, rfl, a, b⟩
theorem inV_strs (s : Str) (ss : List Str) : inV (.str s) (ss.map V.str) = ss.any (· == s) := by
  unfold inV
  rw [List.any_map]
  rfl
theorem inL_strs (ss : List Str) (z : Str) : inL ss (.str z) = ss.any (· == z) := by
  unfold inL
  rw [List.any_map]
  induction ss with
  | nil => rfl
  | cons s r ih =>
    rw [List.any_cons, List.any_cons, ih]
    rfl
end SG
namespace SG
open PySem PySem.Spec PyProof.Rows L2
/-- a def with keyword-only parameters, called without them -/
structure ClD (P : Program) (w : World) (K : PySem.W.Frag) (mg : Str → Option Value) (base : Heap) (k : Nat) (x : Str) (dv : List V) (sp : Sp) : Prop where
  ex : ∃ (f : Addr) (fd : FuncData) (ps : List Str) (ds : List Value), FnOk P w K mg base CX0 k f fd ps sp ∧ mg x = some (.ref f) ∧ PySem.W.keepIn K (.ref f) = true ∧ Binds K fd ps ds ∧ Vals dv ds
/-- with them -/
structure ClK (P : Program) (w : World) (K : PySem.W.Frag) (mg : Str → Option Value) (base : Heap) (k : Nat) (x : Str) (n : Nat) (ks : List Str) (sp : Sp) : Prop where
  ex : ∃ (f : Addr) (fd : FuncData) (ps : List Str), FnOk P w K mg base CX0 k f fd ps sp ∧ mg x = some (.ref f) ∧ PySem.W.keepIn K (.ref f) = true ∧ KBn K fd ps n ks (fun us ws => us ++ ws) (fun vs zs => vs ++ zs)
structure DfK (K : PySem.W.Frag) (mg : Str → Option Value) (x : Str) (st : Stmt) (ps : List Str) (n : Nat) (ks : List Str) (dv : List V) : Prop where
  ex : ∃ (f : Addr) (fd : FuncData) (ds : List Value), Fun K x x st f fd ∧ mg x = some (.ref f) ∧ Binds K fd ps ds ∧ Vals dv ds ∧ KBn K fd ps n ks (fun us ws => us ++ ws) (fun vs zs => vs ++ zs)
theorem DfK.ok {P : Program} {w : World} {K : PySem.W.Frag} {mg : Str → Option Value} {base : Heap} {x : Str} {st : Stmt} {N ps ks : List Str} {n k : Nat} {dv : List V} {sp : Sp} (D : DfK K mg x st ps n ks dv) (S : FnScope N ps (defScope st)) (len : ∀ vs H Q E, sp vs H Q E → vs.length = ps.length)
    (hbody : ∀ (f : Addr) (cdv : Value) (A : Around) (outer : List Env) (s : Shared) (H : Hp) (vs : List V) (Q : VK) (E : XK), Room k (A.deeper (envOfC x (defScope st) s.heap.objs.size f cdv)) → sp vs H Q E →
      ∃ t, PSs (cxOf CX0 P w K mg base N x (defScope st) f cdv A outer s H E).nox (defBody st) t ∧ t { nx := fun _ H' => Q .non H', rt := Q } (start N vs) H) : ClK P w K mg base (k + 1) x n ks sp ∧ ClD P w K mg base (k + 1) x dv sp := by
  obtain ⟨f, fd, ds, F, m, b, vd, kb⟩ := D.ex
  have ok := F.ok S len (fun cdv A outer s H vs Q E hr h => hbody f cdv A outer s H vs Q E hr h)
  exact ⟨⟨f, fd, ps, ok, m, F.kp, kb⟩, ⟨f, fd, ps, ds, ok, m, F.kp, b, vd⟩⟩
theorem kbn_of {K : PySem.W.Frag} {fd : FuncData} {ps ks : List Str} {n : Nat} (h : ∀ us ws : List Value, us.length = n → ws.length = ks.length → bindArgs fd ⟨us, ks.zip ws⟩ = pure (ps.zip (us ++ ws))) : KBn K fd ps n ks (fun us ws => us ++ ws) (fun vs zs => vs ++ zs) :=
  ⟨fun s us ws _ l1 l2 => .of_eq (h us ws l1 l2), fun r1 r2 => r1.append r2⟩
section
variable {X : Cx} {k n : Nat} {x : Str} {sp : Sp} {e : Expr} {es : List Expr} {kws : List Keyword} {ks : List Str} {t tk : TA} {p pos : Pos} {dv : List V}
theorem pe_clD (c : ClD X.prog X.w X.K X.mg X.base k x dv sp) (hr : Room k X.A) (hg : Gl X x) (ha : PA X (e :: es) t)
    (hdb : (x == ("__debug__" : Str)) = false := by decide) (he : starEach (e :: es) X.env = (false, eval e X.env) :: starEach es X.env := by rfl) (hpl : (backTo pos (starEach es X.env)).any (·.1) = false := by rfl) :
    PE X (.Call (.Name x p) (e :: es) [] pos) (tCall sp dv E0 t) := by
  obtain ⟨f, fd, ps, ds, F, hm, kp, b, vd⟩ := c.ex
  exact pe_call F hr hg hm kp b vd pass0 ha hdb he hpl
theorem pe_clK (c : ClK X.prog X.w X.K X.mg X.base k x n ks sp) (hr : Room k X.A) (hg : Gl X x) (ha : PA X (e :: es) t) (hkw : PK X kws tk)
    (hall : (backToKw pos (keywordEach kws X.env)).all (·.1.isSome) = true := by rfl) (hks : (backToKw pos (keywordEach kws X.env)).filterMap (·.1) = ks := by rfl)
    (hdb : (x == ("__debug__" : Str)) = false := by decide) (he : starEach (e :: es) X.env = (false, eval e X.env) :: starEach es X.env := by rfl)
    (hpl : ((backTo pos (starEach (e :: es) X.env)).any (·.1) || (backToKw pos (keywordEach kws X.env)).any (·.1.isNone)) = false := by rfl) :
    PE X (.Call (.Name x p) (e :: es) kws pos) (tCallN n ks.length sp (fun vs zs => vs ++ zs) E0 t tk) := by
  obtain ⟨f, fd, ps, F, hm, kp, b⟩ := c.ex
  exact pe_callN F hr hg hm kp b pass0 ha hkw hall hks hdb he hpl
end
/-- a target of four names -/
theorem pg_four {X : Cx} {K : PySem.W.Frag} {i j l m k : Nat} {x y z u : Str} {p1 p2 p3 p4 pos : Pos} (hK : X.K = K) (hc : X.calm = true) (hN : X.N.Nodup) (hi : X.N[i]? = some x) (hj : X.N[j]? = some y) (hl : X.N[l]? = some z) (hm : X.N[m]? = some u)
    (hx : Loc X.env.scope x) (hy : Loc X.env.scope y) (hz : Loc X.env.scope z) (hu : Loc X.env.scope u)
    (fx : X.fn x = true ∨ X.env.scope.names.lookup x = some .local := by first | exact .inl rfl | exact .inr rfl) (fy : X.fn y = true ∨ X.env.scope.names.lookup y = some .local := by first | exact .inl rfl | exact .inr rfl)
    (fz : X.fn z = true ∨ X.env.scope.names.lookup z = some .local := by first | exact .inl rfl | exact .inr rfl) (fu : X.fn u = true ∨ X.env.scope.names.lookup u = some .local := by first | exact .inl rfl | exact .inr rfl) :
    PG X (.Tuple [.Name x p1, .Name y p2, .Name z p3, .Name u p4] k pos) (gTup K 4 (gCons (gName i) (gCons (gName j) (gCons (gName l) (gCons (gName m) gNil))))) := by
  subst hK
  exact pg_tup hc (pgs_cons (pg_name hN hi hx fx) (pgs_cons (pg_name hN hj hy fy) (pgs_cons (pg_name hN hl hz fz) (pgs_cons (pg_name hN hm hu fu) pgs_nil))))
section
variable {X : Cx}
theorem fin_bl' {pins : List (Addr × Obj)} {σ : L2.St} {H : Hp} {s : Shared} {Q : VK} {b : Bool} (I : L2.Inv X pins σ H s) (q : Q (.bl b) H) : EP X pins σ Q (.bool b) s := ⟨.bl b, H, I, rfl, q⟩
theorem hits_dp {A : Around} {s : Shared} {H : Hp} {pins : List (Addr × Obj)} {σ : L2.St} (I : L2.Inv X pins σ H s) (hu : A.units + 64 < cLine) {kvs : List (Key × V)} {vb : List (Key × Value)} (rb : KV kvs vb) {ks : List (Key × V)} {va : List (Key × Value)} (ra : KV ks va) :
    (∀ p ∈ ks, ∃ y d, valV kvs p.1 = some y ∧ Dp X.K H p.2 d ∧ Dp X.K H y d ∧ PyData.plain d = true ∧ PyData.depth d ≤ 64) → PySem.W.KeqHits A s vb va true := by
  unfold KV at ra
  induction ra with
  | nil => intro _; exact .nil
  | @cons p q ps qs h t ih =>
    intro hp
    obtain ⟨h1, h2⟩ := h
    obtain ⟨y, d, e, dp, dy, pl, dep⟩ := hp p List.mem_cons_self
    have rr : RelO (some y) (valueAt vb p.1) := by rw [← e]; exact rb.val p.1
    obtain ⟨y', hy, ry⟩ := rr.some_of
    obtain ⟨k, v⟩ := q
    have h1' : p.1 = k := h1
    rw [h1'] at hy
    obtain ⟨as, r1⟩ := Dp.reads I d _ _ dp h2
    obtain ⟨bs, r2⟩ := Dp.reads I d _ _ dy ry
    have eq := SeqAt.eqAt_plain d d A s v y' as bs r1 r2 pl pl (by omega)
    rw [SeqAt.eqv_refl_plain _ pl] at eq
    show PySem.W.KeqHits A s vb ((k, v) :: qs) (true && true)
    exact .hit hy eq (ih fun p' hm => hp p' (List.mem_cons_of_mem _ hm))
/-- != of dicts that are alike, their values data -/
def rNeDP (K : PySem.W.Frag) : R2 := fun x y H Q => ∃ a b ks ls, x = .ref a ∧ y = .ref b ∧ H a = some (.dK ks) ∧ H b = some (.dK ls) ∧ ks.length = ls.length ∧
  (∀ p ∈ ks, ∃ y d, valV ls p.1 = some y ∧ Dp K H p.2 d ∧ Dp K H y d ∧ PyData.plain d = true ∧ PyData.depth d ≤ 64) ∧ Q (.bl false) H
theorem op_neDP (hu : X.A.units + 70 < cLine) : OpR X (compareOp .NotEq) (rNeDP X.K) := by
  intro pins s σ H x y v u Q I rx ry h
  obtain ⟨a, b, ks, ls, rfl, rfl, ea, eb, hlen, hp, q⟩ := h
  obtain rfl : v = Value.ref a := rx
  obtain rfl : u = Value.ref b := ry
  obtain ⟨_, ya, va, ra, da⟩ := (show ObjOk X.prog X.w H s.heap a (.dK ks) from I.hok a _ ea)
  obtain ⟨_, yb, vb, rb, db⟩ := (show ObjOk X.prog X.w H s.heap b (.dK ls) from I.hok b _ eb)
  have hl : va.length = vb.length := by rw [← ra.length, ← rb.length]; exact hlen
  refine PySem.W.keq_ne (knd := mixKind X.prog X.w) (r := true) ya yb da db (by omega) (fun _ => hits_dp I (by first | (show X.A.units + 64 < cLine; omega) | (show X.A.units + 1 + 64 < cLine; omega)) rb ra hp) ?_
  have e : (!(va.length == vb.length && true)) = false := by simp [hl]
  rw [e]
  exact fin_bl' I q
/-- d.update(e) -/
def rUpd : V → List V → Hp → VK → Prop := fun x xs H Q => ∃ (a b : Addr) (ks ls : List (Key × V)), x = .ref a ∧ xs = [.ref b] ∧ a ≠ b ∧ H a = some (.dK ks) ∧ H b = some (.dK ls) ∧ ks.length + ls.length ≤ sizeLine ∧ Q .non (upd H a (.dK (mergeK ks ls)))
theorem mt_upd : MtR X "dict.update" rUpd := by
  intro pins s σ H x xs v us Q I rx rxs h
  obtain ⟨a, b, ks, ls, rfl, rfl, ne, ea, eb, z, q⟩ := h
  obtain rfl : v = Value.ref a := rx
  obtain ⟨u, rfl, ru⟩ := vals1 rxs
  obtain rfl : u = Value.ref b := ru
  obtain ⟨z1, ya, va, ra, da⟩ := (show ObjOk X.prog X.w H s.heap a (.dK ks) from I.hok a _ ea)
  obtain ⟨z2, yb, vb, rb, db⟩ := (show ObjOk X.prog X.w H s.heap b (.dK ls) from I.hok b _ eb)
  refine call_meetsIn PySem.F.slot_dict_update da.typeIs PySem.F.entry_dict_update (PySem.F.args_dict_update_2 _ _) (meets_dict_update (mixKind X.prog X.w) a b ne yb) ⟨va, vb, da, db, by rw [← ra.length, ← rb.length]; exact z, fun h' da' db' hs => ?_⟩
  have he : ∃ q, h'.get? a = some q := let ⟨q, _, _, hq, _⟩ := da'; ⟨q, hq⟩
  have hl : (mergeK ks ls).length ≤ sizeLine := Nat.le_trans (length_mergeK ls ks) z
  exact ⟨.non, upd H a (.dK (mergeK ks ls)), d_write I (by rw [ea]; exact True.intro) hs he (dk_new hl ya (KV.merge rb ra) da'), rfl, q⟩
end
end SG
/-! methods by their contracts -/
namespace SG
open PySem PySem.Spec PyProof.Rows L2
/-- a method as the top has left it -/
structure Dm (K : PySem.W.Frag) (mg : Str → Option Value) (C : Addr) (m qual : Str) (st : Stmt) (ps : List Str) : Prop where
  ex : ∃ (f : Addr) (fd : FuncData), Cls K C ∧ Meth K C m f ∧ Fun K m qual st f fd ∧ Binds K fd ps []
/-- a class as the top has left it, by its __init__ -/
structure Di (K : PySem.W.Frag) (mg : Str → Option Value) (x : Str) (C : Addr) (qual : Str) (st : Stmt) (ps : List Str) : Prop where
  ex : ∃ (f : Addr) (fd : FuncData), Mk K C f ∧ mg x = some (.ref C) ∧ Fun K "__init__" qual st f fd ∧ Binds K fd ps []
section
variable {P : Program} {w : World} {K : PySem.W.Frag} {mg : Str → Option Value} {base : Heap}
theorem Dm.ok {C : Addr} {m qual : Str} {st : Stmt} {N ps : List Str} {k : Nat} {sp : Sp} (D : Dm K mg C m qual st ps) (S : FnScope N ps (defScope st)) (len : ∀ vs H Q E, sp vs H Q E → vs.length = ps.length)
    (hbody : ∀ (f : Addr) (cdv : Value) (A : Around) (outer : List Env) (s : Shared) (H : Hp) (vs : List V) (Q : VK) (E : XK), Room k (A.deeper (envOfC qual (defScope st) s.heap.objs.size f cdv)) → sp vs H Q E →
      ∃ t, PSs (cxOf CX0 P w K mg base N qual (defScope st) f cdv A outer s H E).nox (defBody st) t ∧ t { nx := fun _ H' => Q .non H', rt := Q } (start N vs) H) : C8.Met P w K mg base (k + 1) C m sp [] := by
  obtain ⟨f, fd, c, me, F, b⟩ := D.ex
  exact ⟨f, fd, ps, [], c, me, F.ok S len (fun cdv A outer s H vs Q E hr h => hbody f cdv A outer s H vs Q E hr h), b, .nil⟩
theorem Dm.none {C : Addr} {m qual : Str} {st : Stmt} {ps : List Str} {sp : Sp} (D : Dm K mg C m qual st ps) (no : ∀ vs H Q E, ¬ sp vs H Q E) : C8.Met P w K mg base 0 C m sp [] := by
  obtain ⟨f, fd, c, me, F, b⟩ := D.ex
  exact ⟨f, fd, ps, [], c, me, ⟨fun vs H Q E h => absurd h (no vs H Q E), fun A outer s H args us vs Q E _ _ _ _ h => absurd h (no vs H Q E)⟩, b, .nil⟩
theorem Di.ok {C : Addr} {x qual : Str} {st : Stmt} {N ps : List Str} {k : Nat} {sp : Sp} (D : Di K mg x C qual st ps) (S : FnScope N ps (defScope st)) (len : ∀ vs H Q E, sp vs H Q E → vs.length = ps.length)
    (hbody : ∀ (f : Addr) (cdv : Value) (A : Around) (outer : List Env) (s : Shared) (H : Hp) (vs : List V) (Q : VK) (E : XK), Room k (A.deeper (envOfC qual (defScope st) s.heap.objs.size f cdv)) → sp vs H Q E →
      ∃ t, PSs (cxOf CX0 P w K mg base N qual (defScope st) f cdv A outer s H E).nox (defBody st) t ∧ t { nx := fun _ H' => Q .non H', rt := Q } (start N vs) H) : C8.Mak P w K mg base (k + 1) x C sp [] := by
  obtain ⟨f, fd, me, m, F, b⟩ := D.ex
  exact ⟨f, fd, ps, [], me, F.ok S len (fun cdv A outer s H vs Q E hr h => hbody f cdv A outer s H vs Q E hr h), m, b, .nil⟩
theorem met_imp {C : Addr} {m : Str} {k : Nat} {sp sp' : Sp} (c : C8.Met P w K mg base k C m sp []) (h : ∀ vs H Q E, sp' vs H Q E → sp vs H Q E) : C8.Met P w K mg base k C m sp' [] := by
  obtain ⟨f, fd, ps, ds, hc, hm, F, b, d⟩ := c.ex
  exact ⟨f, fd, ps, ds, hc, hm, F.imp h, b, d⟩
theorem met_mono {C : Addr} {m : Str} {j k : Nat} {sp : Sp} (c : C8.Met P w K mg base j C m sp []) (h : j ≤ k) : C8.Met P w K mg base k C m sp [] := by
  obtain ⟨f, fd, ps, ds, hc, hm, F, b, d⟩ := c.ex
  exact ⟨f, fd, ps, ds, hc, hm, F.mono h, b, d⟩
end
end SG
/-! slices by a step, texts some times -/
namespace SG
open PySem PySem.Spec PyProof.Rows L2
section
variable {X : Cx}
/-- a text some times -/
def timesS (a : Str) (n : Nat) : Str := ⟨(List.replicate n a.cps).foldl (· ++ ·) #[]⟩
theorem timesS_one (a : Str) : timesS a 1 = a := by
  unfold timesS
  show (⟨#[] ++ a.cps⟩ : Str) = a
  rw [Array.empty_append]
theorem fold_nil {α : Type} {z : Array α} (h : z = #[]) : ∀ (n : Nat), (List.replicate n z).foldl (· ++ ·) #[] = #[]
  | 0 => rfl
  | n + 1 => by
    subst h
    rw [List.replicate_succ, List.foldl_cons]
    show List.foldl _ (#[] ++ #[]) _ = _
    rw [Array.empty_append]
    exact fold_nil rfl n
theorem fold_size {α : Type} (z : Array α) : ∀ (n : Nat) (b : Array α), ((List.replicate n z).foldl (· ++ ·) b).size = b.size + n * z.size
  | 0, b => by simp
  | n + 1, b => by
    rw [List.replicate_succ, List.foldl_cons, fold_size z n, Array.size_append, Nat.succ_mul]
    omega
theorem timesS_nil {a : Str} (z : a.cps.size = 0) (n : Nat) : timesS a n = a := by
  have e : a.cps = #[] := Array.eq_empty_of_size_eq_zero z
  unfold timesS
  rw [fold_nil e n]
  cases a
  simp at e
  rw [e]
theorem timesS_len (a : Str) (n : Nat) : (timesS a n).length = n * a.length := by
  show ((List.replicate n a.cps).foldl (· ++ ·) #[]).size = _
  rw [fold_size]
  simp
  rfl
theorem timesS_size (a : Str) (n : Nat) (h3 : a.length ≤ 1000) (h2 : n ≤ 1000) : (timesS a n).length ≤ sizeLine := by
  rw [timesS_len]
  exact Nat.le_trans (Nat.mul_le_mul h2 h3) (by decide)
def rMulS : R2 := fun x y H Q => ∃ (a : Str) (n : Nat), x = .str a ∧ y = .int (n : Int) ∧ 1 ≤ n ∧ n ≤ 1000 ∧ a.length ≤ 1000 ∧ Q (.str (timesS a n)) H
theorem op_mulS : OpR X (binaryOp .Mult) rMulS := by
  intro pins s σ H x y v u Q I rx ry h
  obtain ⟨a, n, rfl, rfl, h1, h2, h3, q⟩ := h
  obtain ⟨t, rfl⟩ := rx
  obtain ⟨t', rfl⟩ := ry
  have n0 : ¬ (n : Int) < 1 := by omega
  have hs : a.length * n ≤ 1000000 := Nat.mul_le_mul h3 h2
  refine PySem.P.mul_str ?_ (fun _ _ => ?_) (fun _ _ => ?_) ?_
  · have a1 : ¬ (n : Int) < -(2 ^ 63 : Int) := by omega
    have a2 : ¬ (n : Int) ≥ 2 ^ 63 := by omega
    rw [decide_eq_false a1, decide_eq_false a2]
    rfl
  · have : (1000 : Int) ≤ (2 ^ 63 - 1) / (n : Int) := by
      rw [Int.le_ediv_iff_mul_le (by omega)]
      omega
    omega
  · rw [Int.toNat_natCast]
    exact decide_eq_false (by show ¬ _ > _; intro z; have := Nat.lt_of_lt_of_le z hs; revert this; decide)
  · rw [if_neg n0]
    by_cases e : ((n : Int) == 1 || a.length == 0) = true
    · rw [if_pos e]
      have et : timesS a n = a := by
        rcases Bool.or_eq_true _ _ |>.mp e with e | e
        · have : n = 1 := by have := eq_of_beq e; omega
          rw [this, timesS_one]
        · have z : a.cps.size = 0 := eq_of_beq e
          exact timesS_nil z n
      rw [et] at q
      exact ⟨.str a, H, I, ⟨t, rfl⟩, q⟩
    · rw [if_neg e, Int.toNat_natCast]
      exact ⟨timesS_size a n h3 h2, .str _, H, I.tok _, ⟨_, rfl⟩, q⟩
theorem _root_.L2.Vals.places {xs : List V} {us : List Value} (r : Vals xs us) : ∀ is : List Nat, ∃ ys : List V, Vals ys (is.filterMap (us[·]?)) ∧ ∀ y ∈ ys, y ∈ xs
  | [] => ⟨[], .nil, fun y h => nomatch h⟩
  | i :: is => by
    obtain ⟨ys, h1, h2⟩ := L2.Vals.places r is
    rw [List.filterMap_cons]
    cases e : xs[i]? with
    | none =>
      have e2 := r.none_of e
      rw [e2]
      exact ⟨ys, h1, h2⟩
    | some x =>
      obtain ⟨u, e2, rx⟩ := r.get e
      rw [e2]
      refine ⟨x :: ys, .cons rx h1, fun y hy => ?_⟩
      rcases List.mem_cons.mp hy with rfl | hy
      · exact List.mem_of_getElem? e
      · exact h2 y hy
def tStepL (K : PySem.W.Frag) (te : TE) (tl : TO) : TE := fun σ H Q => te σ H fun x H1 => tl σ H1 fun lo H2 => ∃ a xs, x = .ref a ∧ SqL K H2 a xs ∧ ∀ p ys, H2 p = none → (∀ y ∈ ys, y ∈ xs) → ys.length ≤ xs.length → Q (.ref p) (upd H2 p (.lst ys))
theorem pe_stepL {e : Expr} {te : TE} {lo : Option Expr} {tl : TO} {j : Nat} {k : Int} {p0 p2 pos : Pos} (he : PE X e te) (hl : PO X lo tl) (hk : some k ≠ some 0 := by decide) :
    PE X (.Subscript e (.Slice lo none (some (.Constant (.int k) j p0)) p2) pos) (tStepL X.K te tl) := by
  have hs : PO X (some (.Constant (.int k) j p0)) _ := po_some pe_int
  constructor
  intro pins s σ H Q I h
  refine Subscript_ (thn (he.run pins s σ H _ I h) ?_)
  rintro v s1 ⟨x, H1, I1, r1, q1⟩
  refine wpAny_Slice (thn (hl.run pins s1 σ H1 _ I1 q1) ?_)
  rintro vl s2 ⟨l, H2, I2, pl, a, xs, rfl, sq, q⟩
  obtain rfl : v = .ref a := r1
  rw [evalPart_none]
  refine wpAny_pure ?_
  refine thn (hs.run pins s2 σ H2 (fun o H3 => o = some k ∧ H3 = H2) I2 ?_) ?_
  · exact ⟨_, rfl, rfl, rfl⟩
  rintro vk s3 ⟨u, H3, I3, pu, rfl, rfl⟩
  have I4 : L2.Inv X pins σ H3 { s3 with heap := s3.heap.push { cls := .type "slice", data := .fields #[vl, .none, vk] } } := I3.kept (t' := s3.toks) fun b ob q => Heap.get?_push_of_some _ q
  obtain ⟨its, r, ht, hz⟩ := I4.list sq
  have many : its.toArray.size = xs.length := by rw [List.size_toArray]; exact r.length.symm
  refine tail_any (ops := [.ref a, .ref s3.heap.objs.size]) ht.isList.typeIs slot_list_getitem.lookup (wpAny_getItem_list_slice ht.isList (Heap.IsSliceOf.new ..) pl .none pu hk ?_ (by rw [many]; exact hz)) (by with_unfolding_all rfl)
  have small := slicePick_size_le its.toArray l none (some k)
  obtain ⟨ys, ry, hy⟩ := r.places (sliceRange (sliceBounds l none (some k) its.toArray.size).1 (sliceBounds l none (some k) its.toArray.size).2.1 (sliceBounds l none (some k) its.toArray.size).2.2)
  have e : slicePick its.toArray l none (some k) = ((sliceRange (sliceBounds l none (some k) its.toArray.size).1 (sliceBounds l none (some k) its.toArray.size).2.1 (sliceBounds l none (some k) its.toArray.size).2.2).filterMap (its[·]?)).toArray := by
    simp [slicePick]
  rw [e] at small ⊢
  have ly : ys.length ≤ xs.length := by
    rw [ry.length, ← many]
    simpa using small
  refine ⟨.ref _, _, I4.laid (t' := s3.toks) (o := .lst ys) (fun b ob q => Heap.get?_push_of_some _ q) (Nat.le_refl _) ?_, rfl, q _ ys (I4.hok.fresh (Nat.le_refl _)) hy ly⟩
  exact ⟨Nat.le_trans ly hz, _, 0, ry, Heap.get?_push_size _ rfl⟩
theorem pe_revFK {K : PySem.W.Frag} {e : Expr} {te : TE} {j : Nat} {p0 p1 p2 pos : Pos} (he : PE X e te) (hK : X.K = K := by rfl) : PE X (.Subscript e (.Slice none none (some (.UnaryOp .USub (.Constant (.int 1) j p0) p1)) p2) pos) (tRevF K te) := by
  subst hK
  exact pe_revF he
theorem pe_bm0K {K : PySem.W.Frag} {T name id : String} {r : V → List V → Hp → VK → Prop} {o : Expr} {to : TE} {apos cpos : Pos} (pa : PlainAttrs T) (slot : Slot T name id) (hty : typeOf (.builtin id) = pure (.type "method_descriptor")) (hm : MtR X id r) (ho : PE X o to) (hK : X.K = K := by rfl)
    (hbase : attributeBase o name X.env (eval o X.env) = eval o X.env := by rfl) (hline : (apos.endLine == cpos.line) = true := by rfl) : PE X (.Call (.Attribute o name apos) [] [] cpos) (tBM0 K T r to) := by
  subst hK
  exact pe_bm0 pa slot hty hm ho hbase hline
/-- a walk over a dict that is new: locked from there on -/
def iKeysZ (td : TE) : TI := fun σ H R => td σ H fun x H1 => ∃ d kvs, x = .ref d ∧ H1 d = some (.dK kvs) ∧ ∀ od, R (Itk d od kvs) (upd H1 d (.frz od (.dK kvs)))
theorem pi_keysZ {tg e : Expr} {td : TE} (he : PE X e td) : PI X tg e (iKeysZ td) := by
  refine ⟨fun pins s σ H R I h => ?_⟩
  refine thn (he.run pins s σ H _ I h) fun u s1 ⟨x, H1, I1, rx, d, kvs, ex, hd, q⟩ => ?_
  subst ex
  obtain rfl : u = Value.ref d := rx
  obtain ⟨od, I2⟩ := I1.lock hd trivial
  obtain ⟨hs, hgd, hx, es, ep, vs, hdt, hsz, kv, hm⟩ := I2.frzK upd_same
  refine iter_keys hs hgd hx hdt (pi_one (tk := s1.toks) I2 _ (turn_keys _ hdt) ⟨_, Heap.get?_push_size _ rfl, rfl, ?_⟩ (q od))
  rw [hsz] <;> rfl
end
end SG
namespace SG
open PySem PySem.Spec PyProof.Rows L2
/-! ### isinstance with a tuple of classes over data -/
def tyD : PyData → String
  | .none => "NoneType"
  | .bool _ => "bool"
  | .int _ => "int"
  | .str _ => "str"
  | .list _ => "list"
  | .tuple _ => "tuple"
  | .dict _ => "dict"
theorem tyx_dp {K : PySem.W.Frag} {H : Hp} {x : V} {d : PyData} (h : Dp K H x d) : TyX K H x (.type (tyD d)) := by
  cases h with
  | non => exact .base .non
  | bl b => exact .base (.bl b)
  | int i => exact .base (.int i)
  | str z => exact .base (.str z)
  | lst h _ =>
    rcases h with (h | ⟨o, h⟩) | h
    · exact .base (.lst h)
    · exact .base (.frz h)
    · obtain ⟨o, its, n, e, c, _⟩ := h
      exact .kList e c
  | tup h _ =>
    rcases h with (h | ⟨o, h⟩) | h
    · exact .base (.tup h)
    · exact .fTuple h
    · obtain ⟨o, its, n, e, c, _⟩ := h
      exact .kTuple e c
theorem kit_two {K : PySem.W.Frag} {t a b : String} {r1 r2 : Bool} (h1 : kitB t a = some r1) (h2 : kitB t b = some r2) : PySem.W.kitAny K (.type t) [.type a, .type b] = some (r1 || r2) :=
  kitAny_cons (b := r1) (kit_ty h1) (fun e => kitAny_cons (b := r2) (kit_ty h2) (fun e2 => by rw [e, e2]; exact kitAny_nil) (fun e2 => by rw [e2]; simp)) (fun e => by rw [e]; rfl)
/-- isinstance(x, (tuple, list)) -/
theorem kit_tl (K : PySem.W.Frag) : ∀ d : PyData, PySem.W.kitAny K (.type (tyD d)) [.type "tuple", .type "list"] = some (PyData.isTuple d || PyData.isList d)
  | .none => kit_two (t := "NoneType") (r1 := false) (r2 := false) (by decide +kernel) (by decide +kernel)
  | .bool _ => kit_two (t := "bool") (r1 := false) (r2 := false) (by decide +kernel) (by decide +kernel)
  | .int _ => kit_two (t := "int") (r1 := false) (r2 := false) (by decide +kernel) (by decide +kernel)
  | .str _ => kit_two (t := "str") (r1 := false) (r2 := false) (by decide +kernel) (by decide +kernel)
  | .list _ => kit_two (t := "list") (r1 := false) (r2 := true) (by decide +kernel) (by decide +kernel)
  | .tuple _ => kit_two (t := "tuple") (r1 := true) (r2 := false) (by decide +kernel) (by decide +kernel)
  | .dict _ => kit_two (t := "dict") (r1 := false) (r2 := false) (by decide +kernel) (by decide +kernel)
/-- isinstance(x, (bool, int)) -/
theorem kit_bi (K : PySem.W.Frag) : ∀ d : PyData, PySem.W.kitAny K (.type (tyD d)) [.type "bool", .type "int"] = some (PyData.isBool d || PyData.isInt d)
  | .none => kit_two (t := "NoneType") (r1 := false) (r2 := false) (by decide +kernel) (by decide +kernel)
  | .bool _ => kit_two (t := "bool") (r1 := true) (r2 := true) (by decide +kernel) (by decide +kernel)
  | .int _ => kit_two (t := "int") (r1 := false) (r2 := true) (by decide +kernel) (by decide +kernel)
  | .str _ => kit_two (t := "str") (r1 := false) (r2 := false) (by decide +kernel) (by decide +kernel)
  | .list _ => kit_two (t := "list") (r1 := false) (r2 := false) (by decide +kernel) (by decide +kernel)
  | .tuple _ => kit_two (t := "tuple") (r1 := false) (r2 := false) (by decide +kernel) (by decide +kernel)
  | .dict _ => kit_two (t := "dict") (r1 := false) (r2 := false) (by decide +kernel) (by decide +kernel)
theorem isT_tl {K : PySem.W.Frag} {H : Hp} {x : V} {d : PyData} {tp : Addr} {Q : VK} (h : Dp K H x d) (ht : H tp = some (.tup [.ty "tuple", .ty "list"])) (q : Q (.bl (PyData.isTuple d || PyData.isList d)) H) : rIsiT K [x, .ref tp] H Q :=
  ⟨x, tp, _, _, _, _, rfl, ht, .cons (.ty _) (.cons (.ty _) .nil), tyx_dp h, kit_tl K d, q⟩
theorem isT_bi {K : PySem.W.Frag} {H : Hp} {x : V} {d : PyData} {tp : Addr} {Q : VK} (h : Dp K H x d) (ht : H tp = some (.tup [.ty "bool", .ty "int"])) (q : Q (.bl (PyData.isBool d || PyData.isInt d)) H) : rIsiT K [x, .ref tp] H Q :=
  ⟨x, tp, _, _, _, _, rfl, ht, .cons (.ty _) (.cons (.ty _) .nil), tyx_dp h, kit_bi K d, q⟩
section
variable {X : Cx}
theorem call_isList : CallR X (.builtin "isinstance") (rIsD X.K "list" PyData.isList) := by
  intro pins s σ H xs us Q I r h
  obtain ⟨x, d, rfl, D, q⟩ := h
  obtain ⟨u, c, rfl, rv, rc⟩ := vals2 r
  obtain rfl : c = Value.type "list" := rc
  obtain ⟨as, rd⟩ := Dp.reads I _ _ _ D rv
  exact PySem.W.isinstance_list_data rd fun tk _ => ⟨.bl _, H, I.tok tk, rfl, q⟩
end
end SG
/-! sum of lists -/
namespace SG
open PySem PySem.Spec PyProof.Rows L2
theorem args_sum2 (a b : Value) : argsOk "sum" ⟨[a, b], []⟩ := by unfold argsOk; kernel_rfl
theorem sub_l_str : isSubtype (.type "list") (.type "str") = pure false := by rw [isSubtype_type]; kernel_rfl
theorem sub_l_bytes : isSubtype (.type "list") (.type "bytes") = pure false := by rw [isSubtype_type]; kernel_rfl
theorem sub_l_barr : isSubtype (.type "list") (.type "bytearray") = pure false := by rw [isSubtype_type]; kernel_rfl
section
variable {prog : Program} {w : World} {A : Around} {R : Result → Shared → Prop}
theorem codeAny_sum_lists (hh : A.in1.handled = none) (I l S : Addr) (its : Array Value) (hne : l ≠ I) (hSI : S ≠ I) (hSl : S ≠ l) :
    ∀ (rest : List (Addr × List Value)) (i : Nat) (s : Shared) (c n : Nat) (st : Int) (T : Addr) (acc : List Value), st = 2 → i + rest.length = its.size →
      (∀ j p, rest[j]? = some p → its[i + j]? = some (.ref p.1) ∧ (∃ m, IsL s.heap p.1 p.2.toArray m) ∧ p.1 ≠ I ∧ p.1 ≠ S) →
      s.heap.IsListIter I l i → s.heap.IsList l its → s.heap.get? S = some { cls := .type "list", dict := none, data := .seq #[.ref T] c, slots := #[] } → IsL s.heap T acc.toArray n → T ≠ I → T ≠ S →
      acc.length + (rest.map (·.2)).flatten.length ≤ sizeLine →
      (∀ (h' : Heap) tk T', (∀ b o, b ≠ I → b ≠ S → s.heap.get? b = some o → h'.get? b = some o) → (∃ n', IsL h' T' (acc ++ (rest.map (·.2)).flatten).toArray n') → (rest = [] → T' = T) → (rest ≠ [] → s.heap.objs.size ≤ T') → R (.ok (.ret (.ref T'))) { s with heap := h', toks := tk }) →
      codeAny (model prog w) A (.builtin "sum.loop" ⟨[.ref I, .ref S, rawInt st, rawInt 0], []⟩) R s := by
  intro rest
  induction rest with
  | nil =>
    intro i s c n st T acc e2 hi hr hit hl hS hT hTI hTS hz hR
    subst e2
    refine codeAny_builtin F.entry_sum_loop ?_
    rw [Around.under_plainId F.plain_sum_loop _]
    show wpAny _ A.in1 (seqItems? (.ref S) >>= _) _ _ s
    refine wpAny_bind (wpAny_seqItems hS rfl ?_)
    show wpAny _ A.in1 (tryCatch (pyNext (.ref I)) _ >>= _) _ _ s
    refine wpAny_bind (wpAny_tryCatch (wpAny_pyNext_list_end hh hit hl (by simp at hi; simp; omega) fun h' he' => ?_))
    refine wpAny_pure (hR h' s.toks T (fun b o hb _ e => he' b o hb e) ?_ (fun _ => rfl) fun z => absurd rfl z)
    exact ⟨n, by simpa using he' _ _ hTI hT⟩
  | cons p rest ih =>
    intro i s c n st T acc e2 hi hr hit hl hS hT hTI hTS hz hR
    subst e2
    obtain ⟨p1, ys⟩ := p
    obtain ⟨hp, ⟨m, hm⟩, hpI, hpS⟩ := hr 0 _ rfl
    have hlt : i < its.size := by rw [List.length_cons] at hi; omega
    refine codeAny_builtin F.entry_sum_loop ?_
    rw [Around.under_plainId F.plain_sum_loop _]
    show wpAny _ A.in1 (seqItems? (.ref S) >>= _) _ _ s
    refine wpAny_bind (wpAny_seqItems hS rfl ?_)
    show wpAny _ A.in1 (tryCatch (pyNext (.ref I)) _ >>= _) _ _ s
    refine wpAny_bind (wpAny_tryCatch (wpAny_pyNext_list_item hit hl (x := .ref p1) (by simpa using hp) fun h' hit' hs' => ?_))
    have k1 : ∀ b o, b ≠ I → s.heap.get? b = some o → h'.get? b = some o := fun b o hb e => hs'.extBut b o hb e
    have hS' := k1 S _ hSI hS
    have hT' := k1 T _ hTI hT
    have hm' := k1 p1 _ hpI hm
    have fl : ((((p1, ys) :: rest).map (·.2)).flatten).length = ys.length + ((rest.map (·.2)).flatten).length := by simp
    rw [fl] at hz
    have hz1 : acc.length + ys.length ≤ sizeLine := by omega
    show wpAny _ A.in1 ((holding [Value.ref p1] (binaryOp .Add (.ref T) (.ref p1))).attempt >>= _) _ _ _
    refine wpAny_bind (wpAny_attempt (wpAny_holding (PySem.P.add_list hT' hm' ?_ (by rw [List.size_toArray, List.size_toArray]; exact hz1))))
    have ea : acc.toArray ++ ys.toArray = (acc ++ ys).toArray := by simp
    rw [ea]
    have hN : IsL (h'.push { cls := .type "list", data := .seq (acc ++ ys).toArray }) h'.objs.size (acc ++ ys).toArray 0 := IsL.new _ _
    have k2 : ∀ b o, h'.get? b = some o → (h'.push { cls := .type "list", data := .seq (acc ++ ys).toArray }).get? b = some o := fun b o e => Heap.get?_push_of_some _ e
    have hS2 := k2 _ _ hS'
    have sz : s.heap.objs.size ≤ h'.objs.size := Nat.le_of_eq hs'.1.symm
    have nI : h'.objs.size ≠ I := fun z => by obtain ⟨o, e, _⟩ := hit'; rw [← z] at e; exact absurd (Heap.lt_size e) (Nat.lt_irrefl _)
    have nS : h'.objs.size ≠ S := fun z => by rw [← z] at hS'; exact absurd (Heap.lt_size hS') (Nat.lt_irrefl _)
    show wpAny _ A.in1 (updateSeq S (fun _ => #[Value.ref h'.objs.size]) >>= _) _ _ _
    refine wpAny_bind (wpAny_updateSeq hS2 rfl ?_)
    have hS3 := Heap.get?_update_self (Obj.mapSeq fun _ => #[Value.ref h'.objs.size]) hS2 rfl
    refine wpAny_bind (wpAny_letGo ?_)
    refine wpAny_bind (wpAny_updateSeq hS3 rfl (wpAny_pure ⟨plainId_quiet F.plain_sum_loop _, ?_⟩))
    have kk : ∀ b o, b ≠ S → h'.get? b = some o → (((h'.push { cls := .type "list", data := .seq (acc ++ ys).toArray }).update S (Obj.mapSeq fun _ => #[Value.ref h'.objs.size])).update S (Obj.mapSeq fun _ => #[Value.ref h'.objs.size])).get? b = some o := fun b o hb e =>
      (Heap.get?_update_other _ _ (fun h : S = b => hb h.symm)).trans ((Heap.get?_update_other _ _ (fun h : S = b => hb h.symm)).trans (k2 b o e))
    have hN2 := (hN.update_other (fun z : S = _ => nS z.symm) (Obj.mapSeq fun _ => #[Value.ref h'.objs.size])).update_other (fun z : S = _ => nS z.symm) (Obj.mapSeq fun _ => #[Value.ref h'.objs.size])
    refine ih (i + 1) _ _ 0 2 h'.objs.size (acc ++ ys) rfl (by rw [List.length_cons] at hi; omega) ?_ (hit'.at fun o e => kk _ _ hSI.symm e) ((hl.at fun o e => kk _ _ hSl.symm (k1 _ _ hne e))) (Heap.get?_update_self _ hS3 rfl) hN2 nI nS (by rw [List.length_append]; omega) ?_
    · intro j p hp'
      obtain ⟨q1, ⟨m', q2⟩, q3, q4⟩ := hr (j + 1) p (by simpa using hp')
      exact ⟨by rw [show i + 1 + j = i + (j + 1) by omega]; exact q1, ⟨m', kk _ _ q4 (k1 _ _ q3 q2)⟩, q3, q4⟩
    · intro h'' tk T' kp hT'' e0 e1
      refine hR h'' tk T' (fun b o h1 h2 e => kp b o h1 h2 (kk b o h2 (k1 b o h1 e))) ?_ (fun z => nomatch z) fun _ => ?_
      · simpa [List.append_assoc] using hT''
      · by_cases er : rest = []
        · rw [e0 er]; exact sz
        · refine Nat.le_trans sz (Nat.le_trans ?_ (e1 er))
          rw [Heap.size_update, Heap.size_update, Heap.size_push]
          exact Nat.le_succ _
theorem call_sum_lists {l b : Addr} {its : Array Value} {n : Nat} {E : Value → Shared → Prop} {s : Shared} {Q : Value → Shared → Prop} (hh : A.handled = none) (hl : s.heap.IsList l its) (hb : IsL s.heap b #[] n) (rest : List (Addr × List Value)) (hlen : rest.length = its.size)
    (hr : ∀ (j : Nat) (p : Addr × List Value), rest[j]? = some p → its[j]? = some (Value.ref p.1) ∧ ∃ m, IsL s.heap p.1 p.2.toArray m) (hne : rest ≠ []) (hz : (rest.map (·.2)).flatten.length ≤ sizeLine)
    (hq : ∀ (h' : Heap) tk T, (∀ b o, s.heap.get? b = some o → h'.get? b = some o) → (∃ n', IsL h' T (rest.map (·.2)).flatten.toArray n') → s.heap.objs.size ≤ T → Q (.ref T) { s with heap := h', toks := tk }) :
    wpAny (model prog w) A (call (.builtin "sum") [.ref l, .ref b]) Q E s := by
  refine call_function_tree F.kind_sum F.plain_sum F.entry_sum (args_sum2 _ _) ?_
  unfold Builtin.«sum»
  simp only [List.length_cons, List.length_nil]
  rw [if_neg (by decide)]
  refine wpAny_bind (wpAny_of_eq (show Builtin.Builtins.bindParams "sum" ["start"] 0 ⟨[Value.ref b], []⟩ = pure [some (.ref b)] from rfl) ?_)
  refine wpAny_bind (wpAny_pyIter_list hl ?_)
  refine wpAny_bind (wpAny_pure ?_)
  simp only [List.forIn_cons, List.forIn_nil]
  have hb2 : IsL (s.heap.push { cls := .type "list_iterator", data := .fields #[.ref l, .int 0 0] }) b #[] n := hb.push _
  refine wpAny_bind (wpAny_bind (wpAny_bind (wpAny_isInstance (T := "list") (b := false) hb2.isList.typeIs sub_l_str ?_)))
  simp only [Bool.false_eq_true, if_false]
  refine wpAny_pure (wpAny_bind (wpAny_bind (wpAny_isInstance (T := "list") (b := false) hb2.isList.typeIs sub_l_bytes ?_)))
  simp only [Bool.false_eq_true, if_false]
  refine wpAny_pure (wpAny_bind (wpAny_bind (wpAny_isInstance (T := "list") (b := false) hb2.isList.typeIs sub_l_barr ?_)))
  simp only [Bool.false_eq_true, if_false]
  refine wpAny_pure (wpAny_pure ?_)
  refine wpAny_bind (wpAny_newObj_type ?_)
  have e1 : (s.heap.push { cls := .type "list_iterator", data := .fields #[.ref l, .int 0 0] }).objs.size = s.heap.objs.size + 1 := Heap.size_push ..
  have ll : l < s.heap.objs.size := by obtain ⟨o, ho, _⟩ := hl; exact Heap.lt_size ho
  have lb : b < s.heap.objs.size := Heap.lt_size hb
  refine wpAny_pure ⟨plainId_quiet F.plain_sum_loop _, codeAny_sum_lists (A := A) hh s.heap.objs.size l _ its (Nat.ne_of_lt ll) ?_ ?_ rest 0 _ 0 n 2 b [] rfl (by omega) ?_ ?_ ?_ (Heap.get?_push_size _ rfl) ?_ (Nat.ne_of_lt lb) ?_ (by simpa using hz) ?_⟩
  · show (s.heap.push _).objs.size ≠ _
    rw [e1]; exact Nat.succ_ne_self _
  · show (s.heap.push _).objs.size ≠ _
    rw [e1]; exact Nat.ne_of_gt (Nat.lt_succ_of_lt ll)
  · intro j p hp
    obtain ⟨q1, m, q2⟩ := hr j p hp
    refine ⟨by rw [Nat.zero_add]; exact q1, ⟨m, ?_⟩, Nat.ne_of_lt (Heap.lt_size q2), ?_⟩
    · exact Heap.get?_push_of_some _ (Heap.get?_push_of_some _ q2)
    · show p.1 ≠ (s.heap.push _).objs.size
      rw [e1]
      exact Nat.ne_of_lt (Nat.lt_succ_of_lt (Heap.lt_size q2))
  · exact ⟨_, Heap.get?_push_of_some _ (Heap.get?_push_size _ rfl), rfl, rfl⟩
  · exact (hl.push _).push _
  · exact Heap.get?_push_of_some _ (Heap.get?_push_of_some _ hb)
  · show b ≠ (s.heap.push _).objs.size
    rw [e1]; exact Nat.ne_of_lt (Nat.lt_succ_of_lt lb)
  · intro h' tk T' kp hT e0 e1'
    refine hq h' tk T' (fun c o e => ?_) (by simpa using hT) ?_
    · have := Heap.lt_size e
      exact kp c o (Nat.ne_of_lt this) (by show c ≠ (s.heap.push _).objs.size; rw [e1]; exact Nat.ne_of_lt (Nat.lt_succ_of_lt this)) (Heap.get?_push_of_some _ (Heap.get?_push_of_some _ e))
    · have := e1' hne
      simp only [Heap.size_push] at this
      exact Nat.le_trans (Nat.le_succ _) (Nat.le_trans (Nat.le_succ _) this)
end
/-- sum of lists, begun with an empty one -/
def rSumL (K : PySem.W.Frag) : List V → Hp → VK → Prop := fun xs H Q => ∃ (a b : Addr) (ps : List Addr) (yss : List (List V)), xs = [.ref a, .ref b] ∧ SqL K H a (ps.map V.ref) ∧ H b = some (.lst []) ∧ ps.length = yss.length ∧ ps ≠ [] ∧
  (∀ (j : Nat) (p : Addr) (ys : List V), ps[j]? = some p → yss[j]? = some ys → H p = some (.lst ys)) ∧ yss.flatten.length ≤ sizeLine ∧ ∀ p, H p = none → Q (.ref p) (upd H p (.lst yss.flatten))
theorem vals_flat {X : Cx} {pins : List (Addr × Obj)} {σ : L2.St} {H : Hp} {s : Shared} (I : L2.Inv X pins σ H s) : ∀ (ps : List Addr) (yss : List (List V)), ps.length = yss.length → (∀ (j : Nat) (p : Addr) (ys : List V), ps[j]? = some p → yss[j]? = some ys → H p = some (.lst ys)) →
    ∃ rest : List (Addr × List Value), rest.length = ps.length ∧ (∀ (j : Nat) (p : Addr × List Value), rest[j]? = some p → ps[j]? = some p.1 ∧ ∃ m, IsL s.heap p.1 p.2.toArray m) ∧ Vals yss.flatten (rest.map (·.2)).flatten
  | [], [], _, _ => ⟨[], rfl, fun j p h => by simp at h, .nil⟩
  | [], _ :: _, h, _ => by simp at h
  | _ :: _, [], h, _ => by simp at h
  | p :: ps, ys :: yss, h, hp => by
    obtain ⟨rest, r1, r2, r3⟩ := vals_flat I ps yss (by simpa using h) fun j q zs h1 h2 => hp (j + 1) q zs (by simpa using h1) (by simpa using h2)
    obtain ⟨z, its, n, r, hl, e⟩ := I.lstM (hp 0 p ys rfl rfl)
    refine ⟨(p, its) :: rest, by simp [r1], ?_, ?_⟩
    · intro j q hq
      cases j with
      | zero => obtain rfl : (p, its) = q := by simpa using hq
                exact ⟨rfl, n, e⟩
      | succ j => obtain ⟨a1, a2⟩ := r2 j q (by simpa using hq)
                  exact ⟨by simpa using a1, a2⟩
    · rw [List.flatten_cons, List.map_cons, List.flatten_cons]
      exact r.append r3
theorem vals_refs : ∀ {ps : List Addr} {us : List Value}, Vals (ps.map V.ref) us → us = ps.map Value.ref
  | [], _, .nil => rfl
  | p :: ps, _, .cons a b => by
    rw [List.map_cons, vals_refs b]
    obtain rfl := a
    rfl
theorem call_sumL {X : Cx} (hh : X.calm = true := by rfl) : CallR X (.builtin "sum") (rSumL X.K) := by
  intro pins s σ H xs us Q I r h
  obtain ⟨a, b, ps, yss, rfl, ha, hb, hl, hne, hp, hz, q⟩ := h
  obtain ⟨u, c, rfl, ru, rc⟩ := vals2 r
  obtain rfl : u = Value.ref a := ru
  obtain rfl : c = Value.ref b := rc
  obtain ⟨its, rv, pl, zl⟩ := I.list ha
  obtain ⟨zb, itb, n, rb, lb, eb⟩ := I.lstM hb
  cases rb
  obtain rfl := vals_refs rv
  obtain ⟨rest, r1, r2, r3⟩ := vals_flat I ps yss hl hp
  refine call_sum_lists (I.ok.hd hh) pl.isList eb rest (by rw [List.size_toArray, List.length_map, r1]) ?_ ?_ ?_ ?_
  · intro j p hp'
    obtain ⟨a1, a2⟩ := r2 j p hp'
    refine ⟨?_, a2⟩
    simp [a1]
  · rintro rfl
    cases ps with
    | nil => exact hne rfl
    | cons => simp at r1
  · rw [← r3.length]; exact hz
  · intro h' tk T k ⟨n', hT⟩ hs
    exact ⟨.ref T, _, I.laid (o := .lst yss.flatten) (t' := tk) k hs ⟨hz, _, n', r3, hT⟩, rfl, q T (I.hok.fresh hs)⟩
/-- sep.join within a comprehension -/
def rJoin (K : PySem.W.Frag) : V → List V → Hp → VK → Prop := fun x xs H Q => ∃ a p, ∃ ys : List Str, x = .str a ∧ xs = [.ref p] ∧ (SqL K H p (ys.map V.str) ∨ SqT K H p (ys.map V.str)) ∧ (ys.map (·.length)).sum + ys.length * a.length ≤ 16777216 ∧ Q (.str (Txt.join a ys)) H
theorem pe_joinK {X : Cx} {K : PySem.W.Frag} {o e : Expr} {to te : TE} {apos pos : Pos} (ho : PE X o to) (he : PE X e te) (hK : X.K = K := by rfl) (hs : starEach [e] X.env = [(false, eval e X.env)] := by rfl) (hbase : attributeBase o "join" X.env (eval o X.env) = eval o X.env := by rfl) (hline : (apos.endLine == pos.line) = true := by rfl) :
    PE X (.Call (.Attribute o "join" apos) [e] [] pos) (tM1 (rJoin K) to te) := by
  subst hK
  exact pe_join ho he hs hbase hline
/-- a text not at all, or once -/
def rMul01 : R2 := fun x y H Q => ∃ (a : Str) (k : Int), x = .str a ∧ y = .int k ∧ (k = 0 ∨ k = 1) ∧ (k = 0 → Q (.str Str.empty) H) ∧ (k = 1 → Q (.str a) H)
theorem op_mul01 {X : Cx} : OpR X (binaryOp .Mult) rMul01 := by
  intro pins s σ H x y v u Q I rx ry h
  obtain ⟨a, k, rfl, rfl, hk, q0, q1⟩ := h
  obtain ⟨t, rfl⟩ := rx
  obtain ⟨t', rfl⟩ := ry
  rcases hk with rfl | rfl
  · exact PySem.P.mul_str_none (by decide) (by decide) ⟨.str _, H, I.tok _, ⟨_, rfl⟩, q0 rfl⟩
  · refine PySem.P.mul_str (by decide) (fun _ e => by cases e) (fun _ e => by cases e) ?_
    rw [if_neg (by decide), if_pos (by rfl)]
    exact ⟨.str a, H, I, ⟨t, rfl⟩, q1 rfl⟩
end SG
/-! a caught exception that is kept behind its suite -/
namespace SG
open PySem PySem.Spec PyProof.Rows L2
/-- at q stands an exception of the class cls, its own dict at d -/
def ExT (q : Addr) (cls : Value) (d : Option Addr) : HO := .ext fun g => ∃ (ob : Obj) (fv : Array Value), g.get? q = some ob ∧ Zc cls d ob ∧ ob.data = .fields fv
section
variable {X : Cx} {pins : List (Addr × Obj)} {σ : L2.St} {H : Hp} {s : Shared} {q : Addr} {ob : Obj} {fv : Array Value} {cls : Value} {d : Option Addr}
theorem exT_ok {P : Program} {w : World} {G : Hp} {g : Heap} (e : g.get? q = some ob) (z : Zc cls d ob) (f : ob.data = .fields fv) : ObjOk P w G g q (ExT q cls d) :=
  ⟨⟨ob, fv, e, z, f⟩, ⟨ob, e⟩, fun _ _ ⟨ob2, fv2, e2, r⟩ up => ⟨ob2, fv2, up ob2 e2, r⟩⟩
/-- a new object that nobody tracks is tracked from here on -/
theorem inv_track (J : L2.Inv X pins σ H s) (e : s.heap.get? q = some ob) (z : Zc cls d ob) (f : ob.data = .fields fv) (born : X.s_0.heap.get? q = none) (free : H q = none) (nl : q ≠ X.env.locals) (np : ∀ p ∈ X.pn ++ pins, p.1 ≠ q) :
    L2.Inv X pins σ (upd H q (ExT q cls d)) s where
  ok := J.ok
  os := J.os
  bare := J.bare
  base :=
    { keep := J.base.keep, slot := J.base.slot, there := J.base.there
      free := fun b o e0 n0 x0 => by
        rw [upd_ne (fun y => by rw [y, born] at e0; cases e0)]
        exact J.base.free b o e0 n0 x0
      tups := fun b xs e0 => by
        have y := J.base.tups b xs e0
        rw [upd_ne (ne_of_none y free)]; exact y
      frzs := fun b o u e0 => by
        have y := J.base.frzs b o u e0
        rw [upd_ne (ne_of_none y free)]; exact y
      tbls := fun b ps e0 => by
        obtain ⟨m, y⟩ := J.base.tbls b ps e0
        exact ⟨m, by rw [upd_ne (ne_of_none y free)]; exact y⟩ }
  loc := J.loc
  cell := J.cell
  free := by rw [upd_ne nl.symm]; exact J.free
  freeC := fun x c ec => by
    rw [upd_ne (fun y => by
      obtain ⟨v, o, e1, e2⟩ := J.cell x c ec
      rw [y, e] at e1
      cases e1
      rw [f] at e2; cases e2)]
    exact J.freeC x c ec
  pin := fun p hp => by
    obtain ⟨p1, p2, p3⟩ := J.pin p hp
    exact ⟨p1, by rw [upd_ne (np p hp)]; exact p2, p3⟩
  hok := fun b u eb => by
    by_cases y : b = q
    · subst y
      rw [upd_same] at eb
      cases eb
      exact exT_ok e z f
    · rw [upd_ne y] at eb
      exact (J.hok b u eb).stay (fun _ _ _ w => w) (fun c w => by rw [upd_ne (ne_of_none w free)]; exact w) fun c xs w => by rw [upd_ne (ne_of_none w free)]; exact w
  len := J.len
end
/-- the wish of a clause 'except x as n' whose exception is kept -/
def wKeep (K : PySem.W.Frag) (c : Value) (i : Nat) (ts : Addr → Value → Option Addr → TS) (D : Ends) : WX := fun cls d σ H =>
  PySem.W.exmOne K cls c = some true ∧ ∀ q, H q = none → ts q cls d { nx := fun σ' H' => D.nx (σ'.set i none) (upd H' q (ExT q cls d)), rt := fun _ _ => False, bk := fun _ _ => False, ct := fun _ _ => False } (σ.set i (some (.ref q))) H
section
variable {X : Cx} {x n : Str} {c : Value} {i : Nat} {body suite : List Stmt} {st0 : Stmt} {np ps pt : Pos} {tb : WX → TS} {ts : Addr → Value → Option Addr → TS}
theorem ps_try_keep (hs : X.stack = X.env :: X.outer) (hf : X.env.frame = some X.env.locals) (hex : X.ex = []) (hN : X.N.Nodup) (hi : X.N[i]? = some n) (hln : X.env.kindOf n = some .local) (hc : Names X x c)
    (hb : ∀ (W : WX) (pn : List (Addr × Obj)) (xe : Value → Shared → Prop), Takes (X.tr pn xe) W → PassesOwn (model X.prog X.w) X.A X.env xe → PSs (X.tr pn xe) body (tb W))
    (hsu : ∀ (q : Addr) (ob : Obj) (cls : Value) (d : Option Addr) (pn : List (Addr × Obj)), PSs (X.suite q ((q, ob) :: pn)) (st0 :: suite) (ts q cls d)) :
    PS X (.Try body [.ExceptHandler (some (.Name x np)) (some n) (st0 :: suite) ps] [] [] pt) (fun D σ H => tb (wKeep X.K c i ts D) D σ H) := by
  constructor
  intro pins s σ H D I h
  have frm : X.A.frames = some (X.env :: X.outer) := I.ok.frames.trans (by rw [hs])
  apply wpAny_Try_except
  have run := (hb (wKeep X.K c i ts D) (X.pn ++ pins) (fun u t1 => wpAny (model X.prog X.w) X.A (noteFrame u X.env) (fun _ t2 => wpAny (model X.prog X.w) X.A (setFlight u none) (fun _ t3 =>
    wpAny (model X.prog X.w) X.A (handleBy u X.env [.ExceptHandler (some (.Name x np)) (some n) (st0 :: suite) ps]) (SP X pins D) X.xe t3) X.xe t2) X.xe t1) ?_ PassesOwn.looking).run [] s σ H D (I.toTry _) h
  · refine wpAny_mono run (fun fl t1 y => ?_) fun _ _ y => y
    cases fl with
    | next =>
      obtain ⟨σ1, H1, J, w⟩ := y
      exact wpAny_execs_nil ⟨σ1, H1, J.ofTry I.ok, w⟩
    | brk =>
      obtain ⟨σ1, H1, J, w⟩ := y
      exact ⟨σ1, H1, J.ofTry I.ok, w⟩
    | cont =>
      obtain ⟨σ1, H1, J, w⟩ := y
      exact ⟨σ1, H1, J.ofTry I.ok, w⟩
    | ret u =>
      obtain ⟨v, σ1, H1, J, r, w⟩ := y
      exact ⟨v, σ1, H1, J.ofTry I.ok, r, w⟩
  rintro u t1 ⟨q, B, sB, pp, σ1, H1, cls, d, rfl, J0, into, upS, sky, free, eos, bare, hx, go⟩
  have J : L2.Inv X pins σ1 H1 sB := J0.ofTry I.ok
  have sky2 : Sky B (X.env :: X.outer) q (Zc cls d) X.env.locals t1.heap := hs ▸ sky
  refine Sky.land Zc.steady frm hf sky2 fun h2 fly up2 => ?_
  have J2 := J.landed (s' := { t1 with heap := h2 }) into fly.1 (upS.trans up2) eos bare
  have offF : ∀ {g : Heap} {ob : Obj} {fv : Array Value}, g.FunFrames B (X.env :: X.outer) → g.get? q = some ob → ob.data = .fields fv → q ∉ frs (X.env :: X.outer) := by
    intro g ob fv ff e1 e2 m
    obtain ⟨_, o2, e3, no⟩ := ff.mem m
    rw [e1] at e3
    cases e3
    exact no _ e2
  obtain ⟨ob2, fv2, g2, z2, f2⟩ := fly.there
  have off := offF fly.2.2.1 g2 f2
  have nl : q ≠ X.env.locals := fun y => off (List.mem_filterMap.mpr ⟨X.env, List.mem_cons_self, by rw [hf, y]⟩)
  have nf : q ∉ X.fs := fun m => by
    obtain ⟨en, m1, m2⟩ := List.mem_filterMap.mp m
    exact off (List.mem_filterMap.mpr ⟨en, List.mem_cons_of_mem _ m1, m2⟩)
  have notB : B.get? q = none := fly.2.1
  have offS : ∀ {b : Addr}, b ∈ frs X.stack → b = X.env.locals ∨ b ∈ X.fs := fun m => List.mem_cons.mp (J.stkSub _ m)
  have born : X.s_0.heap.get? q = none := by
    cases e0 : X.s_0.heap.get? q with
    | none => rfl
    | some o0 =>
      obtain ⟨o1, e1⟩ := J.base.there q o0 e0 (by rw [hex]; exact fun y => nomatch y)
      have y := into q o1 e1 (fun m => (offS m).elim nl nf)
      rw [notB] at y; cases y
  have npin : ∀ p ∈ X.pn ++ pins, p.1 ≠ q := fun p hp y => by
    obtain ⟨p1, _, p3, p4, _⟩ := J.pin p hp
    have w := into p.1 p.2 p1 (fun m => (offS m).elim p3 p4)
    rw [y, notB] at w; cases w
  have S2 := J2.suite g2 f2 free nl nf
  apply wpAny_handleBy_cons (codeAny_handlers_test ?_) (by intro y; cases y)
  have seen : PySem.W.Looks (model X.prog X.w) h2 (typeOf (.ref q)) cls := fun A Q E t k y => wpAny_typeOf_ref (k _ _ g2) (by rw [z2.1]; exact y)
  have asks := PySem.W.exm_one (M := model X.prog X.w) J2.kIn seen hx
  have named : ∀ {Q : Value → Shared → Prop} {E : Value → Shared → Prop}, Q c { t1 with heap := h2 } → wpAny (model X.prog X.w) (X.A.mark (some (.ref q))) (eval (.Name x np) X.env) Q E { t1 with heap := h2 } := by
    intro Q E y
    obtain ⟨gl, db, m | ⟨m, bt, ne⟩⟩ := hc
    · exact ld_glob (X := X.suite q ((q, ob2) :: (X.pn ++ pins))) S2 gl m y db
    · exact ld_blt (X := X.suite q ((q, ob2) :: (X.pn ++ pins))) S2 gl m bt y ne db
  refine named (asks.here (codeAny_handlers_suite_as (HandSPX.lands_againZ fly fun h3 fly3 up3 => ?_)))
  have J3 := J.landed (s' := { t1 with heap := h3 }) into fly3.1 ((upS.trans up2).trans up3) eos bare
  obtain ⟨ob3, fv3, g3, z3, f3⟩ := fly3.there
  have S3 := J3.suite g3 f3 free nl nf
  refine store_ok (X := X.suite q ((q, ob3) :: (X.pn ++ pins))) (v := .ref q) S3 hN hi (.inl hln) rfl (fun t5 S5 => ?_) (.inr hln)
  refine wpAny_mono ((hsu q ob3 cls d (X.pn ++ pins)).run [] t5 _ H1 _ S5 (go q free)) (fun fl t6 y => ?_) fun _ _ y => y.elim
  cases fl with
  | next =>
    obtain ⟨σ6, H6, S6, w⟩ := y
    obtain ⟨e6, free6, _⟩ := S6.pin (q, ob3) (List.mem_append_left _ List.mem_cons_self)
    have J6 : L2.Inv X pins σ6 H6 t6 := S6.unsuite I.ok
    have T6 := inv_track J6 e6 z3 f3 born free6 nl npin
    exact gone_ok T6 hN hi hln fun t7 J7 => ⟨_, _, J7, w⟩
  | brk => obtain ⟨_, _, _, w⟩ := y; exact w.elim
  | cont => obtain ⟨_, _, _, w⟩ := y; exact w.elim
  | ret u => obtain ⟨_, _, _, _, _, w⟩ := y; exact w.elim
end
end SG
/-! defs that raise; an own exception class over ValueError with one field; a kept exception's field and class -/
namespace SG
open PySem PySem.Spec PyProof.Rows L2
/-- a def that may raise, by its contract -/
structure ClX (P : Program) (w : World) (K : PySem.W.Frag) (mg : Str → Option Value) (base : Heap) (k : Nat) (x : Str) (sp : Sp) : Prop where
  ex : ∃ (f : Addr) (fd : FuncData) (ps : List Str), FnOk P w K mg base (L2.CX P w) k f fd ps sp ∧ mg x = some (.ref f) ∧ PySem.W.keepIn K (.ref f) = true ∧ Binds K fd ps []
/-- the same, its address told -/
structure ClXA (P : Program) (w : World) (K : PySem.W.Frag) (mg : Str → Option Value) (base : Heap) (k : Nat) (f : Addr) (sp : Sp) : Prop where
  ex : ∃ (fd : FuncData) (ps : List Str), FnOk P w K mg base (L2.CX P w) k f fd ps sp ∧ PySem.W.keepIn K (.ref f) = true ∧ Binds K fd ps []
/-- an own class of exceptions, its one field fld -/
structure ExK (K : PySem.W.Frag) (mg : Str → Option Value) (x fld : Str) (C : Addr) : Prop where
  oex : OexC K C
  mgC : mg x = some (.ref C)
  nofld : PySem.W.findIn K (.ref C) fld = some none
  xf : XfC K C
  exc : ExcC K C
  cls : (PySem.W.clsIn K C).isSome = true
  exm : PySem.W.exmOne K (.ref C) (.ref C) = some true
/-- .. and its __init__ as the top has left it -/
structure DfE (K : PySem.W.Frag) (C : Addr) (qual : Str) (st : Stmt) (ps : List Str) : Prop where
  ex : ∃ (f : Addr) (fd : FuncData), PySem.W.findIn K (.ref C) "__init__" = some (some (.ref f)) ∧ PySem.W.typeIn K (.ref f) = some (.type "function") ∧ Fun K "__init__" qual st f fd ∧ Binds K fd ps []
def spEInit (C : Addr) (fld : Str) : Sp := fun vs H Q _ => ∃ (a : Addr) (v : V), vs = [.ref a, v] ∧ H a = some (exo a C none) ∧ ∀ d, H d = none → d ≠ a → Q .non (upd (upd H d (exd d [(fld, v)])) a (exo a C (some d)))
structure MkE (P : Program) (w : World) (K : PySem.W.Frag) (mg : Str → Option Value) (base : Heap) (k : Nat) (x fld : Str) (C : Addr) : Prop where
  cls : ExK K mg x fld C
  ex : ∃ (f : Addr) (fd : FuncData) (ps : List Str), PySem.W.findIn K (.ref C) "__init__" = some (some (.ref f)) ∧ PySem.W.typeIn K (.ref f) = some (.type "function") ∧ FnOk P w K mg base CX0 k f fd ps (spEInit C fld) ∧ Binds K fd ps []
section
variable {P : Program} {w : World} {K : PySem.W.Frag} {mg : Str → Option Value} {base : Heap}
theorem DfE.ok {C : Addr} {x fld qual : Str} {st : Stmt} {N ps : List Str} {k : Nat} (D : DfE K C qual st ps) (T : ExK K mg x fld C) (S : FnScope N ps (defScope st)) (len : ps.length = 2)
    (hbody : ∀ (f : Addr) (cdv : Value) (A : Around) (outer : List Env) (s : Shared) (H : Hp) (vs : List V) (Q : VK) (E : XK), Room k (A.deeper (envOfC qual (defScope st) s.heap.objs.size f cdv)) → spEInit C fld vs H Q E →
      ∃ t, PSs (cxOf CX0 P w K mg base N qual (defScope st) f cdv A outer s H E).nox (defBody st) t ∧ t { nx := fun _ H' => Q .non H', rt := Q } (start N vs) H) : MkE P w K mg base (k + 1) x fld C := by
  obtain ⟨f, fd, h1, h2, F, b⟩ := D.ex
  exact ⟨T, f, fd, ps, h1, h2, F.ok S (fun vs H Q E h => by obtain ⟨_, _, rfl, _⟩ := h; exact len.symm) (fun cdv A outer s H vs Q E hr h => hbody f cdv A outer s H vs Q E hr h), b⟩
theorem Df.okX {x : Str} {st : Stmt} {N ps : List Str} {k : Nat} {sp : Sp} (D : Df K mg x st ps) (S : FnScope N ps (defScope st)) (len : ∀ vs H Q E, sp vs H Q E → vs.length = ps.length)
    (hbody : ∀ (f : Addr) (cdv : Value) (A : Around) (outer : List Env) (s : Shared) (H : Hp) (vs : List V) (Q : VK) (E : XK), Room k (A.deeper (envOfC x (defScope st) s.heap.objs.size f cdv)) → sp vs H Q E →
      ∃ t, PSs (cxOf (L2.CX P w) P w K mg base N x (defScope st) f cdv A outer s H E) (defBody st) t ∧ t { nx := fun _ H' => Q .non H', rt := Q } (start N vs) H) : ClX P w K mg base (k + 1) x sp := by
  obtain ⟨f, fd, F, m, b⟩ := D.ex
  exact ⟨f, fd, ps, F.okX S len (fun cdv A outer s H vs Q E hr h => hbody f cdv A outer s H vs Q E hr h), m, F.kp, b⟩
theorem ClX.at_ {k : Nat} {x : Str} {sp : Sp} (c : ClX P w K mg base k x sp) : ∃ f, mg x = some (.ref f) ∧ ClXA P w K mg base k f sp := by
  obtain ⟨f, fd, ps, F, m, kp, b⟩ := c.ex
  exact ⟨f, m, fd, ps, F, kp, b⟩
theorem MkE.mono {j k : Nat} {x fld : Str} {C : Addr} (c : MkE P w K mg base j x fld C) (h : j ≤ k) : MkE P w K mg base k x fld C := by
  obtain ⟨t, f, fd, ps, a, b, F, d⟩ := c
  exact ⟨t, f, fd, ps, a, b, F.mono h, d⟩
end
/-- what the making of such an exception asks, answered -/
theorem mkE {C : Addr} {fld : Str} {v : V} {H1 : Hp} {Q : XK} (q : ∀ d, H1 d = none → Q (.ref C) (some d) (upd H1 d (.xd [(fld, v)]))) : [v].length ≤ 1000 ∧ ∀ a, H1 a = none → spEInit C fld (.ref a :: ([v] ++ [])) (upd H1 a (exo a C none))
    (fun u H2 => u = .non ∧ ∃ (d : Addr) (fs : List (Str × V)), H2 a = some (exo a C (some d)) ∧ H2 d = some (exd d fs) ∧ H1 d = none ∧ Q (.ref C) (some d) (upd (del H2 a) d (.xd fs))) (fun _ _ _ => False) := by
  refine ⟨(by show 1 ≤ 1000; decide), fun a ha => ⟨a, v, rfl, upd_same, fun d hd da => ⟨rfl, d, _, upd_same, by rw [upd_ne da]; exact upd_same, by rw [upd_ne da] at hd; exact hd, ?_⟩⟩⟩
  have hd1 : H1 d = none := by rw [upd_ne da] at hd; exact hd
  have e : upd (del (upd (upd (upd H1 a (exo a C none)) d (exd d [(fld, v)])) a (exo a C (some d))) a) d (.xd [(fld, v)]) = upd H1 d (.xd [(fld, v)]) := by
    funext b
    by_cases h1 : b = d
    · rw [h1, upd_same, upd_same]
    · rw [upd_ne h1, upd_ne h1]
      by_cases h2 : b = a
      · rw [h2, del_same, ha]
      · rw [del_ne h2, upd_ne h2, upd_ne h1, upd_ne h2]
  rw [e]
  exact q d hd1
/-- the field of a kept exception -/
def tXat (C : Addr) (f : Str) (te : TE) : TE := fun σ H Q => te σ H fun x H1 => ∃ (q d : Addr) (fs : List (Str × V)) (v : V), x = .ref q ∧ H1 q = some (ExT q (.ref C) (some d)) ∧ H1 d = some (.xd fs) ∧ fs.lookup f = some v ∧ Q v H1
/-- isinstance(e, T), e a kept exception -/
def rIsX (K : PySem.W.Frag) (C : Addr) : List V → Hp → VK → Prop := fun xs H Q => ∃ (q d : Addr) (fs : List (Str × V)) (T : String) (b : Bool), xs = [.ref q, .ty T] ∧ H q = some (ExT q (.ref C) (some d)) ∧ H d = some (.xd fs) ∧ PySem.W.kitOne K (.ref C) (.type T) = some b ∧ Q (.bl b) H
/-- a call by a name of the def's own that holds a def -/
def tCallV (i : Nat) (f : Addr) (sp : Sp) (E : L2.St → XK) (t : TA) : TE := fun σ H Q => σ[i]? = some (some (.ref f)) ∧ t σ H fun vs H1 => sp vs H1 Q (E σ)
section
variable {X : Cx} {k i : Nat} {x fld : Str} {C f : Addr} {sp : Sp} {W : WX} {e : Expr} {es : List Expr} {te : TE} {ta : TA} {p pos : Pos}
theorem pmk_E (M : MkE X.prog X.w X.K X.mg X.base k x fld C) (hr : Room (k + 1) X.A) (hg : Gl X x) (ha : PA X (e :: es) ta) (hdb : (x == ("__debug__" : Str)) = false := by decide) (he : starEach (e :: es) X.env = (false, eval e X.env) :: starEach es X.env := by rfl)
    (hpl : (backTo pos (starEach es X.env)).any (·.1) = false := by rfl) : PMk X (.Call (.Name x p) (e :: es) [] pos) (tMkO C (spEInit C fld) [] ta) := by
  obtain ⟨T, fI, fd, ps, h1, h2, F, b⟩ := M
  exact pmk_oex T.oex h1 h2 F hr b .nil (fun _ _ _ _ _ _ _ z => z.elim) hg T.mgC ha hdb he hpl
theorem pe_clX (c : ClX X.prog X.w X.K X.mg X.base k x sp) (tk : Takes X W) (hr : Room k X.A) (hg : Gl X x) (ha : PA X (e :: es) ta) (hdb : (x == ("__debug__" : Str)) = false := by decide) (he : starEach (e :: es) X.env = (false, eval e X.env) :: starEach es X.env := by rfl)
    (hpl : (backTo pos (starEach es X.env)).any (·.1) = false := by rfl) : PE X (.Call (.Name x p) (e :: es) [] pos) (tCallS sp (WE W) ta) := by
  obtain ⟨f, fd, ps, F, hm, kp, b⟩ := c.ex
  exact pe_callS F hr hg hm kp b (fun σ => passAt tk σ) ha hdb he hpl
theorem pe_callV (c : ClXA X.prog X.w X.K X.mg X.base k f sp) (tk : Takes X W) (hr : Room k X.A) (hN : X.N[i]? = some x) (hv : Vis X.env.scope x) (ha : PA X (e :: es) ta) (hdb : (x == ("__debug__" : Str)) = false := by decide) (hcd : (x == ("__classdict__" : Str)) = false := by decide)
    (he : starEach (e :: es) X.env = (false, eval e X.env) :: starEach es X.env := by rfl) (hpl : (backTo pos (starEach es X.env)).any (·.1) = false := by rfl) : PE X (.Call (.Name x p) (e :: es) [] pos) (tCallV i f sp (WE W) ta) := by
  obtain ⟨fd, ps, F, kp, b⟩ := c.ex
  constructor
  rintro pins s σ H Q I ⟨h1, h2⟩
  have var := (pe_var (pos := p) hN hv hdb hcd).run pins s σ H (fun v G => v = .ref f ∧ G = H) I ⟨.ref f, h1, rfl, rfl⟩
  refine wpAny_Call_Name_kw (thn var ?_)
  rintro u s1 ⟨v, G, J, r, rfl, rfl⟩
  cases r
  refine PySem.W.callWith_K (h₀ := X.base) I.ok.mod.kin kp (thn (ha.run pos pins s1 σ _ _ J h2) ?_) he hpl
  rintro us s2 ⟨vs, H2, J2, rv, w⟩
  exact ⟨J2.kIn, run_fnS F hr b (passAt tk σ) J2 rv w⟩
theorem exT_at {pins : List (Addr × Obj)} {σ : L2.St} {H : Hp} {s : Shared} {q d : Addr} {fs : List (Str × V)} (J : L2.Inv X pins σ H s) (hq : H q = some (ExT q (.ref C) (some d))) (hd : H d = some (.xd fs)) :
    ∃ (ob od : Obj) (mA : Str → Option Value), PySem.W.InstAt s.heap q ob C (some od) ∧ (∀ n, PySem.W.lookIn n od = some (mA n)) ∧ ∀ n, RelO (fs.lookup n) (mA n) := by
  have hx : ObjOk X.prog X.w H s.heap q (.ext fun g => ∃ (ob : Obj) (fv : Array Value), g.get? q = some ob ∧ Zc (.ref C) (some d) ob ∧ ob.data = .fields fv) := J.hok q _ hq
  obtain ⟨⟨ob, fv, e1, z, f1⟩, _, _⟩ := hx
  have hy : ObjOk X.prog X.w H s.heap d (.xd fs) := J.hok d _ hd
  obtain ⟨mA, hns, rel⟩ := hy
  obtain ⟨od, ho, hl⟩ := lookIn_ns hns
  exact ⟨ob, od, mA, ⟨e1, z.1, by unfold PySem.W.notCls; rw [f1] <;> rfl, by rw [z.2]; exact ho⟩, hl, rel⟩
theorem pe_xat {n : Str} (T : XfC X.K C) (no : PySem.W.findIn X.K (.ref C) n = some none) (he : PE X e te) (hb : attributeBase e n X.env (eval e X.env) = eval e X.env := by rfl) : PE X (.Attribute e n pos) (tXat C n te) := by
  constructor
  intro pins s σ H Q I h
  refine attr_of hb (thn (he.run pins s σ H _ I h) ?_)
  rintro u s1 ⟨x, H1, J, rx, q, d, fs, v, rfl, hq, hd, l, w⟩
  obtain rfl : u = Value.ref q := rx
  obtain ⟨ob, od, mA, inst, hl, rel⟩ := exT_at J hq hd
  obtain ⟨u2, hu, ru⟩ := RelO.some_of (v := v) (o := mA n) (by rw [← l]; exact rel n)
  exact HandSPX.exc_get J.kIn inst T.ga T.gg T.exC (PySem.W.findObj_own T.hdC no rfl (by rw [hl, hu])) (handed_of ru) ⟨v, H1, J.tok _, ru, w⟩
theorem call_isX (T : ExcC X.K C) (hc : (PySem.W.clsIn X.K C).isSome = true) : CallR X (.builtin "isinstance") (rIsX X.K C) := by
  intro pins s σ H xs us Q I r h
  obtain ⟨q, d, fs, cn, b, rfl, hq, hd, ko, w⟩ := h
  obtain ⟨u, c, rfl, ru, rc⟩ := vals2 r
  obtain rfl : u = Value.ref q := ru
  obtain rfl : c = Value.type cn := rc
  obtain ⟨ob, od, mA, inst, _, _⟩ := exT_at I hq hd
  exact PySem.W.kia_one (PySem.W.kitx_exc hc T.hg T.hk T.hs T.ha T.hn T.ht T.hm) I.kIn inst ko (fun z => nomatch z) fun tk => ⟨.bl b, H, I.tok tk, rfl, w⟩
end
end SG
namespace SG
open PySem PySem.Spec PyProof.Rows L2
def top (i : Nat) : Stmt := PySem.Challenge.pw_strokeguess_k10_touches_as_texts.main.body.getD i (.Pass ⟨0, 0, 0, 0⟩)

structure Txt (K : PySem.W.Frag) (mg : Str → Option Value) : Prop where
  m_ValueError : mg "ValueError" = none
  m_all : mg "all" = none
  m_bool : mg "bool" = none
  m_enumerate : mg "enumerate" = none
  m_int : mg "int" = none
  m_isinstance : mg "isinstance" = none
  m_len : mg "len" = none
  m_range : mg "range" = none
  m_str : mg "str" = none
  m_tuple : mg "tuple" = none
  mFARTHESTx : ∃ t, mg "FARTHEST" = some (.int 10000 t)
  mLAST_MOMENTx : ∃ t, mg "LAST_MOMENT" = some (.int 1000000000 t)
  mLAST_FINGERx : ∃ t, mg "LAST_FINGER" = some (.int 9 t)
  mFIGURESx : ∃ t, mg "FIGURES" = some (.str "0123456789" t)
  mMOST_FIGURESx : ∃ t, mg "MOST_FIGURES" = some (.int 10 t)
  mTOUCH_WORDSx : ∃ a, mg "TOUCH_WORDS" = some (.ref a) ∧ ∀ H : Hp, SqT K H a [.str "down", .str "move", .str "up", .str "lost"]
abbrev s__init__ : Stmt := inClass (top 1) 0
abbrev N__init__ : List Str := ["self", "row"]
theorem sc__init__ : FnScope N__init__ ["self", "row"] (defScope s__init__) := ⟨rfl, rfl, rfl, by decide +kernel, rfl, by decide +kernel, by decide +kernel⟩

abbrev sis_between : Stmt := top 4
abbrev Nis_between : List Str := ["thing", "least", "most"]
theorem scis_between : FnScope Nis_between ["thing", "least", "most"] (defScope sis_between) := ⟨rfl, rfl, rfl, by decide +kernel, rfl, by decide +kernel, by decide +kernel⟩

abbrev sis_coordinate : Stmt := top 5
abbrev Nis_coordinate : List Str := ["thing"]
theorem scis_coordinate : FnScope Nis_coordinate ["thing"] (defScope sis_coordinate) := ⟨rfl, rfl, rfl, by decide +kernel, rfl, by decide +kernel, by decide +kernel⟩

abbrev sis_row : Stmt := top 6
abbrev Nis_row : List Str := ["thing", "many"]
theorem scis_row : FnScope Nis_row ["thing", "many"] (defScope sis_row) := ⟨rfl, rfl, rfl, by decide +kernel, rfl, by decide +kernel, by decide +kernel⟩

abbrev sis_moment : Stmt := top 11
abbrev Nis_moment : List Str := ["thing"]
theorem scis_moment : FnScope Nis_moment ["thing"] (defScope sis_moment) := ⟨rfl, rfl, rfl, by decide +kernel, rfl, by decide +kernel, by decide +kernel⟩

abbrev sis_touch : Stmt := top 12
abbrev Nis_touch : List Str := ["thing", "moment", "finger", "word", "x", "y"]
theorem scis_touch : FnScope Nis_touch ["thing"] (defScope sis_touch) := ⟨rfl, rfl, rfl, by decide +kernel, rfl, by decide +kernel, by decide +kernel⟩

abbrev srows_of : Stmt := top 16
abbrev Nrows_of : List Str := ["text"]
theorem scrows_of : FnScope Nrows_of ["text"] (defScope srows_of) := ⟨rfl, rfl, rfl, by decide +kernel, rfl, by decide +kernel, by decide +kernel⟩

abbrev srow_of : Stmt := top 17
abbrev Nrow_of : List Str := ["fields", "field"]
theorem scrow_of : FnScope Nrow_of ["fields"] (defScope srow_of) := ⟨rfl, rfl, rfl, by decide +kernel, rfl, by decide +kernel, by decide +kernel⟩

abbrev sfields_of : Stmt := top 18
abbrev Nfields_of : List Str := ["row", "field"]
theorem scfields_of : FnScope Nfields_of ["row"] (defScope sfields_of) := ⟨rfl, rfl, rfl, by decide +kernel, rfl, by decide +kernel, by decide +kernel⟩

abbrev stouch_of : Stmt := top 19
abbrev Ntouch_of : List Str := ["row", "touch"]
theorem sctouch_of : FnScope Ntouch_of ["row"] (defScope stouch_of) := ⟨rfl, rfl, rfl, by decide +kernel, rfl, by decide +kernel, by decide +kernel⟩

abbrev s_is_number : Stmt := top 20
abbrev N_is_number : List Str := ["field", "figures", "sign"]
theorem sc_is_number : FnScope N_is_number ["field"] (defScope s_is_number) := ⟨rfl, rfl, rfl, by decide +kernel, rfl, by decide +kernel, by decide +kernel⟩

abbrev sshow_touches : Stmt := top 22
abbrev Nshow_touches : List Str := ["touches", "touch"]
theorem scshow_touches : FnScope Nshow_touches ["touches"] (defScope sshow_touches) := ⟨rfl, rfl, rfl, by decide +kernel, rfl, by decide +kernel, by decide +kernel⟩

abbrev sread_touches : Stmt := top 23
abbrev Nread_touches : List Str := ["text", "touches", "at", "row", "touch"]
theorem scread_touches : FnScope Nread_touches ["text"] (defScope sread_touches) := ⟨rfl, rfl, rfl, by decide +kernel, rfl, by decide +kernel, by decide +kernel⟩

abbrev s_law_tape : Stmt := top 25
abbrev N_law_tape : List Str := ["_law_script"]
theorem sc_law_tape : FnScope N_law_tape ["_law_script"] (defScope s_law_tape) := ⟨rfl, rfl, rfl, by decide +kernel, rfl, by decide +kernel, by decide +kernel⟩

abbrev s_law_draw : Stmt := top 26
abbrev N_law_draw : List Str := ["_law_tape_here", "_law_many", "_law_found", "_law_spot", "_law_cells", "_law_cell", "_law_great", "_law_primes", "_law_prime", "_law_seed"]
theorem sc_law_draw : FnScope N_law_draw ["_law_tape_here", "_law_many"] (defScope s_law_draw) := ⟨rfl, rfl, rfl, by decide +kernel, rfl, by decide +kernel, by decide +kernel⟩

abbrev s_law_touches : Stmt := top 27
abbrev N_law_touches : List Str := ["_law_tape_here", "_law_many", "_law_wide", "_law_down", "_law_moment", "_law_found", "_law_places", "_law_k", "_law_finger", "_law_word", "_law_near", "_law_step", "_law_x", "_law_y", "_law_one"]
theorem sc_law_touches : FnScope N_law_touches ["_law_tape_here", "_law_many", "_law_wide"] (defScope s_law_touches) := ⟨rfl, rfl, rfl, by decide +kernel, rfl, by decide +kernel, by decide +kernel⟩

abbrev s_law_number : Stmt := top 28
abbrev N_law_number : List Str := ["_law_word", "_law_least", "_law_most", "_law_figures", "_law_sign"]
theorem sc_law_number : FnScope N_law_number ["_law_word", "_law_least", "_law_most"] (defScope s_law_number) := ⟨rfl, rfl, rfl, by decide +kernel, rfl, by decide +kernel, by decide +kernel⟩

abbrev s_law_touch_in : Stmt := top 29
abbrev N_law_touch_in : List Str := ["_law_row", "_law_words", "_law_numbers"]
theorem sc_law_touch_in : FnScope N_law_touch_in ["_law_row"] (defScope s_law_touch_in) := ⟨rfl, rfl, rfl, by decide +kernel, rfl, by decide +kernel, by decide +kernel⟩

abbrev s_law_bent_text : Stmt := top 30
abbrev N_law_bent_text : List Str := ["_law_tape_here", "_law_text", "_law_some", "_law_rows", "_law_at", "_law_words", "_law_spot", "_law_word", "_law_signs", "_law_sign", "_law_place", "_law_more", "_law_lists", "_law_texts", "_law_one"]
theorem sc_law_bent_text : FnScope N_law_bent_text ["_law_tape_here", "_law_text", "_law_some"] (defScope s_law_bent_text) := ⟨rfl, rfl, rfl, by decide +kernel, rfl, by decide +kernel, by decide +kernel⟩

abbrev s_law_asked : Stmt := top 31
abbrev N_law_asked : List Str := ["_law_asked_here", "_law_text", "_law_found", "_law_caught", "e"]
theorem sc_law_asked : FnScope N_law_asked ["_law_asked_here", "_law_text"] (defScope s_law_asked) := ⟨rfl, rfl, rfl, by decide +kernel, rfl, by decide +kernel, by decide +kernel⟩

abbrev s_law_due : Stmt := top 32
abbrev N_law_due : List Str := ["_law_text", "_law_found", "_law_at", "_law_row", "_law_touch"]
theorem sc_law_due : FnScope N_law_due ["_law_text"] (defScope s_law_due) := ⟨rfl, rfl, rfl, by decide +kernel, rfl, by decide +kernel, by decide +kernel⟩

abbrev slaw : Stmt := top 33
abbrev Nlaw : List Str := ["_law_script", "_law_tape_here", "_law_some", "_law_turn", "_law_touches_here", "_law_text", "_law_bent", "_law_odd", "_law_one", "_law_touch", "_law_thing"]
theorem sclaw : FnScope Nlaw ["_law_script"] (defScope slaw) := ⟨rfl, rfl, rfl, by decide +kernel, rfl, by decide +kernel, by decide +kernel⟩

end SG
/-! fields of rows: words and whole numbers in one way -/
namespace SG
open PySem PySem.Spec PyProof.Rows L2 PySem.NumText TL
theorem sIx1 (n : Nat) (d : Nat) : HT.sIx n d (some 1) = min 1 n := HT.sIx_nat n d 1
theorem cut_rest (z : Str) : tl (cutS z (some 1) none) = (tl z).drop 1 := by
  show (List.take (z.length - HT.sIx z.length 0 (some 1)) ((tl z).drop (HT.sIx z.length 0 (some 1)))) = _
  rw [sIx1, len_tl]
  cases tl z with
  | nil => rfl
  | cons a l =>
    have e : min 1 (a :: l).length = 1 := by rw [List.length_cons]; omega
    rw [e]
    exact List.take_of_length_le (by rw [List.length_drop]; exact Nat.le_refl _)
theorem cut_head (z : Str) : tl (cutS z none (some 1)) = (tl z).take 1 := by
  show (List.take (HT.sIx z.length z.length (some 1) - 0) ((tl z).drop 0)) = _
  rw [sIx1, len_tl]
  cases tl z with
  | nil => rfl
  | cons a l =>
    have e : min 1 (a :: l).length = 1 := by rw [List.length_cons]; omega
    rw [e]; rfl
def negS (z : Str) : Bool := decide ((tl z).head? = some 45)
theorem minus_tl : tl ("-" : Str) = [45] := by decide +kernel
theorem starts_neg (z : Str) : Txt.startswith z "-" = negS z := by
  have e : Txt.startswith z "-" = (decide (1 ≤ (tl z).length) && ((tl z).take 1 == [45])) := by
    show (decide (0 + ("-" : Str).length ≤ z.length) && (z.cps.extract 0 (0 + ("-" : Str).length) == ("-" : Str).cps)) = _
    rw [len_tl z, show ("-" : Str).length = 1 from by decide +kernel]
    congr 1
    have hc : ("-" : Str).cps = #[45] := by decide +kernel
    rw [hc]
    obtain ⟨⟨l⟩⟩ := z
    cases l with
    | nil => rfl
    | cons a l =>
      have e0 : ((⟨a :: l⟩ : Array Nat).extract 0 (0 + 1)) = #[a] := by
        apply Array.toList_inj.mp
        simp
      show (((⟨a :: l⟩ : Array Nat).extract 0 (0 + 1)) == #[45]) = _
      rw [e0]
      show ((#[a] : Array Nat) == #[45]) = ([a] == [45])
      by_cases e : a = 45
      · rw [e]; rfl
      · have h1 : ¬ (#[a] : Array Nat) = #[45] := fun z => e (by simpa using z)
        have h2 : ¬ [a] = [45] := fun z => e (by simpa using z)
        rw [beq_eq_false_iff_ne.mpr h1, beq_eq_false_iff_ne.mpr h2]
  rw [e]
  unfold negS
  cases tl z with
  | nil => rfl
  | cons a l =>
    by_cases e : a = 45
    · rw [e]; simp
    · simp [e]
theorem head_neg (z : Str) : decide (cutS z none (some 1) = "-") = negS z := by
  unfold negS
  congr 1
  apply propext
  constructor
  · intro h
    have := cut_head z
    rw [h, minus_tl] at this
    cases hz : tl z with
    | nil => rw [hz] at this; cases this
    | cons a l => rw [hz] at this; simp at this; rw [← this]; rfl
  · intro h
    refine ext_tl ?_
    rw [cut_head, minus_tl]
    cases hz : tl z with
    | nil => rw [hz] at h; cases h
    | cons a l => rw [hz] at h; simp at h; rw [h]; rfl
/-- the figures of a field -/
def figS (z : Str) : Str := if negS z = true then cutS z (some 1) none else z
theorem fig_len (z : Str) : (figS z).length ≤ z.length := by
  unfold figS
  split
  · rw [len_tl, len_tl z, cut_rest, List.length_drop]; exact Nat.sub_le _ _
  · exact Nat.le_refl _
def figs : List Nat := tl ("0123456789" : Str)
theorem figs_is : figs = [48, 49, 50, 51, 52, 53, 54, 55, 56, 57] := by decide +kernel
def nul0 (g : Str) : Bool := decide ((tl g).head? = some 48)
def allFig (g : Str) : Bool := (tl g).all fun c => decide (c ∈ figs)
def isNum (z : Str) : Bool := (decide (1 ≤ (figS z).length) && decide ((figS z).length ≤ 10) && allFig (figS z)) && (!nul0 (figS z) || decide (z = "0"))
def numV (z : Str) : Int := (PySem.intText? z).getD 0
theorem allFig_digits {g : Str} (h : allFig g = true) : AllDigits (tl g) := by
  intro c hc
  have := of_decide_eq_true (List.all_eq_true.mp h c hc)
  rw [figs_is] at this
  simp only [List.mem_cons, List.not_mem_nil, or_false] at this
  omega
theorem isNum_len {z : Str} (h : isNum z = true) : z.length ≤ 11 := by
  unfold isNum at h
  simp only [Bool.and_eq_true, decide_eq_true_eq] at h
  obtain ⟨⟨⟨_, h2⟩, _⟩, _⟩ := h
  unfold figS at h2
  split at h2
  · rw [len_tl, cut_rest, List.length_drop] at h2
    rw [len_tl]; omega
  · omega
theorem isNum_reads {z : Str} (h : isNum z = true) : PySem.intText? z = some (numV z) := by
  have hl := isNum_len h
  unfold isNum at h
  simp only [Bool.and_eq_true, decide_eq_true_eq] at h
  obtain ⟨⟨⟨h1, h2⟩, h3⟩, _⟩ := h
  have dg := allFig_digits h3
  have ne : tl (figS z) ≠ [] := fun e => by rw [len_tl, e] at h1; simp at h1
  have some_ : ∃ n, PySem.intText? z = some n := by
    unfold figS at dg ne
    split at dg
    · rename_i hn
      rw [if_pos hn] at ne
      rw [cut_rest] at dg ne
      unfold negS at hn
      cases hz : tl z with
      | nil => rw [hz] at hn; cases hn
      | cons a l =>
        rw [hz] at hn dg ne
        simp at hn
        subst hn
        exact ⟨_, intText_neg hz dg ne (by omega)⟩
    · rename_i hn
      rw [if_neg hn] at ne
      exact ⟨_, intText_digits dg ne (by omega)⟩
  obtain ⟨n, e⟩ := some_
  unfold numV
  rw [e]; rfl
/-- a field, read -/
def fldD (z : Str) : PyData := if isNum z = true then .int (numV z) else .str z
def fldV (z : Str) : V := if isNum z = true then .int (numV z) else .str z
theorem fld_dp {H : Hp} (z : Str) : Im H (fldV z) (fldD z) := by
  unfold fldV fldD
  split
  · exact .int _
  · exact .str _
/-- a loop over enumerate of a list -/
theorem for_enumL {K : PySem.W.Frag} {a : Addr} {xs : List V} {g : TG} {tb : TS} {D : Ends} {σ : L2.St} {H : Hp} (Pv : Nat → L2.St → Hp → Prop) (h0 : Pv 0 σ H) (hl : ∀ i σ H, Pv i σ H → SqL K H a xs)
    (hs : ∀ (i : Nat) (x : V) (T : Addr) (σ : L2.St) (H : Hp), xs[i]? = some x → Pv i σ H → H T = none → g (.ref T) σ (upd H T (.tup [.int (i : Nat), x])) fun σ2 H2 => tb { D with nx := Pv (i + 1), ct := Pv (i + 1), bk := D.nx } σ2 H2) (hd : ∀ σ H, Pv xs.length σ H → D.nx σ H) :
    ∃ W : Nat → Nat → L2.St → Hp → Prop, (∃ m, W 0 m σ H) ∧ ∀ i m σ H, W i m σ H →
      ((Ite K a).stop i H ∧ D.nx σ H) ∨ ((Ite K a).go i H ∧ ∃ N : L2.St → Hp → Prop, (∀ σ' H', N σ' H' → ∃ m', m' < m ∧ W (i + 1) m' σ' H') ∧ ∀ v H', (Ite K a).yld i H v H' → g v σ H' fun σ2 H2 => tb { D with nx := N, ct := N, bk := D.nx } σ2 H2) := by
  refine ⟨fun i m σ H => m = xs.length - i ∧ i ≤ xs.length ∧ Pv i σ H, ⟨xs.length, by simp, Nat.zero_le _, h0⟩, ?_⟩
  rintro i m σ H ⟨rfl, hi, p⟩
  have q := hl i σ H p
  by_cases hlt : i < xs.length
  · have hx : xs[i]? = some xs[i] := List.getElem?_eq_getElem hlt
    refine .inr ⟨⟨xs, xs[i], q, hx⟩, Pv (i + 1), fun σ' H' p' => ⟨xs.length - (i + 1), by omega, rfl, hlt, p'⟩, ?_⟩
    rintro v H' ⟨T, x', rfl, hT, rfl, f1⟩
    exact hs i x' T σ H (f1 xs q) p hT
  · have e : i = xs.length := by omega
    subst e
    exact .inl ⟨⟨xs, q, Nat.le_refl _⟩, hd σ H p⟩
theorem lc_mapS {x : Str} {g : TG} {te : TE} {vs : List Nat} {σ : L2.St} {H : Hp} {D : Addr} {Qd : Hp → Prop} (F : Nat → V) (D0 : H D = none) (few : x.cps.size < 100000)
    (hs : ∀ i c Hx (N : V → Hp → Prop) (O : Hp → Prop), x.cps[i]? = some c → Same H Hx → (∀ H4, Same Hx H4 → N (F i) H4) → g (.str ⟨#[c]⟩) (wipe σ vs) Hx fun σ2 H2 => wipe σ2 vs = wipe σ vs ∧ tYes σ2 H2 fun b H3 => if b = true then te σ2 H3 N else O H3)
    (hd : ∀ Hx, Same H Hx → Hx D = some (.lst ((List.range x.cps.size).map F)) → Qd Hx) :
    ∃ W : Nat → Nat → Hp → Prop, (∃ m, W 0 m (upd H D (.lst []))) ∧ ∀ i m H, W i m H →
      ((Its x).stop i H ∧ Qd H) ∨ ((Its x).go i H ∧ ∃ Nx : Hp → Prop, (∀ H', Nx H' → ∃ m', m' < m ∧ W (i + 1) m' H') ∧ ∀ y H', (Its x).yld i H y H' → g y (wipe σ vs) H' fun σ2 H2 => wipe σ2 vs = wipe σ vs ∧ tYes σ2 H2 fun b H3 =>
        if b = true then te σ2 H3 fun y H4 => ∃ acc, H4 D = some (.lst acc) ∧ acc.length < sizeLine ∧ Nx (upd H4 D (.lst (acc ++ [y]))) else Nx H3) := by
  refine ⟨fun i m Hx => i ≤ x.cps.size ∧ m = x.cps.size - i ∧ Hx D = some (.lst ((List.range i).map F)) ∧ Same H Hx, ⟨_, Nat.zero_le _, rfl, upd_same, same_new D0⟩, ?_⟩
  rintro i m Hx ⟨hi, rfl, h1, sx⟩
  by_cases c : i = x.cps.size
  · subst c
    exact .inl ⟨Nat.le_refl _, hd Hx sx h1⟩
  · have hlt : i < x.cps.size := by omega
    refine .inr ⟨hlt, fun H' => H' D = some (.lst ((List.range (i + 1)).map F)) ∧ Same H H', fun H' z => ⟨_, by omega, by omega, rfl, z.1, z.2⟩, ?_⟩
    rintro y H' ⟨rfl, ch, hch, rfl⟩
    refine hs i ch _ _ _ hch sx (fun H4 s4 => ?_)
    refine ⟨_, s4 _ _ h1, Nat.lt_of_lt_of_le (by rw [List.length_map, List.length_range]; omega : _ < 100000) (by decide), ?_, fun p o e => ?_⟩
    · rw [upd_same, List.range_succ, List.map_append]
      rfl
    · rw [upd_ne (ne_of_none e D0)]
      exact s4 _ _ (sx _ _ e)
/-! rows -/
def rowsOf (z : Str) : List Str := if z.length = 0 then [] else Txt.split z "\n"
def rowD (r : Str) : PyData := .tuple ((Txt.split r " ").map fldD)
end SG
namespace SG
open PySem PySem.Spec PyProof.Rows L2
/-! ### the tape -/
def tapeD (c : Addr) (s l : Int) : List (Key × V) := [(Sum.inr "cells", .ref c), (Sum.inr "spot", .int s), (Sum.inr "left", .int l)]
theorem k12 : ¬ (Sum.inr ("cells" : Str) : Key) = Sum.inr ("spot" : Str) := by decide +kernel
theorem k13 : ¬ (Sum.inr ("cells" : Str) : Key) = Sum.inr ("left" : Str) := by decide +kernel
theorem k23 : ¬ (Sum.inr ("spot" : Str) : Key) = Sum.inr ("left" : Str) := by decide +kernel
theorem k32 : ¬ (Sum.inr ("left" : Str) : Key) = Sum.inr ("spot" : Str) := by decide +kernel
theorem n12 : ¬ ("cells" : Str) = ("spot" : Str) := by decide +kernel
theorem n13 : ¬ ("cells" : Str) = ("left" : Str) := by decide +kernel
theorem n23 : ¬ ("spot" : Str) = ("left" : Str) := by decide +kernel
theorem n32 : ¬ ("left" : Str) = ("spot" : Str) := by decide +kernel
theorem len3 {c : Addr} {s l : Int} : (tapeD c s l).length < sizeLine := by show 3 < sizeLine; decide
/-- a tape stands at t, of which at most n cells were taken -/
def TapeAt (H : Hp) (t c : Addr) (n : Nat) : Prop :=
  ∃ (cs : List Int) (s l : Int), H t = some (.dK (tapeD c s l)) ∧ H c = some (.lst (cs.map V.int)) ∧ 0 ≤ s ∧ s ≤ (n : Int) ∧ 0 ≤ l ∧ cs.length ≤ 63
section
variable {K : PySem.W.Frag} {H H' : Hp} {t c : Addr} {s l v : Int} {n m : Nat}
theorem tape_cells (h : H t = some (.dK (tapeD c s l))) : DGet H t (.str "cells") (some (.ref c)) := DGet.k (k := Sum.inr "cells") h
theorem tape_spot (h : H t = some (.dK (tapeD c s l))) : DGet H t (.str "spot") (some (.int s)) := by
  have e : valV (tapeD c s l) (Sum.inr ("spot" : Str) : Key) = some (.int s) := by
    unfold tapeD
    rw [valV_neg k12, valV_pos rfl]
  have q := DGet.k (k := Sum.inr "spot") h
  rw [e] at q
  exact q
theorem tape_left (h : H t = some (.dK (tapeD c s l))) : DGet H t (.str "left") (some (.int l)) := by
  have e : valV (tapeD c s l) (Sum.inr ("left" : Str) : Key) = some (.int l) := by
    unfold tapeD
    rw [valV_neg k13, valV_neg k23, valV_pos rfl]
  have q := DGet.k (k := Sum.inr "left") h
  rw [e] at q
  exact q
theorem key_ne {a b : Str} (h : ¬ a = b) : ¬ (Sum.inr a : Key) = Sum.inr b := fun e => h (Sum.inr.inj e)
theorem tape_put_left (h : H t = some (.dK (tapeD c s l))) : DPut H t (.str "left") (.int v) (upd H t (.dK (tapeD c s v))) := by
  have e : putK (tapeD c s l) (Sum.inr ("left" : Str) : Key) (.int v) = tapeD c s v := by
    simp [putK, tapeD, n13, n23]
  have q := DPut.k (k := Sum.inr "left") (v := .int v) h len3
  rw [e] at q
  exact q
theorem tape_put_spot (h : H t = some (.dK (tapeD c s l))) : DPut H t (.str "spot") (.int v) (upd H t (.dK (tapeD c v l))) := by
  have e : putK (tapeD c s l) (Sum.inr ("spot" : Str) : Key) (.int v) = tapeD c v l := by
    simp [putK, tapeD, n12, n32]
  have q := DPut.k (k := Sum.inr "spot") (v := .int v) h len3
  rw [e] at q
  exact q
/-- a list is no dict: it stays where only a dict changes -/
theorem sq_ne {xs : List V} {kvs : List (Key × V)} (hc : SqL K H c xs) (ht : H t = some (.dK kvs)) (f : Fr [t] H H') : SqL K H' c xs := by
  rcases hc with (h | ⟨o, h⟩) | h
  · exact .inl (.inl (f _ _ h (by simp only [List.mem_singleton]; exact ne_of h ht (by intro z; cases z))))
  · exact .inl (.inr ⟨o, f _ _ h (by simp only [List.mem_singleton]; exact ne_of h ht (by intro z; cases z))⟩)
  · exact .inr h
theorem TapeAt.mono (h : TapeAt H t c n) (q : n ≤ m) : TapeAt H t c m := by
  obtain ⟨cs, s, l, h1, h2, h3, h4, h5, h6⟩ := h
  exact ⟨cs, s, l, h1, h2, h3, by omega, h5, h6⟩
theorem TapeAt.same (h : TapeAt H t c n) (q : Same H H') : TapeAt H' t c n := by
  obtain ⟨cs, s, l, h1, h2, h3, h4, h5, h6⟩ := h
  exact ⟨cs, s, l, q _ _ h1, q _ _ h2, h3, h4, h5, h6⟩
theorem TapeAt.tp (h : TapeAt H t c n) (q : Fr [t] H H') : Tp H H' := fun b xs e => by
  obtain ⟨cs, s, l, h1, h2, h3, h4, h5, h6⟩ := h
  exact q _ _ e (by simp only [List.mem_singleton]; exact ne_of e h1 (by intro z; cases z))
theorem TapeAt.is (h : TapeAt H t c n) : ∃ kvs, H t = some (.dK kvs) := by
  obtain ⟨cs, s, l, h1, _⟩ := h
  exact ⟨_, h1⟩
theorem at_of' {α : Type} {xs : List α} {z : Int} {j : Nat} {v : α} (e : z = (j : Int)) (h : xs[j]? = some v) : atI xs z = some v := by
  rw [e]
  exact atI_nat h
theorem at_in {α : Type} {xs : List α} {i : Int} (h0 : 0 ≤ i) (h1 : i < xs.length) : ∃ x, x ∈ xs ∧ atI xs i = some x := by
  have hk : i.toNat < xs.length := by omega
  refine ⟨xs[i.toNat], List.getElem_mem hk, ?_⟩
  exact at_of' (j := i.toNat) (by omega) (List.getElem?_eq_getElem hk)
theorem at_ints {cs : List Int} {i : Int} (h0 : 0 ≤ i) (h1 : i < cs.length) : ∃ z, atI (cs.map V.int) i = some (.int z) := by
  obtain ⟨x, hx, e⟩ := at_in (xs := cs.map V.int) h0 (by rw [List.length_map]; exact h1)
  obtain ⟨z, _, rfl⟩ := List.mem_map.mp hx
  exact ⟨z, e⟩
/-- cells or [0] -/
theorem or_new {σ : L2.St} {Q : VK} {cs : List Int} (hS : SqL K H c (cs.map V.int)) (hl : cs.length ≤ 63)
    (k : ∀ c' cs' H', Same H H' → 0 < cs'.length → cs'.length ≤ 63 → SqL K H' c' (List.map V.int cs') → Q (.ref c') H') :
    ∃ b, TruV K (.ref c) H b ∧ if b = true then Q (.ref c) H else tLst (tCons (tC (.int 0)) tNil) σ H Q := by
  refine ⟨_, Or.inl ⟨_, hS, rfl⟩, ?_⟩
  cases cs with
  | nil =>
    refine iteF ?_
    refine ⟨(by show 1 ≤ sizeLine; decide), fun p hp => ?_⟩
    exact k p [0] _ (same_new hp) (by decide) (by decide) (SqL.of upd_same)
  | cons z r =>
    refine iteT ?_
    exact k c (z :: r) H (Same.refl H) (by simp) hl hS
end
/-! ### a draw -/
def spDraw : Sp := fun vs H Q _ => ∃ (t c : Addr) (m : Int) (n : Nat), vs = [.ref t, .int m] ∧ TapeAt H t c n ∧ (1 ≤ m ∧ m ≤ 1000000) ∧ n ≤ 1000000000 ∧
  ∀ (r : Int) (H' : Hp), (0 ≤ r ∧ r < m) → TapeAt H' t c (n + 1) → Fr [t] H H' → Q (.int r) H'
def spNone : Sp := fun _ _ _ _ => False
theorem pw18 : CPowG 10 18 := ⟨by decide, by decide +kernel⟩
theorem pw6e : (10 : Int) ^ (6 : Int).toNat = 1000000 := by decide
theorem pw6 : CPowG 10 6 := ⟨by decide, by decide +kernel⟩
theorem pw50 : CPowG 10 50 := ⟨by decide, by decide +kernel⟩
theorem pw60 : CPowG (10 ^ (50 : Int).toNat) 60 := ⟨by decide, by decide +kernel⟩
theorem pw10 : CPowG ((10 ^ (50 : Int).toNat) ^ (60 : Int).toNat) 10 := ⟨by decide, by decide +kernel⟩
def primes : List Int := [2147483647, 2147483629, 2147483587, 2147483579, 2147483563, 2147483549, 2147483543]
theorem prime_at {i : Int} (h0 : 0 ≤ i) (h1 : i < 7) : ∃ q : Int, atI (primes.map V.int) i = some (.int q) ∧ 1000000000 ≤ q ∧ q ≤ 2147483647 := by
  have hk : i.toNat < 7 := by omega
  have e : i = ((i.toNat : Nat) : Int) := by omega
  rw [e]
  generalize i.toNat = j at *
  match j, hk with
  | 0, _ => exact ⟨_, atI_nat rfl, by decide, by decide⟩
  | 1, _ => exact ⟨_, atI_nat rfl, by decide, by decide⟩
  | 2, _ => exact ⟨_, atI_nat rfl, by decide, by decide⟩
  | 3, _ => exact ⟨_, atI_nat rfl, by decide, by decide⟩
  | 4, _ => exact ⟨_, atI_nat rfl, by decide, by decide⟩
  | 5, _ => exact ⟨_, atI_nat rfl, by decide, by decide⟩
  | 6, _ => exact ⟨_, atI_nat rfl, by decide, by decide⟩
  | j + 7, h => exact absurd h (by omega)
theorem big_pos : (0 : Int) < ((10 ^ (50 : Int).toNat) ^ (60 : Int).toNat) ^ (10 : Int).toNat := Int.pow_pos (Int.pow_pos (Int.pow_pos (by decide)))
section
variable {P : Program} {w : World} {K : PySem.W.Frag} {mg : Str → Option Value} {base : Heap}
theorem ok_draw (D : Df K mg "_law_draw" s_law_draw ["_law_tape_here", "_law_many"]) (T : Txt K mg) : Cl P w K mg base 1 "_law_draw" spDraw := by
  have c_law_draw : Cl P w K mg base 0 "_law_draw" spNone := D.none fun _ _ _ _ h => h
  refine D.ok sc_law_draw (fun vs H Q E h => ?_) (fun f cdv A outer s H vs Q E hr h => ?_)
  · obtain ⟨t, c, m, n, rfl, _⟩ := h
    rfl
  obtain ⟨t, c, m, n, rfl, ⟨cs, s, l, ht, hcl, s0, sn, l0, h63⟩, ⟨m1, m6⟩, hn, k⟩ := h
  have hu := hu_of hr
  have hc : SqL K H c (cs.map V.int) := SqL.of hcl
  have ctn : c ∉ [t] := by simp only [List.mem_singleton]; exact ne_of hcl ht (by intro z; cases z)
  refine ⟨_, -- if _law_tape_here['left'] > 0:
    (pss_cons (ps_if (pt_cmpR op_gt (pe_dget hu (pv 0) pe_str (fun _ _ => rfl)) pe_int (nomark _))
      (pss_cons (ps_set (i := 2) sc_law_draw.nd rfl (Or.inl rfl) (pe_op op_mod (pe_dget hu (pv 0) pe_str (fun _ _ => rfl)) (pv 1)))
      (pss_cons (ps_dput hu (pv 0) pe_str (pe_op op_fdiv (pe_dget hu (pv 0) pe_str (fun _ _ => rfl)) (pv 1)) rfl)
      (pss_one (ps_ret (pv 2)))))
      pss_nil)
    (pss_cons (ps_set (i := 3) sc_law_draw.nd rfl (Or.inl rfl) (pe_dget hu (pv 0) pe_str (fun _ _ => rfl)))
    (pss_cons (ps_dput hu (pv 0) pe_str (pe_op op_add (pv 3) pe_int) rfl)
    (pss_cons (ps_set (i := 4) sc_law_draw.nd rfl (Or.inl rfl) (pe_orT (pe_dget hu (pv 0) pe_str (fun _ _ => rfl)) (pe_one (pe_lst (pa_cons pe_int pa_nil)))))
    (pss_cons (ps_set (i := 5) sc_law_draw.nd rfl (Or.inl rfl) (pe_ix ix_list (pv 4) (pe_op op_mod (pv 3) (pe_callB call_len_seq (by rfl) T.m_len PySem.boot_len (pa_cons (pv 4) pa_nil))) (fun _ _ => rfl)))
    (C8.pss_cut (ps_if (PW.pt (pw_and (pt_cmpR op_ge (pv 5) (pe_op op_powG pe_int pe_int) (nomark _)) (pw_and1 (pt_cmpR op_lt (pv 3) (pe_callB call_len_seq (by rfl) T.m_len PySem.boot_len (pa_cons (pv 4) pa_nil)) (nomark _)))))
      (pss_cons (ps_set (i := 6) sc_law_draw.nd rfl (Or.inl rfl) (pe_op op_mod (pe_op op_sub (pv 5) (pe_op op_powG pe_int pe_int)) (pe_op op_powG (pe_op op_powG (pe_op op_powG pe_int pe_int) pe_int) pe_int)))
      (pss_cons (ps_dput hu (pv 0) pe_str (pe_op op_fdiv (pv 6) (pv 1)) rfl)
      (pss_one (ps_ret (pe_op op_mod (pv 6) (pv 1))))))
      pss_nil)
    (pss_cons (ps_set (i := 7) sc_law_draw.nd rfl (Or.inl rfl) (pe_lst (pa_cons pe_int (pa_cons pe_int (pa_cons pe_int (pa_cons pe_int (pa_cons pe_int (pa_cons pe_int (pa_cons pe_int pa_nil)))))))))
    (pss_cons (ps_set (i := 8) sc_law_draw.nd rfl (Or.inl rfl) (pe_ix ix_list (pv 7) (pe_op op_mod (pv 3) pe_int) (fun _ _ => rfl)))
    (pss_cons (ps_set (i := 9) sc_law_draw.nd rfl (Or.inl rfl) (pe_op op_mod (pe_op op_add (pe_op op_add (pe_op op_add (pe_op op_mul (pe_op op_mod (pv 5) (pv 8)) pe_int) (pe_op op_mul (pe_op op_mul pe_int (pv 3)) (pv 3))) (pe_op op_mul pe_int (pv 3))) pe_int) (pv 8)))
    (pss_cons (ps_set (i := 9) sc_law_draw.nd rfl (Or.inl rfl) (pe_op op_mod (pe_op op_mul (pv 9) (pe_op op_add (pv 9) pe_int)) (pe_ix ix_list (pv 7) (pe_op op_mod (pe_op op_add (pv 3) pe_int) pe_int) (fun _ _ => rfl))))
    (pss_cons (ps_set (i := 2) sc_law_draw.nd rfl (Or.inl rfl) (pe_op op_fdiv (pe_op op_mod (pe_op op_mul (pv 9) (pv 9)) (pv 8)) pe_int))
    (pss_cons (ps_if (pt_cmpR op_gt (pv 1) (pe_op op_powG pe_int pe_int) (nomark _))
      (pss_one (ps_set (i := 2) sc_law_draw.nd rfl (Or.inl rfl) (pe_op op_add (pe_op op_mod (pv 2) (pe_op op_powG pe_int pe_int)) (pe_op op_mul (pe_op op_powG pe_int pe_int) (pe_cl c_law_draw (hr.mono (by first | decide | omega)) rfl (pa_cons (pv 0) (pa_cons (pe_op op_add (pe_op op_fdiv (pv 1) (pe_op op_powG pe_int pe_int)) pe_int) pa_nil)))))))
      pss_nil)
    (pss_one (ps_ret (pe_op op_mod (pv 2) (pv 1)))))))))))))))), ?_⟩
  refine ⟨_, rfl, t, _, rfl, tape_left ht, _, _, rfl, rfl, _, rfl, ?_⟩
  refine ite2 (fun p => ?_) (fun p => ?_)
  · have lp : 0 < l := of_decide_eq_true p
    refine ⟨_, rfl, t, _, rfl, tape_left ht, _, rfl, _, _, rfl, rfl, (by omega), ?_⟩
    refine ⟨_, rfl, t, _, rfl, tape_left ht, _, rfl, _, _, rfl, rfl, ⟨by omega, by omega⟩, _, rfl, t, _, rfl, tape_put_left ht, ?_⟩
    refine ⟨_, rfl, ?_⟩
    have f1 : Fr [t] H (upd H t (.dK (tapeD c s (l / m)))) := Fr.put (by simp)
    exact k _ _ ⟨Int.emod_nonneg _ (by omega), Int.emod_lt_of_pos _ (by omega)⟩ ⟨cs, s, l / m, upd_same, f1 _ _ hcl ctn, s0, by omega, Int.ediv_nonneg l0 (by omega), h63⟩ f1
  · -- spot
    refine ⟨_, rfl, t, _, rfl, tape_spot ht, ?_⟩
    refine ⟨_, rfl, _, _, rfl, rfl, _, rfl, t, _, rfl, tape_put_spot ht, ?_⟩
    have f1 : Fr [t] H (upd H t (.dK (tapeD c (s + 1) l))) := Fr.put (by simp)
    have ht1 : (upd H t (.dK (tapeD c (s + 1) l))) t = some (.dK (tapeD c (s + 1) l)) := upd_same
    have hc1 := sq_ne hc ht f1
    generalize (upd H t (.dK (tapeD c (s + 1) l))) = H1 at *
    refine ⟨_, rfl, t, _, rfl, tape_cells ht1, or_new hc1 h63 fun c2 cs2 H2 sm2 p2 l2 hc2 => ?_⟩
    have ht2 := sm2 _ _ ht1
    have hc12 := sm2.seq hc1
    have f2 := f1.trans (Fr.same sm2 _)
    have hl2 : (cs2.map V.int).length = cs2.length := List.length_map _
    have i0 : 0 ≤ s % (((cs2.map V.int).length : Nat) : Int) := Int.emod_nonneg _ (by omega)
    have i1 : s % (((cs2.map V.int).length : Nat) : Int) < (cs2.length : Int) := by
      rw [hl2]
      exact Int.emod_lt_of_pos _ (by omega)
    obtain ⟨cell, hcell⟩ := at_ints i0 i1
    refine ⟨_, rfl, _, rfl, _, rfl, c2, _, rfl, .inl hc2, _, _, rfl, rfl, (by rw [hl2]; omega), c2, _, _, _, rfl, rfl, hc2, hcell, ?_⟩
    refine ⟨fun σ' H' => σ' = [some (.ref t), some (.int m), none, some (.int s), some (.ref c2), some (.int cell), none, none, none, none] ∧ H' = H2, ?_, ?_⟩
    · refine ⟨_, rfl, _, _, rfl, rfl, pw18, _, _, rfl, rfl, _, rfl, ?_⟩
      refine ite2 (fun p3 => ?_) (fun p3 => ⟨rfl, rfl⟩)
      refine ⟨_, rfl, _, rfl, c2, _, rfl, .inl hc2, _, _, rfl, rfl, _, rfl, ?_⟩
      refine ite2 (fun p4 => ?_) (fun p4 => ⟨rfl, rfl⟩)
      refine ⟨_, rfl, _, _, rfl, rfl, pw18, _, _, rfl, rfl, _, _, rfl, rfl, pw50, _, _, rfl, rfl, pw60, _, _, rfl, rfl, pw10, _, _, rfl, rfl, big_pos, ?_⟩
      have g0 : 0 ≤ (cell - 10 ^ (18 : Int).toNat) % ((10 ^ (50 : Int).toNat) ^ (60 : Int).toNat) ^ (10 : Int).toNat := Int.emod_nonneg _ (Int.ne_of_gt big_pos)
      dsimp only
      generalize (cell - 10 ^ (18 : Int).toNat) % ((10 ^ (50 : Int).toNat) ^ (60 : Int).toNat) ^ (10 : Int).toNat = gr at *
      refine ⟨_, rfl, _, rfl, _, _, rfl, rfl, ⟨by omega, by omega⟩, _, rfl, t, _, rfl, tape_put_left ht2, ?_⟩
      refine ⟨_, rfl, _, rfl, _, _, rfl, rfl, (by omega), ?_⟩
      have f3 : Fr [t] H2 (upd H2 t (.dK (tapeD c (s + 1) (gr / m)))) := Fr.put (by simp)
      exact k _ _ ⟨Int.emod_nonneg _ (by omega), Int.emod_lt_of_pos _ (by omega)⟩ ⟨cs, s + 1, gr / m, upd_same, (f2.trans f3) _ _ hcl ctn, by omega, by omega, Int.ediv_nonneg g0 (by omega), h63⟩ (f2.trans f3)
    · rintro σ' H' ⟨rfl, rfl⟩
      refine ⟨(by show 7 ≤ sizeLine; decide), fun pr hpr => ?_⟩
      have sm3 := same_new (o := .lst [V.int 2147483647, .int 2147483629, .int 2147483587, .int 2147483579, .int 2147483563, .int 2147483549, .int 2147483543]) hpr
      have hP : SqL K (upd H' pr (.lst [V.int 2147483647, .int 2147483629, .int 2147483587, .int 2147483579, .int 2147483563, .int 2147483549, .int 2147483543])) pr (primes.map V.int) := SqL.of upd_same
      have ht3 := sm3 _ _ ht2
      have hc3 := sm3.seq hc12
      have f3 := f2.trans (Fr.same sm3 _)
      generalize (upd H' pr (.lst [V.int 2147483647, .int 2147483629, .int 2147483587, .int 2147483579, .int 2147483563, .int 2147483549, .int 2147483543])) = H3 at *
      obtain ⟨q1, a1, b1, c1⟩ := prime_at (i := s % 7) (Int.emod_nonneg _ (by decide)) (Int.emod_lt_of_pos _ (by decide))
      refine ⟨_, rfl, _, rfl, _, _, rfl, rfl, (by show (0 : Int) < 7; decide), pr, _, _, _, rfl, rfl, hP, a1, ?_⟩
      have e0 : 0 ≤ cell % q1 := Int.emod_nonneg _ (by omega)
      have e1 : cell % q1 < q1 := Int.emod_lt_of_pos _ (by omega)
      refine ⟨_, rfl, _, rfl, _, _, rfl, rfl, (by omega), _, _, rfl, rfl, .inr ⟨by decide, by decide⟩, _, rfl, _, _, rfl, rfl, .inl ⟨by decide, by decide⟩, _, rfl, _, _, rfl, rfl, .inr ⟨by omega, by omega⟩, _, _, rfl, rfl, _, rfl, _, _, rfl, rfl, .inl ⟨by decide, by decide⟩, _, _, rfl, rfl, _, _, rfl, rfl, _, rfl, _, _, rfl, rfl, (by omega), ?_⟩
      dsimp only
      generalize hsd : (cell % q1 * 48271 + 7919 * s * s + 69621 * s + 1) % q1 = sd
      have d0 : 0 ≤ sd := by rw [← hsd]; exact Int.emod_nonneg _ (by omega)
      have d1 : sd < q1 := by rw [← hsd]; exact Int.emod_lt_of_pos _ (by omega)
      obtain ⟨q2, a2, b2, c2'⟩ := prime_at (i := (s + 3) % 7) (Int.emod_nonneg _ (by decide)) (Int.emod_lt_of_pos _ (by decide))
      refine ⟨_, rfl, _, rfl, _, _, rfl, rfl, _, _, rfl, rfl, .inl ⟨by omega, by omega⟩, _, rfl, _, rfl, _, _, rfl, rfl, _, _, rfl, rfl, (by show (0 : Int) < 7; decide), pr, _, _, _, rfl, rfl, hP, a2, _, _, rfl, rfl, (by omega), ?_⟩
      dsimp only
      generalize hse : sd * (sd + 16807) % q2 = se
      have e2 : 0 ≤ se := by rw [← hse]; exact Int.emod_nonneg _ (by omega)
      have e3 : se < q2 := by rw [← hse]; exact Int.emod_lt_of_pos _ (by omega)
      refine ⟨_, rfl, _, rfl, _, _, rfl, rfl, .inl ⟨by omega, by omega⟩, _, rfl, _, _, rfl, rfl, (by omega), _, _, rfl, rfl, ⟨by decide, by decide⟩, ?_⟩
      dsimp only
      generalize se * se % q1 / 64 = fo
      refine ⟨_, rfl, _, _, rfl, rfl, pw6, _, _, rfl, rfl, _, rfl, ?_⟩
      refine ite2 (fun p5 => absurd (of_decide_eq_true p5) (by rw [pw6e]; omega)) (fun p5 => ?_)
      refine ⟨_, rfl, _, rfl, _, _, rfl, rfl, (by omega), ?_⟩
      exact k _ _ ⟨Int.emod_nonneg _ (by omega), Int.emod_lt_of_pos _ (by omega)⟩ ⟨cs, s + 1, l, ht3, f3 _ _ hcl ctn, by omega, by omega, l0, h63⟩ f3
end
end SG
namespace SG
open PySem PySem.Spec PyProof.Rows L2
section
variable {K : PySem.W.Frag} {H H' H1 : Hp} {t c p : Addr} {n m : Nat}
theorem Fr.one {S : List Addr} {o : HO} (f : Fr S H H') (h : H p = some o) (hn : p ∉ S) : H' p = some o := f p o h hn
theorem TapeAt.ne_new (h : TapeAt H t c n) (hp : H p = none) : p ≠ t := by
  obtain ⟨kvs, e⟩ := h.is
  exact fun z => by rw [z, e] at hp; cases hp
theorem TapeAt.ne_lst {xs : List V} (h : TapeAt H t c n) (hp : H p = some (.lst xs)) : p ≠ t := by
  obtain ⟨kvs, e⟩ := h.is
  exact ne_of hp e (by intro z; cases z)
theorem TapeAt.ne_tup {xs : List V} (h : TapeAt H t c n) (hp : H p = some (.tup xs)) : p ≠ t := by
  obtain ⟨kvs, e⟩ := h.is
  exact ne_of hp e (by intro z; cases z)
theorem not_in_one {a b : Addr} (h : a ≠ b) : a ∉ [b] := by simpa using h
theorem sl1000 {n : Nat} (h : n ≤ 1000) : n ≤ sizeLine := Nat.le_of_lt (small1000 h)
theorem TapeAt.ne_newc (h : TapeAt H t c n) (hp : H p = none) : p ≠ c := by
  obtain ⟨cs, s, l, h1, h2, h3, h4, h5, h6⟩ := h
  exact fun z => by rw [z, h2] at hp; cases hp
theorem TapeAt.ne_tupc {xs : List V} (h : TapeAt H t c n) (hp : H p = some (.tup xs)) : p ≠ c := by
  obtain ⟨cs, s, l, h1, h2, h3, h4, h5, h6⟩ := h
  exact ne_of hp h2 (by intro z; cases z)
theorem TapeAt.ne_dctc {xs : List (Key × V)} (h : TapeAt H t c n) (hp : H p = some (.dK xs)) : p ≠ c := by
  obtain ⟨cs, s, l, h1, h2, h3, h4, h5, h6⟩ := h
  exact ne_of hp h2 (by intro z; cases z)
theorem TapeAt.put {o : HO} (h : TapeAt H t c n) (h1 : p ≠ t) (h2 : p ≠ c) : TapeAt (upd H p o) t c n := by
  obtain ⟨cs, s, l, e1, e2, r⟩ := h
  exact ⟨cs, s, l, by rw [upd_ne h1.symm]; exact e1, by rw [upd_ne h2.symm]; exact e2, r⟩
/-- [..][_law_draw(tape, m)], the list new -/
theorem pick_draw {xs : List V} {i : Int} {Q : VK} (hT : TapeAt H t c n) (hn : n ≤ 1000000000) (hm : i = (xs.length : Int)) (hx : 1 ≤ xs.length ∧ xs.length ≤ 1000)
    (k : ∀ v H', v ∈ xs → TapeAt H' t c (n + 1) → Fr [t] H H' → Q v H') : ∀ p, H p = none → spDraw [.ref t, .int i] (upd H p (.lst xs)) (fun y H2 => rIxL K (.ref p) y H2 Q) E0 := by
  intro p hp
  have pt := hT.ne_new hp
  have sm := same_new (o := .lst xs) hp
  have hh : (upd H p (.lst xs)) p = some (.lst xs) := upd_same
  generalize upd H p (.lst xs) = Hx at *
  refine ⟨t, c, i, n, rfl, hT.same sm, ⟨by omega, by omega⟩, hn, fun r H' hr T' F' => ?_⟩
  obtain ⟨v, hv, e⟩ := at_in (xs := xs) hr.1 (by omega)
  exact ⟨p, xs, r, v, rfl, rfl, SqL.of (F' _ _ hh (not_in_one pt)), e, k v H' hv T' ((Fr.same sm _).trans F')⟩
end
end SG
namespace SG
open PySem PySem.Spec PyProof.Rows L2
def spBetween (K : PySem.W.Frag) : Sp := fun vs H Q _ => ∃ (x : V) (d : PyData) (lo hi : Int), vs = [x, .int lo, .int hi] ∧ Dp K H x d ∧ Q (.bl (bet d lo hi)) H
def spCoord (K : PySem.W.Frag) : Sp := fun vs H Q _ => ∃ (x : V) (d : PyData), vs = [x] ∧ Dp K H x d ∧ Q (.bl (bet d (-10000) 10000)) H
def spRow (K : PySem.W.Frag) : Sp := fun vs H Q _ => ∃ (x : V) (d : PyData) (n : Nat), vs = [x, .int n] ∧ Dp K H x d ∧ Q (.bl (rowN n d)) H
def wordsT : List Str := ["down", "move", "up", "lost"]
/-- what a touch is -/
def isT : PyData → Bool
  | .tuple [m, f, w, x, y] => bet m 0 1000000000 && (bet f 0 9 && (inL wordsT w && (bet x (-10000) 10000 && bet y (-10000) 10000)))
  | _ => false
def spTouch (K : PySem.W.Frag) : Sp := fun vs H Q _ => ∃ (x : V) (d : PyData), vs = [x] ∧ Dp K H x d ∧ Q (.bl (isT d)) H
def spTouchN (K : PySem.W.Frag) : Sp := fun vs H Q _ => ∃ (x : V) (d : PyData), vs = [x] ∧ Dp K H x d ∧ ∀ H', Same H H' → Q (.bl (isT d)) H'
theorem dec_nat {a b : Nat} : decide (V.int (a : Int) = V.int (b : Int)) = decide (a = b) := by
  rw [Bool.eq_iff_iff]
  simp
  omega
theorem rowN_five {d : PyData} (h : rowN 5 d = true) : ∃ a b c e f, d = .tuple [a, b, c, e, f] := by
  unfold rowN at h
  split at h
  · rename_i ds
    match ds, h with
    | [a, b, c, e, f], _ => exact ⟨a, b, c, e, f, rfl⟩
    | [], h => simp at h
    | [_], h => simp at h
    | [_, _], h => simp at h
    | [_, _, _], h => simp at h
    | [_, _, _, _], h => simp at h
    | _ :: _ :: _ :: _ :: _ :: _ :: _, h => simp at h
  · cases h
theorem isT_row {d : PyData} (h : rowN 5 d = false) : isT d = false := by
  unfold isT
  split
  · exact absurd h (by simp [rowN])
  · rfl
theorem DpAll.five {K : PySem.W.Frag} {H : Hp} {xs : List V} {a b c d e : PyData} (h : DpAll K H xs [a, b, c, d, e]) : ∃ u v w x y, xs = [u, v, w, x, y] ∧ Dp K H u a ∧ Dp K H v b ∧ Dp K H w c ∧ Dp K H x d ∧ Dp K H y e := by
  cases h with
  | cons h1 t => cases t with
    | cons h2 t => cases t with
      | cons h3 t => cases t with
        | cons h4 t => cases t with
          | cons h5 t => cases t; exact ⟨_, _, _, _, _, rfl, h1, h2, h3, h4, h5⟩
section
variable {P : Program} {w : World} {K : PySem.W.Frag} {mg : Str → Option Value} {base : Heap}
theorem ok_between (D : Df K mg "is_between" sis_between ["thing", "least", "most"]) (T : Txt K mg) : Cl P w K mg base 1 "is_between" (spBetween K) := by
  refine D.ok scis_between (fun vs H Q E h => ?_) (fun f cdv A outer s H vs Q E hr h => ?_)
  · obtain ⟨x, d, lo, hi, rfl, _⟩ := h
    rfl
  obtain ⟨x, d, lo, hi, rfl, hd, k⟩ := h
  refine ⟨_, -- return isinstance(thing, int) and (not isinstance(thing, bool)) and (least <= thing <= most)
    (pss_one (ps_ret (pe_and (pe_callB call_isInt (by rfl) T.m_isinstance (by decide +kernel) (pa_cons (pv 0) (pa_cons (pe_bltn (v := .ty "int") (u := .type "int") (by rfl) T.m_int (by decide +kernel) rfl) pa_nil))) (pe_and (pe_not (pe_callB call_isBool (by rfl) T.m_isinstance (by decide +kernel) (pa_cons (pv 0) (pa_cons (pe_bltn (v := .ty "bool") (u := .type "bool") (by rfl) T.m_bool (by decide +kernel) rfl) pa_nil)))) (pe_one (pe_chain op_le op_le (pv 1) (pv 0) (pv 2))))))), ?_⟩
  refine ⟨_, rfl, _, d, rfl, hd, _, rfl, ite2 (fun p => ?_) fun p => ?_⟩
  · refine ⟨_, rfl, _, d, rfl, hd, _, rfl, _, rfl, ite2 (fun q => ?_) fun q => ?_⟩
    · cases hd with
      | int i =>
        refine ⟨_, rfl, _, rfl, _, _, rfl, rfl, _, rfl, ite2 (fun r => ?_) fun r => ?_⟩
        · refine ⟨_, rfl, _, _, rfl, rfl, ?_⟩
          have e : bet (.int i) lo hi = decide (i ≤ hi) := by show (decide (lo ≤ i) && decide (i ≤ hi)) = _; rw [r]; rfl
          show Q (.bl (decide (i ≤ hi))) H
          rw [← e]; exact k
        · have e : bet (.int i) lo hi = false := by show (decide (lo ≤ i) && decide (i ≤ hi)) = _; rw [Bool.eq_false_iff.mpr r]; rfl
          rw [← e]; exact k
      | bl b => cases q
      | non => cases p
      | str s => cases p
      | lst a b => cases p
      | tup a b => cases p
    · have e : bet d lo hi = false := by cases hd <;> first | rfl | exact absurd rfl q
      rw [← e]; exact k
  · have e : bet d lo hi = false := by cases hd <;> first | rfl | exact absurd rfl p
    rw [← e]; exact k
theorem ok_row (D : Df K mg "is_row" sis_row ["thing", "many"]) (T : Txt K mg) : Cl P w K mg base 1 "is_row" (spRow K) := by
  refine D.ok scis_row (fun vs H Q E h => ?_) (fun f cdv A outer s H vs Q E hr h => ?_)
  · obtain ⟨x, d, n, rfl, _⟩ := h
    rfl
  obtain ⟨x, d, n, rfl, hd, k⟩ := h
  refine ⟨_, -- return isinstance(thing, tuple) and len(thing) == many
    (pss_one (ps_ret (pe_and (pe_callB call_isTup (by rfl) T.m_isinstance (by decide +kernel) (pa_cons (pv 0) (pa_cons (pe_bltn (v := .ty "tuple") (u := .type "tuple") (by rfl) T.m_tuple (by decide +kernel) rfl) pa_nil))) (pe_one (pe_cmpR op_eq (pe_callB call_len_seq (by rfl) T.m_len PySem.boot_len (pa_cons (pv 0) pa_nil)) (pv 1) (nomark _)))))), ?_⟩
  refine ⟨_, rfl, _, d, rfl, hd, _, rfl, ite2 (fun p => ?_) fun p => ?_⟩
  · cases hd with
    | @tup a xs ds sq al =>
      refine ⟨_, rfl, _, _, rfl, .inr sq, _, rfl, ?_⟩
      refine ⟨rfl, ?_⟩
      have k' : Q (.bl (decide (ds.length = n))) H := k
      rw [← DpAll.len al, ← dec_nat] at k'
      exact k'
    | bl b => cases p
    | non => cases p
    | str s => cases p
    | lst a b => cases p
    | int i => cases p
  · have e : rowN n d = false := by cases hd <;> first | rfl | exact absurd rfl p
    rw [e] at k; exact k
theorem ok_coord (D : Df K mg "is_coordinate" sis_coordinate ["thing"]) (T : Txt K mg) (cis_between : Cl P w K mg base 1 "is_between" (spBetween K)) : Cl P w K mg base 2 "is_coordinate" (spCoord K) := by
  refine D.ok scis_coordinate (fun vs H Q E h => ?_) (fun f cdv A outer s H vs Q E hr h => ?_)
  · obtain ⟨x, d, rfl, _⟩ := h
    rfl
  obtain ⟨x, d, rfl, hd, k⟩ := h
  obtain ⟨_, mFARTHEST⟩ := T.mFARTHESTx
  refine ⟨_, -- return is_between(thing, -FARTHEST, FARTHEST)
    (pss_one (ps_ret (pe_cl cis_between (hr.mono (by first | decide | omega)) rfl (pa_cons (pv 0) (pa_cons (pe_un un_neg (pe_glob (v := .int 10000) rfl mFARTHEST ⟨_, rfl⟩)) (pa_cons (pe_glob (v := .int 10000) rfl mFARTHEST ⟨_, rfl⟩) pa_nil)))))), ?_⟩
  exact ⟨_, rfl, _, rfl, x, d, _, _, rfl, hd, k⟩
def spMoment (K : PySem.W.Frag) : Sp := fun vs H Q _ => ∃ (x : V) (d : PyData), vs = [x] ∧ Dp K H x d ∧ Q (.bl (bet d 0 1000000000)) H
theorem ok_moment (D : Df K mg "is_moment" sis_moment ["thing"]) (T : Txt K mg) (cis_between : Cl P w K mg base 1 "is_between" (spBetween K)) : Cl P w K mg base 2 "is_moment" (spMoment K) := by
  refine D.ok scis_moment (fun vs H Q E h => ?_) (fun f cdv A outer s H vs Q E hr h => ?_)
  · obtain ⟨x, d, rfl, _⟩ := h
    rfl
  obtain ⟨x, d, rfl, hd, k⟩ := h
  obtain ⟨_, mLAST_MOMENT⟩ := T.mLAST_MOMENTx
  refine ⟨_, -- return is_between(thing, 0, LAST_MOMENT)
    (pss_one (ps_ret (pe_cl cis_between (hr.mono (by first | decide | omega)) rfl (pa_cons (pv 0) (pa_cons pe_int (pa_cons (pe_glob (v := .int 1000000000) rfl mLAST_MOMENT ⟨_, rfl⟩) pa_nil)))))), ?_⟩
  exact ⟨_, rfl, x, d, _, _, rfl, hd, k⟩
theorem ok_touch (D : Df K mg "is_touch" sis_touch ["thing"]) (T : Txt K mg) (cis_row : Cl P w K mg base 1 "is_row" (spRow K)) (cis_between : Cl P w K mg base 1 "is_between" (spBetween K)) (cis_coordinate : Cl P w K mg base 2 "is_coordinate" (spCoord K)) (cis_moment : Cl P w K mg base 2 "is_moment" (spMoment K)) : Cl P w K mg base 3 "is_touch" (spTouch K) := by
  refine D.ok scis_touch (fun vs H Q E h => ?_) (fun f cdv A outer s H vs Q E hr h => ?_)
  · obtain ⟨x, d, rfl, _⟩ := h
    rfl
  obtain ⟨x, d, rfl, hd, k⟩ := h
  obtain ⟨aTOUCH_WORDS, mTOUCH_WORDS, qW⟩ := T.mTOUCH_WORDSx
  obtain ⟨_, mLAST_FINGER⟩ := T.mLAST_FINGERx
  refine ⟨_, -- if not is_row(thing, 5):
    (pss_cons (ps_if (pt_not (pt_val (pe_cl cis_row (hr.mono (by first | decide | omega)) rfl (pa_cons (pv 0) (pa_cons pe_int pa_nil)))))
      (pss_one (ps_ret pe_bl))
      pss_nil)
    (pss_cons (ps_asg (pv 0) (pg_tup rfl (pgs_cons (pg_name (i := 1) scis_touch.nd rfl (Or.inl rfl)) (pgs_cons (pg_name (i := 2) scis_touch.nd rfl (Or.inl rfl)) (pgs_cons (pg_name (i := 3) scis_touch.nd rfl (Or.inl rfl)) (pgs_cons (pg_name (i := 4) scis_touch.nd rfl (Or.inl rfl)) (pgs_cons (pg_name (i := 5) scis_touch.nd rfl (Or.inl rfl)) pgs_nil)))))))
    (pss_cons (ps_if (PW.pt (pw_or (pt_not (pt_val (pe_cl cis_moment (hr.mono (by first | decide | omega)) rfl (pa_cons (pv 1) pa_nil)))) (pw_or1 (pt_not (pt_val (pe_cl cis_between (hr.mono (by first | decide | omega)) rfl (pa_cons (pv 2) (pa_cons pe_int (pa_cons (pe_glob (v := .int 9) rfl mLAST_FINGER ⟨_, rfl⟩) pa_nil)))))))))
      (pss_one (ps_ret pe_bl))
      pss_nil)
    (pss_one (ps_ret (pe_and (pe_cmpR (op_inT (hin_of hr)) (pv 3) (pe_glob (v := .ref aTOUCH_WORDS) rfl mTOUCH_WORDS rfl) (by with_unfolding_all rfl)) (pe_and (pe_cl cis_coordinate (hr.mono (by first | decide | omega)) rfl (pa_cons (pv 4) pa_nil)) (pe_one (pe_cl cis_coordinate (hr.mono (by first | decide | omega)) rfl (pa_cons (pv 5) pa_nil)))))))))), ?_⟩
  refine ⟨_, rfl, x, d, 5, rfl, hd, _, rfl, ite2 (fun p => ?_) fun p => ?_⟩
  · rw [isT_row (by simpa using p)] at k
    exact k
  obtain ⟨a, b, c, e, f', rfl⟩ := rowN_five (by simpa using p)
  obtain ⟨t, xs, rfl, hx, al⟩ := Dp.tupOf hd
  obtain ⟨u1, u2, u3, u4, u5, rfl, h1, h2, h3, h4, h5⟩ := DpAll.five al
  refine ⟨_, rfl, t, _, rfl, hx, rfl, _, _, rfl, _, _, rfl, _, _, rfl, _, _, rfl, _, _, rfl, rfl, ?_⟩
  have k' : Q (.bl (bet a 0 1000000000 && (bet b 0 9 && (inL wordsT c && (bet e (-10000) 10000 && bet f' (-10000) 10000))))) H := k
  have W : Dp K H (.ref aTOUCH_WORDS) (.tuple (wordsT.map PyData.str)) := .tup (qW H) (dp_strs wordsT)
  refine ⟨_, rfl, u1, a, rfl, h1, _, rfl, ite2 (fun p1 => ?_) fun p1 => ?_⟩
  · rw [show bet a 0 1000000000 = false by simpa using p1] at k'
    exact k'
  rw [show bet a 0 1000000000 = true by simpa using p1, Bool.true_and] at k'
  refine ⟨_, rfl, u2, b, _, _, rfl, h2, _, rfl, ite2 (fun p2 => ?_) fun p2 => ?_⟩
  · rw [show bet b 0 9 = false by simpa using p2] at k'
    exact k'
  rw [show bet b 0 9 = true by simpa using p2, Bool.true_and] at k'
  refine ⟨_, rfl, _, _, h3, W, Dp.plain h3, rfl, Nat.zero_le _, _, rfl, ite2 (fun q => ?_) fun q => ?_⟩
  · rw [show inL wordsT c = true by simpa [inL] using q, Bool.true_and] at k'
    refine ⟨_, rfl, u4, e, rfl, h4, _, rfl, ite2 (fun q2 => ?_) fun q2 => ?_⟩
    · rw [show bet e (-10000) 10000 = true from q2, Bool.true_and] at k'
      exact ⟨_, rfl, u5, f', rfl, h5, k'⟩
    · rw [show bet e (-10000) 10000 = false by simpa using q2] at k'
      exact k'
  · rw [show inL wordsT c = false by simpa [inL] using q] at k'
    exact k'
theorem inL_no {ss : List Str} {d : PyData} (h : d.isStr = false) : inL ss d = false := by
  cases e : inL ss d with
  | false => rfl
  | true =>
    obtain ⟨s, _, rfl⟩ := inL_str e
    cases h
theorem at5_0 {a b c d e : V} : atI [a, b, c, d, e] 0 = some a := atI_nat (j := 0) rfl
theorem at5_1 {a b c d e : V} : atI [a, b, c, d, e] 1 = some b := atI_nat (j := 1) rfl
theorem at5_2 {a b c d e : V} : atI [a, b, c, d, e] 2 = some c := atI_nat (j := 2) rfl
theorem at5_3 {a b c d e : V} : atI [a, b, c, d, e] 3 = some d := atI_nat (j := 3) rfl
theorem at5_4 {a b c d e : V} : atI [a, b, c, d, e] 4 = some e := atI_nat (j := 4) rfl
end
end SG
namespace SG
open PySem PySem.Spec PyProof.Rows L2 TL
def spNum : Sp := fun vs H Q _ => ∃ z : Str, vs = [.str z] ∧ z.length ≤ 100000 ∧ ∀ H', Same H H' → Q (.bl (isNum z)) H'
def spRowsOf (K : PySem.W.Frag) (C : Addr) : Sp := fun vs H Q E => ∃ (x : V) (d : PyData), vs = [x] ∧ Dp K H x d ∧
  (∀ z, d = .str z → z.length ≤ 100000 ∧ ∀ p, H p = none → Q (.ref p) (upd H p (.lst ((rowsOf z).map V.str)))) ∧ (d.isStr = false → ∀ e, H e = none → E (.ref C) (some e) (upd H e (.xd [("row", .int 0)])))
def spFields : Sp := fun vs H Q _ => ∃ r : Str, vs = [.str r] ∧ r.length ≤ 100000 ∧ ∀ p H', Same H H' → H p = none → H' p = some (.lst ((Txt.split r " ").map fldV)) → Q (.ref p) H'
/-- what a row is, where it is a touch -/
def spTouchOf (K : PySem.W.Frag) : Sp := fun vs H Q _ => ∃ r : Str, vs = [.str r] ∧ r.length ≤ 100000 ∧ (isT (rowD r) = true → ∀ p H', Same H H' → H p = none → Im H' (.ref p) (rowD r) → Q (.ref p) H') ∧ (isT (rowD r) = false → ∀ H', Same H H' → Q .non H')
section
variable {P : Program} {w : World} {K : PySem.W.Frag} {mg : Str → Option Value} {base : Heap}
theorem ok_init {C : Addr} (D : DfE K C "NoText.__init__" s__init__ ["self", "row"]) (T : Txt K mg) (TE : ExK K mg "NoText" "row" C) (vVE : PySem.W.findCls K (.type "ValueError") (.type "type") "__init__" = some (.val (.builtin "ValueError.__init__"))) : MkE P w K mg base 1 "NoText" "row" C := by
  refine D.ok TE sc__init__ rfl (fun f cdv A outer s H vs Q E hr h => ?_)
  obtain ⟨a, v, rfl, ha, k⟩ := h
  refine ⟨_, -- ValueError.__init__(self, row)
    (pss_cons (ps_expr (pe_veinit rfl T.m_ValueError vVE (pa_cons (pv 0) (pa_cons (pv 1) pa_nil))))
    (pss_one (ps_ost (pv 0) (pv 1)))), ?_⟩
  refine ⟨_, rfl, _, rfl, a, C, [v], rfl, (by show 1 ≤ 1000; decide), TE.oex, ha, ?_⟩
  refine ⟨_, rfl, _, rfl, a, C, rfl, TE.oex, TE.nofld, .inl ⟨ha, fun d hd da => k d hd da⟩⟩
theorem ok_number (D : Df K mg "_is_number" s_is_number ["field"]) (T : Txt K mg) : Cl P w K mg base 1 "_is_number" spNum := by
  refine D.ok sc_is_number (fun vs H Q E h => ?_) (fun f cdv A outer s H vs Q E hr h => ?_)
  · obtain ⟨_, rfl, _⟩ := h
    rfl
  obtain ⟨z, rfl, hz, k⟩ := h
  obtain ⟨_, mFIGURES⟩ := T.mFIGURESx
  obtain ⟨_, mMOST_FIGURES⟩ := T.mMOST_FIGURESx
  have big : 100000 ≤ sizeLine := by decide
  refine ⟨_, -- figures = field[1:] if field.startswith('-') else field
    (C8.pss_cut (ps_set (i := 1) sc_is_number.nd rfl (Or.inl rfl) (pe_ifExp (pt_truth (pe_m1 PySem.F.slot_str_startswith PySem.F.type_str_startswith mt_startswith (pv 0) pe_str) (fun _ => rfl)) (pe_slice sl_str (pv 0) (po_some pe_int) po_none) (pv 0)))
    (pss_cons (ps_if (PW.pt (pw_or (pt_not (pt_chain op_le op_le pe_int (pe_callB call_len_str (by rfl) T.m_len PySem.boot_len (pa_cons (pv 1) pa_nil)) (pe_glob (v := .int 10) rfl mMOST_FIGURES ⟨_, rfl⟩))) (pw_or1 (pt_not (pt_val (pe_callB (cr_all rfl) (by rfl) T.m_all (by decide +kernel) (pa_cons (pe_lc (own := [("sign", 2)]) rfl sc_is_number.nd (pi_str (pv 1)) (blkOk_by (N := N_is_number) (sc := defScope s_is_number) (by decide +kernel)) (fun _ _ _ _ _ => (pg_name (i := 2) sc_is_number.nd rfl (Or.inl rfl))) (fun _ _ _ _ _ => pts_nil) (fun _ _ _ _ _ => (pe_cmpR op_in_sign (pv 2) (pe_glob (v := .str "0123456789") rfl mFIGURES ⟨_, rfl⟩) (by with_unfolding_all rfl)))) pa_nil)))))))
      (pss_one (ps_ret pe_bl))
      pss_nil)
    (pss_one (ps_ret (pe_or (pe_cmpR op_ne (pe_ix ix_str (pv 1) pe_int (fun _ _ => rfl)) pe_str (nomark _)) (pe_one (pe_cmpR op_eq (pv 0) pe_str (nomark _)))))))), ?_⟩
  refine ⟨fun σ Hx => σ = [some (.str z), some (.str (figS z)), none] ∧ Hx = H, ?_, ?_⟩
  · refine ⟨_, rfl, ⟨_, rfl⟩, z, _, rfl, rfl, _, rfl, ?_⟩
    rw [starts_neg]
    have e : figS z = if negS z = true then cutS z (some 1) none else z := rfl
    refine ite2 (fun c => ?_) fun c => ?_
    · refine ⟨_, rfl, _, rfl, z, rfl, by omega, ?_⟩
      rw [e, if_pos c]
      exact ⟨rfl, rfl⟩
    · refine ⟨_, rfl, ?_⟩
      rw [e, if_neg c]
      exact ⟨rfl, rfl⟩
  rintro σ Hx ⟨rfl, rfl⟩
  have lf := fig_len z
  have hd0 : ∀ c l, tl (figS z) = c :: l → nul0 (figS z) = decide (c = 48) := fun c l e => by unfold nul0; rw [e]; simp
  refine ⟨_, rfl, figS z, rfl, by omega, _, _, rfl, rfl, _, rfl, ite2 (fun c1 => ?_) fun c1 => ?_⟩
  · refine ⟨_, _, rfl, rfl, _, rfl, ?_⟩
    have l1 : 1 ≤ (figS z).length := by have := of_decide_eq_true c1; omega
    by_cases c2 : ((figS z).length : Int) ≤ 10
    · rw [decide_eq_true c2]
      refine iteF ?_
      refine ⟨_, rfl, figS z, rfl, fun D hD => ?_⟩
      refine lc_mapS (x := figS z) (fun i => .bl (decide ((figS z).cps.getD i 0 ∈ figs))) hD (by show (figS z).length < _; omega) ?_ ?_
      · intro i c Hy N O hc sx kk
        have e : (figS z).cps.getD i 0 = c := by
          rw [Array.getD_eq_getD_getElem?, hc]
          rfl
        rw [e] at kk
        exact ⟨rfl, _, rfl, c, _, rfl, rfl, kk Hy (Same.refl _)⟩
      · intro Hy sx hD'
        have e1 : (List.range (figS z).cps.size).map (fun i => V.bl (decide ((figS z).cps.getD i 0 ∈ figs))) = (((List.range (figS z).cps.size).map fun i => decide ((figS z).cps.getD i 0 ∈ figs))).map V.bl := by rw [List.map_map]; rfl
        rw [e1] at hD'
        have e2 : (((List.range (figS z).cps.size).map fun i => decide ((figS z).cps.getD i 0 ∈ figs))).all id = allFig (figS z) := by
          unfold allFig
          rw [List.all_map]
          have e3 : tl (figS z) = (List.range (figS z).cps.size).map fun i => (figS z).cps.getD i 0 := by
            apply List.ext_getElem
            · simp
            · intro i h1 h2
              simp at h1
              simp [Array.getD, h1]
          rw [e3, List.all_map]
          rfl
        refine ⟨D, _, rfl, SqL.of hD', _, rfl, ?_⟩
        rw [e2]
        have base : isNum z = (allFig (figS z) && (!nul0 (figS z) || decide (z = "0"))) := by
          unfold isNum
          rw [decide_eq_true l1, decide_eq_true (show (figS z).length ≤ 10 by omega)]; rfl
        have kq := k Hy sx
        rw [base] at kq
        cases ha : allFig (figS z) with
        | false =>
          rw [ha] at kq
          exact iteT kq
        | true =>
          rw [ha] at kq
          refine iteF ?_
          obtain ⟨c, l, ecl⟩ : ∃ c l, tl (figS z) = c :: l := by
            cases e : tl (figS z) with
            | nil => rw [len_tl, e] at l1; simp at l1
            | cons c l => exact ⟨c, l, rfl⟩
          have at0 : atI (figS z).cps.toList 0 = some c := by
            show atI (tl (figS z)) 0 = some c
            rw [ecl]; exact atI_nat (j := 0) rfl
          refine ⟨_, rfl, figS z, 0, c, rfl, rfl, by omega, at0, rfl, _, rfl, ?_⟩
          have n0 := hd0 c l ecl
          have ch : decide (V.str ⟨#[c]⟩ = V.str "0") = decide (c = 48) := by
            congr 1; apply propext; constructor
            · intro h; have h2 : (⟨#[c]⟩ : Str) = "0" := by cases h; rfl
              have : tl (⟨#[c]⟩ : Str) = tl ("0" : Str) := by rw [h2]
              have h4 : tl ("0" : Str) = [48] := by decide +kernel
              rw [h4] at this; exact (List.cons.inj this).1
            · rintro rfl; rfl
          rw [n0] at kq
          rw [ch]
          by_cases c0 : c = 48
          · rw [decide_eq_true c0] at kq ⊢
            refine iteF ⟨_, rfl, rfl, ?_⟩
            have ez : decide (V.str z = V.str "0") = decide (z = "0") := by
              congr 1; apply propext
              exact ⟨fun h => (by cases h; rfl), fun h => by rw [h]⟩
            rw [ez]
            exact kq
          · rw [decide_eq_false c0] at kq ⊢
            exact iteT kq
    · rw [decide_eq_false c2]
      refine iteT ?_
      have : isNum z = false := by unfold isNum; rw [decide_eq_false (show ¬ (figS z).length ≤ 10 by omega)]; simp
      have kq := k Hx (Same.refl _)
      rw [this] at kq
      exact kq
  · refine ⟨_, rfl, ?_⟩
    refine iteT ?_
    have l1 : ¬ 1 ≤ (figS z).length := fun h => c1 (decide_eq_true (by omega))
    have : isNum z = false := by unfold isNum; rw [decide_eq_false l1]; simp
    have kq := k Hx (Same.refl _)
    rw [this] at kq
    exact kq
theorem ok_rows {C : Addr} (D : Df K mg "rows_of" srows_of ["text"]) (T : Txt K mg) (cNoText : MkE P w K mg base 1 "NoText" "row" C) : ClX P w K mg base 3 "rows_of" (spRowsOf K C) := by
  refine D.okX scrows_of (fun vs H Q E h => ?_) (fun f cdv A outer s H vs Q E hr h => ?_)
  · obtain ⟨_, _, rfl, _⟩ := h
    rfl
  obtain ⟨x, d, rfl, hx, kq, ke⟩ := h
  have big : 200000 ≤ sizeLine := by decide
  refine ⟨_, -- if not isinstance(text, str):
    (pss_cons (ps_if (pt_not (pt_val (pe_callB call_isStr (by rfl) T.m_isinstance (by decide +kernel) (pa_cons (pv 0) (pa_cons (pe_bltn (v := .ty "str") (u := .type "str") (by rfl) T.m_str (by decide +kernel) rfl) pa_nil)))))
      (pss_one (ps_raise rfl (takes_of rfl rfl rfl rfl) (pmk_E cNoText (hr.mono (by first | decide | omega)) rfl (pa_cons pe_int pa_nil))))
      pss_nil)
    (pss_one (ps_ret (pe_ifExp (pt_truth (pv 0) (fun _ => rfl)) (pe_split (pv 0) pe_str) (pe_lst pa_nil))))), ?_⟩
  refine ⟨_, rfl, x, d, rfl, hx, _, rfl, ?_⟩
  cases hd : d.isStr with
  | false =>
    refine iteT (mkE fun e he => ?_)
    exact ke hd e he
  | true =>
    refine iteF ?_
    cases d with
    | str z =>
      cases hx
      obtain ⟨lz, kz⟩ := kq z rfl
      refine ⟨_, rfl, _, ⟨by omega, rfl⟩, ?_⟩
      by_cases c : z.length = 0
      · have e0 : ((z.length : Int) != 0) = false := by rw [c]; rfl
        rw [e0]
        refine iteF ⟨(by show 0 ≤ sizeLine; decide), fun p hp => ?_⟩
        have := kz p hp
        unfold rowsOf at this
        rw [if_pos c] at this
        exact this
      · have e0 : ((z.length : Int) != 0) = true := by simpa using c
        rw [e0]
        refine iteT ⟨_, rfl, ⟨_, rfl⟩, z, _, rfl, rfl, (by decide +kernel), by omega, fun p hp => ?_⟩
        have := kz p hp
        unfold rowsOf at this
        rw [if_neg c] at this
        exact this
    | _ => cases hd
theorem split_mem_len {r y p : Str} (h : p ∈ Txt.split r y) : p.length ≤ r.length := by
  have := PySem.join_mem_le y (Txt.split r y) p h
  rw [StrLaws.join_split] at this
  exact this
theorem ok_fields (D : Df K mg "fields_of" sfields_of ["row"]) (T : Txt K mg) (c_is_number : Cl P w K mg base 1 "_is_number" spNum) : Cl P w K mg base 2 "fields_of" spFields := by
  refine D.ok scfields_of (fun vs H Q E h => ?_) (fun f cdv A outer s H vs Q E hr h => ?_)
  · obtain ⟨_, rfl, _⟩ := h
    rfl
  obtain ⟨r, rfl, lr, k⟩ := h
  have big : 200000 ≤ sizeLine := by decide
  refine ⟨_, -- return [int(field) if _is_number(field) else field for field in row.split(' ')]
    (pss_one (ps_ret (pe_lc (own := [("field", 1)]) rfl scfields_of.nd (pi_list (pe_split (pv 0) pe_str)) (blkOk_by (N := Nfields_of) (sc := defScope sfields_of) (by decide +kernel)) (fun _ _ _ _ _ => (pg_name (i := 1) scfields_of.nd rfl (Or.inl rfl))) (fun _ _ _ _ _ => pts_nil) (fun _ _ _ _ _ => (pe_ifExp (pt_val (pe_cl c_is_number (hr.mono (by first | decide | omega)) rfl (pa_cons (pv 1) pa_nil))) (pe_callTy call_int_str rfl T.m_int (by decide +kernel) (pa_cons (pv 1) pa_nil)) (pv 1)))))), ?_⟩
  refine ⟨_, rfl, ⟨_, rfl⟩, r, _, rfl, rfl, (by decide +kernel), by omega, ?_⟩
  (intro L L0; generalize hh_ : upd _ L _ = H1; have hL := upd_is hh_; have s1 := same_is hh_ L0; clear hh_)
  refine ⟨L, rfl, ⟨_, SqL.of hL⟩, fun D hD => ?_⟩
  have few : (Txt.split r " ").length ≤ r.length + 2 := PyProof.Rows.split_le r " "
  refine lc_list (K := K) (a := L) (xs := (Txt.split r " ").map V.str) (fun i Hx => Hx D = some (.lst (((Txt.split r " ").take i).map fldV)) ∧ Same H1 Hx) ⟨upd_same, same_new hD⟩ (fun i Hx _ ⟨_, z⟩ => SqL.of (z _ _ hL)) ?_ ?_
  · rintro i v Hx hv ⟨h1, h2⟩
    rw [List.getElem?_map] at hv
    obtain ⟨z, hz, rfl⟩ := Option.map_eq_some_iff.mp hv
    have lz := split_mem_len (List.mem_of_getElem? hz)
    have il := (List.getElem?_eq_some_iff.mp hz).1
    refine ⟨rfl, _, rfl, z, rfl, by omega, fun H2 s2 => ⟨_, rfl, ?_⟩⟩
    have fin : ∃ acc, H2 D = some (.lst acc) ∧ acc.length < sizeLine ∧ (upd H2 D (.lst (acc ++ [fldV z]))) D = some (.lst (((Txt.split r " ").take (i + 1)).map fldV)) ∧ Same H1 (upd H2 D (.lst (acc ++ [fldV z]))) := by
      refine ⟨_, s2 _ _ h1, ?_, ?_, fun p o e => by rw [upd_ne (ne_of_none e hD)]; exact s2 _ _ (h2 _ _ e)⟩
      · rw [List.length_map, List.length_take]; omega
      · rw [upd_same, List.take_succ, hz, List.map_append]; rfl
    cases hn : isNum z with
    | true =>
      refine iteT ⟨_, rfl, z, numV z, rfl, isNum_reads hn, ?_, ?_⟩
      · have := isNum_len hn; omega
      · unfold fldV at fin; rw [if_pos hn] at fin; exact fin
    | false =>
      refine iteF ⟨_, rfl, ?_⟩
      unfold fldV at fin; rw [hn] at fin; exact fin
  · rintro Hx ⟨h1, h2⟩
    rw [List.length_map, List.take_length] at h1
    refine k D Hx (s1.trans h2) ?_ h1
    cases e : H D with
    | none => rfl
    | some o => rw [s1 _ _ e] at hD; cases hD
theorem imall_map {H : Hp} : ∀ ws : List Str, ImAll H (ws.map fldV) (ws.map fldD)
  | [] => .nil
  | z :: ws => .cons (fld_dp z) (imall_map ws)
theorem ok_touch_of (D : Df K mg "touch_of" stouch_of ["row"]) (T : Txt K mg) (cfields_of : Cl P w K mg base 2 "fields_of" spFields) (cis_touch : Cl P w K mg base 3 "is_touch" (spTouch K)) : Cl P w K mg base 4 "touch_of" (spTouchOf K) := by
  refine D.ok sctouch_of (fun vs H Q E h => ?_) (fun f cdv A outer s H vs Q E hr h => ?_)
  · obtain ⟨_, rfl, _⟩ := h
    rfl
  obtain ⟨r, rfl, lr, k1, k2⟩ := h
  refine ⟨_, -- touch = tuple(fields_of(row))
    (pss_cons (ps_set (i := 1) sctouch_of.nd rfl (Or.inl rfl) (pe_tupleOf rfl T.m_tuple (pe_cl cfields_of (hr.mono (by first | decide | omega)) rfl (pa_cons (pv 0) pa_nil))))
    (pss_one (ps_ret (pe_ifExp (pt_val (pe_cl cis_touch (hr.mono (by first | decide | omega)) rfl (pa_cons (pv 1) pa_nil))) (pv 1) pe_non)))), ?_⟩
  refine ⟨_, rfl, r, rfl, lr, fun L H1 s1 L0 hL => ?_⟩
  refine .inl ⟨L, _, rfl, SqL.of hL, ?_⟩
  (intro q q0; generalize hh_ : upd _ q _ = H2; have hq := upd_is hh_; have s2 := same_is hh_ q0; clear hh_)
  have Iq : Im H2 (.ref q) (rowD r) := .tup hq (imall_map _)
  have q00 : H q = none := by
    cases e : H q with
    | none => rfl
    | some o => rw [s1 _ _ e] at q0; cases q0
  refine ⟨_, rfl, _, rowD r, rfl, Iq.dp, _, rfl, ?_⟩
  cases ht : isT (rowD r) with
  | true => exact iteT ⟨_, rfl, k1 ht q H2 (s1.trans s2) q00 Iq⟩
  | false => exact iteF (k2 ht H2 (s1.trans s2))
end
end SG
/-! touches shown as texts and read back: pure -/
namespace SG
open PySem PySem.Spec PyProof.Rows L2 PySem.NumText TL
theorem ImAll.same {H H' : Hp} {vs : List V} {ds : List PyData} (h : ImAll H vs ds) (s : Same H H') : ImAll H' vs ds := ImAll.tp (Tp.same s) h
theorem Im.same {H H' : Hp} {v : V} {d : PyData} (h : Im H v d) (s : Same H H') : Im H' v d := Im.tp (Tp.same s) h
theorem ImAll.app {H : Hp} : ∀ {vs ws : List V} {ds es : List PyData}, ImAll H vs ds → ImAll H ws es → ImAll H (vs ++ ws) (ds ++ es)
  | _, _, _, _, .nil, h => h
  | _, _, _, _, .cons a b, h => .cons a (b.app h)
theorem ImAll.ln {H : Hp} : ∀ {vs : List V} {ds : List PyData}, ImAll H vs ds → vs.length = ds.length
  | _, _, .nil => rfl
  | _, _, .cons _ b => by rw [List.length_cons, List.length_cons, b.ln]
abbrev iT (i : Int) : Str := ((toString i : String) : Str)
theorem head_dig : ∀ (k n : Nat), n < k → 0 < n → (Nat.toDigits 10 n).head? ≠ some '0' := by
  intro k
  induction k with
  | zero => intro n h; omega
  | succ k ih =>
    intro n h h0
    by_cases c : n < 10
    · rw [Nat.toDigits_of_lt_base c]
      have : ∀ d : Nat, d < 10 → 0 < d → [Nat.digitChar d].head? ≠ some '0' := by decide
      exact this n c h0
    · rw [Nat.toDigits_of_base_le (by decide) (by omega)]
      have := ih (n / 10) (by omega) (by omega)
      cases e : Nat.toDigits 10 (n / 10) with
      | nil => have h := toDigits_len_ge 10 (n / 10); rw [e] at h; exact absurd h (by decide)
      | cons a l => rw [e] at this; simpa using this
theorem tl_nat (m : Nat) : tl (iT (m : Int)) = (Nat.toDigits 10 m).map Char.toNat := PySem.W.KIN.signs_num m
theorem tl_neg {i : Int} (h : i < 0) : tl (iT i) = 45 :: (Nat.toDigits 10 i.natAbs).map Char.toNat := by
  cases i with
  | ofNat m => exact absurd h (by simp)
  | negSucc m =>
    have e1 : (toString (Int.negSucc m) : String) = "-" ++ toString ((m + 1 : Nat) : Int) := rfl
    have h2 := tl_nat (m + 1)
    show (Str.ofString (toString (Int.negSucc m))).cps.toList = _
    rw [e1, signs_ofString, String.toList_append, List.map_append]
    have h3 : tl (iT ((m + 1 : Nat) : Int)) = (toString ((m + 1 : Nat) : Int) : String).toList.map Char.toNat := signs_ofString _
    rw [← h3, h2]
    rfl
theorem dig_fig {ch : Char} (h : ch.isDigit = true) : decide (ch.toNat ∈ figs) = true := by
  have r := PyProof.Rows.digit_range h
  rw [figs_is]
  apply decide_eq_true
  simp only [List.mem_cons, List.not_mem_nil, or_false]
  omega
theorem allFig_nat (m : Nat) : ((Nat.toDigits 10 m).map Char.toNat).all (fun c => decide (c ∈ figs)) = true := by
  apply List.all_eq_true.mpr
  intro c hc
  obtain ⟨ch, hch, e⟩ := List.mem_map.mp hc
  rw [← e]
  exact dig_fig (Nat.isDigit_of_mem_toDigits (by decide) (by decide) hch)
theorem head_nat {m : Nat} (h : 0 < m) : ((Nat.toDigits 10 m).map Char.toNat).head? ≠ some 48 := by
  have := head_dig (m + 1) m (by omega) h
  cases e : Nat.toDigits 10 m with
  | nil => rw [List.map_nil]; simp
  | cons a l =>
    rw [e] at this
    simp only [List.map_cons, List.head?_cons]
    intro z
    apply this
    rw [List.head?_cons]
    congr 1
    have : a.toNat = '0'.toNat := Option.some.inj z
    exact Char.toNat_inj.mp this
theorem len_nat {m : Nat} (h : m < 10 ^ 10) : 1 ≤ (Nat.toDigits 10 m).length ∧ (Nat.toDigits 10 m).length ≤ 10 := by
  have a := toDigits_len_ge 10 m
  have b := PySem.W.KT.len_num (n := (m : Int)) (by omega) (by exact_mod_cast h)
  rw [show (PySem.Str.ofString (toString ((m : Nat) : Int))) = iT m from rfl, len_tl, tl_nat, List.length_map] at b
  exact ⟨by omega, b⟩
theorem minus_ne (m : Nat) : ((Nat.toDigits 10 m).map Char.toNat).head? ≠ some 45 := by
  intro z
  cases e : (Nat.toDigits 10 m).map Char.toNat with
  | nil => rw [e] at z; cases z
  | cons a l =>
    have := List.all_eq_true.mp (allFig_nat m) a (by rw [e]; exact List.mem_cons_self ..)
    rw [e] at z
    simp at z
    rw [z, figs_is] at this
    revert this; decide
/-- a whole number's own text is a number, and reads back -/
theorem num_iT {i : Int} (h : i.natAbs < 10 ^ 10) : isNum (iT i) = true ∧ numV (iT i) = i := by
  by_cases c : i < 0
  · have e := tl_neg c
    have nS : negS (iT i) = true := by unfold negS; rw [e]; rfl
    have f : tl (figS (iT i)) = (Nat.toDigits 10 i.natAbs).map Char.toNat := by
      unfold figS
      rw [if_pos nS, cut_rest, e]; rfl
    have l := len_nat h
    have fl : (figS (iT i)).length = (Nat.toDigits 10 i.natAbs).length := by rw [len_tl, f, List.length_map]
    have z0 : nul0 (figS (iT i)) = false := by
      unfold nul0; rw [f]; exact decide_eq_false (head_nat (by omega))
    have af : allFig (figS (iT i)) = true := by unfold allFig; rw [f]; exact allFig_nat _
    have hn : isNum (iT i) = true := by
      unfold isNum
      rw [fl, z0, af, decide_eq_true l.1, decide_eq_true l.2]; rfl
    refine ⟨hn, ?_⟩
    unfold numV
    have dg : AllDigits ((Nat.toDigits 10 i.natAbs).map Char.toNat) := by rw [← f]; exact allFig_digits af
    have := intText_neg (x := iT i) e dg (by intro z; rw [List.map_eq_nil_iff] at z; rw [z] at l; simp at l) (by have := isNum_len hn; omega)
    rw [this, PySem.W.KIN.val_back]
    show -((i.natAbs : Nat) : Int) = i
    omega
  · obtain ⟨m, rfl⟩ := Int.eq_ofNat_of_zero_le (show 0 ≤ i by omega)
    have h' : m < 10 ^ 10 := by simpa using h
    have e := tl_nat m
    have nS : negS (iT (m : Int)) = false := by unfold negS; rw [e]; exact decide_eq_false (minus_ne m)
    have f : figS (iT (m : Int)) = iT (m : Int) := by unfold figS; rw [nS]; rfl
    have l := len_nat h'
    have fl : (iT (m : Int)).length = (Nat.toDigits 10 m).length := by rw [len_tl, e, List.length_map]
    have af : allFig (iT (m : Int)) = true := by unfold allFig; rw [e]; exact allFig_nat _
    have zz : (!nul0 (iT (m : Int)) || decide (iT (m : Int) = "0")) = true := by
      by_cases m0 : m = 0
      · subst m0; decide +kernel
      · have : nul0 (iT (m : Int)) = false := by unfold nul0; rw [e]; exact decide_eq_false (head_nat (by omega))
        rw [this]; rfl
    refine ⟨?_, ?_⟩
    · unfold isNum
      rw [f, fl, zz, af, decide_eq_true l.1, decide_eq_true l.2]; rfl
    · unfold numV
      rw [show iT (m : Int) = PySem.Str.ofString (toString ((m : Nat) : Int)) from rfl, PySem.W.KIN.num_reads (by omega) (by exact_mod_cast h')]; rfl
/-- a field's text -/
def fText : PyData → Str | .int i => iT i | .str s => s | _ => ""
def okF : PyData → Prop | .int i => i.natAbs < 10 ^ 10 | .str s => s ∈ wordsT | _ => False
theorem fld_back {d : PyData} (h : okF d) : fldD (fText d) = d := by
  cases d with
  | int i =>
    have := num_iT h
    show (if isNum (iT i) = true then PyData.int (numV (iT i)) else _) = _
    rw [if_pos this.1, this.2]
  | str s =>
    have : ∀ s ∈ wordsT, fldD (fText (.str s)) = .str s := by
      intro s hs
      have : isNum s = false := by
        have h : wordsT.all (fun s => !isNum s) = true := by decide +kernel
        have := List.all_eq_true.mp h s hs
        simpa using this
      show (if isNum s = true then PyData.int (numV s) else .str s) = _
      rw [this]; rfl
    exact this s h
  | _ => exact h.elim
theorem word_free {s : Str} (h : s ∈ wordsT) : 32 ∉ tl s ∧ 10 ∉ tl s ∧ s.length ≤ 11 := by
  have h0 : wordsT.all (fun s => decide (32 ∉ tl s) && decide (10 ∉ tl s) && decide (s.length ≤ 11)) = true := by decide +kernel
  have := List.all_eq_true.mp h0 s h
  simp only [Bool.and_eq_true, decide_eq_true_eq] at this
  exact ⟨this.1.1, this.1.2, this.2⟩
theorem fText_free {d : PyData} (h : okF d) : 32 ∉ tl (fText d) ∧ 10 ∉ tl (fText d) ∧ (fText d).length ≤ 11 := by
  cases d with
  | int i =>
    refine ⟨int_text_free' 32 ⟨by decide, by decide⟩ i, int_text_free' 10 ⟨by decide, by decide⟩ i, ?_⟩
    exact isNum_len (num_iT h).1
  | str s => exact word_free h
  | _ => exact h.elim
/-- a row of fields, its text -/
def rText : PyData → Str | .tuple ds => Txt.join " " (ds.map fText) | _ => ""
theorem sp_tl : tl (" " : Str) = [32] := by decide +kernel
theorem nl_tl : tl ("\n" : Str) = [10] := by decide +kernel
theorem mem_join {c : Nat} {y : Str} (hy : c ∉ tl y) : ∀ ps : List Str, (∀ p ∈ ps, c ∉ tl p) → c ∉ tl (Str.join y ps)
  | [], _ => by show c ∉ ([] : List Nat); simp
  | [p], h => h p (List.mem_singleton.mpr rfl)
  | p :: q :: r, h => by
    show c ∉ tl (p ++ y ++ Str.join y (q :: r))
    rw [tl_append, tl_append, List.mem_append, List.mem_append]
    intro z
    rcases z with (z | z) | z
    · exact h p (List.mem_cons_self ..) z
    · exact hy z
    · exact mem_join hy (q :: r) (fun x hx => h x (List.mem_cons_of_mem _ hx)) z
theorem join_len {y : Str} {B : Nat} : ∀ ps : List Str, (∀ p ∈ ps, p.length ≤ B) → (Str.join y ps).length ≤ ps.length * (B + y.length)
  | [], _ => by show (0 : Nat) ≤ _; omega
  | [p], h => by
    have := h p (List.mem_singleton.mpr rfl)
    show p.length ≤ 1 * (B + y.length)
    omega
  | p :: q :: r, h => by
    have a := h p (List.mem_cons_self ..)
    have b := join_len (q :: r) (fun x hx => h x (List.mem_cons_of_mem _ hx)) (y := y)
    show (p ++ y ++ Str.join y (q :: r)).length ≤ _
    rw [len_tl, tl_append, tl_append, List.length_append, List.length_append, ← len_tl, ← len_tl, ← len_tl]
    rw [show (p :: q :: r).length = (q :: r).length + 1 from rfl, Nat.add_mul]
    omega
/-- a touch comes back -/
theorem isT_has {d : PyData} (h : isT d = true) : ∃ ds, d = .tuple ds ∧ ds.length = 5 ∧ ∀ f ∈ ds, okF f := by
  unfold isT at h
  split at h
  · rename_i m f w x y
    simp only [Bool.and_eq_true] at h
    obtain ⟨h1, h2, h3, h4, h5⟩ := h
    obtain ⟨s, hs, rfl⟩ := inL_str h3
    have bi : ∀ {d : PyData} {lo hi : Int}, bet d lo hi = true → -10 ^ 9 ≤ lo → hi ≤ 10 ^ 9 → okF d := by
      intro d lo hi hb a b
      unfold bet at hb
      split at hb
      · simp only [Bool.and_eq_true, decide_eq_true_eq] at hb
        show _ < _
        omega
      · cases hb
    refine ⟨_, rfl, rfl, fun z hz => ?_⟩
    simp only [List.mem_cons, List.not_mem_nil, or_false] at hz
    rcases hz with rfl | rfl | rfl | rfl | rfl
    · exact bi h1 (by decide) (by decide)
    · exact bi h2 (by decide) (by decide)
    · exact hs
    · exact bi h4 (by decide) (by decide)
    · exact bi h5 (by decide) (by decide)
  · cases h
theorem row_back {d : PyData} (h : isT d = true) : rowD (rText d) = d ∧ 10 ∉ tl (rText d) ∧ (rText d).length ≤ 60 ∧ 4 ≤ (rText d).length := by
  obtain ⟨ds, rfl, l, ok⟩ := isT_has h
  have ne : ds.map fText ≠ [] := fun e => by rw [List.map_eq_nil_iff.mp e] at l; cases l
  have fr : ∀ p ∈ ds.map fText, 32 ∉ tl p ∧ 10 ∉ tl p ∧ p.length ≤ 11 := by
    intro p hp
    obtain ⟨f, hf, rfl⟩ := List.mem_map.mp hp
    exact fText_free (ok f hf)
  refine ⟨?_, ?_, ?_, ?_⟩
  · show PyData.tuple ((Txt.split (Txt.join " " (ds.map fText)) " ").map fldD) = _
    rw [split_join sp_tl (by decide +kernel) ne (fun p hp => (fr p hp).1), List.map_map]
    congr 1
    have : ∀ f ∈ ds, (fldD ∘ fText) f = f := fun f hf => fld_back (ok f hf)
    calc ds.map (fldD ∘ fText) = ds.map id := List.map_congr_left this
      _ = ds := List.map_id ds
  · show 10 ∉ tl (Txt.join " " (ds.map fText))
    rw [join_eq]
    exact mem_join (by rw [sp_tl]; decide) _ fun p hp => (fr p hp).2.1
  · show (Txt.join " " (ds.map fText)).length ≤ 60
    rw [join_eq]
    have := join_len (y := " ") (B := 11) (ds.map fText) (fun p hp => (fr p hp).2.2)
    rw [List.length_map, l, show (" " : Str).length = 1 from by decide +kernel] at this
    exact this
  · show 4 ≤ (Txt.join " " (ds.map fText)).length
    rw [join_eq]
    match ds, l with
    | [a, b, c, e, f], _ =>
      show 4 ≤ (fText a ++ " " ++ (fText b ++ " " ++ (fText c ++ " " ++ (fText e ++ " " ++ fText f))) : Str).length
      rw [len_tl]
      simp only [tl_append, List.length_append, sp_tl, List.length_cons, List.length_nil]
      omega
/-- all touches, shown -/
def tsText (ds : List PyData) : Str := Txt.join "\n" (ds.map rText)
theorem ts_back {ds : List PyData} (h : ∀ d ∈ ds, isT d = true) : (rowsOf (tsText ds)).map rowD = ds ∧ (tsText ds).length ≤ ds.length * 61 := by
  refine ⟨?_, ?_⟩
  · unfold rowsOf tsText
    cases ds with
    | nil => rfl
    | cons d r =>
      have ne : (d :: r).map rText ≠ [] := by simp
      have l4 := (row_back (h d (List.mem_cons_self ..))).2.2.2
      have l5 : ¬ (Txt.join "\n" ((d :: r).map rText)).length = 0 := by
        rw [join_eq]
        have := PySem.join_mem_le "\n" ((d :: r).map rText) (rText d) (by simp)
        omega
      rw [if_neg l5, split_join nl_tl (by decide +kernel) ne ?_, List.map_map]
      · have : ∀ f ∈ (d :: r), (rowD ∘ rText) f = f := fun f hf => (row_back (h f hf)).1
        calc (d :: r).map (rowD ∘ rText) = (d :: r).map id := List.map_congr_left this
          _ = _ := List.map_id _
      · intro p hp
        obtain ⟨f, hf, rfl⟩ := List.mem_map.mp hp
        exact (row_back (h f hf)).2.1
  · unfold tsText
    rw [join_eq]
    have := join_len (y := "\n") (B := 60) (ds.map rText) (by
      intro p hp
      obtain ⟨f, hf, rfl⟩ := List.mem_map.mp hp
      exact (row_back (h f hf)).2.2.1)
    rw [List.length_map, show ("\n" : Str).length = 1 from by decide +kernel] at this
    exact this
/-! the reader's answer -/
/-- the first row that is no touch -/
def badAt : List Str → Nat → Option Nat
  | [], _ => none
  | r :: rs, i => if isT (rowD r) = true then badAt rs (i + 1) else some i
def ansR (rs : List Str) : PyData := match badAt rs 0 with | some i => .tuple [.int (i : Int)] | none => .list (rs.map rowD)
def ansD : PyData → PyData
  | .str z => ansR (rowsOf z)
  | _ => .tuple [.int 0]
theorem badAt_take {rs : List Str} : ∀ {k : Nat} {i : Nat}, (∀ j, j < i → ∀ r, rs[j]? = some r → isT (rowD r) = true) → badAt rs k = badAt (rs.drop i) (k + i) := by
  induction rs with
  | nil => intro k i _; simp [badAt]
  | cons a l ih =>
    intro k i h
    cases i with
    | zero => rfl
    | succ i =>
      have ha := h 0 (by omega) a rfl
      have := ih (k := k + 1) (i := i) (fun j hj r hr => h (j + 1) (by omega) r hr)
      rw [List.drop_succ_cons]
      have st : badAt (a :: l) k = badAt l (k + 1) := if_pos ha
      rw [st, this, show k + 1 + i = k + (i + 1) by omega]
theorem ts_ans {ds : List PyData} (h : ∀ d ∈ ds, isT d = true) : ansD (.str (tsText ds)) = .list ds := by
  have b := (ts_back h).1
  show ansR (rowsOf (tsText ds)) = _
  unfold ansR
  have : badAt (rowsOf (tsText ds)) 0 = none := by
    rw [badAt_take (i := (rowsOf (tsText ds)).length) ?_]
    · rw [List.drop_length]; rfl
    · intro j _ r hr
      have hm : rowD r ∈ ds := by rw [← b]; exact List.mem_map_of_mem (List.mem_of_getElem? hr)
      exact h _ hm
  rw [this, b]
/-! comprehensions that map a list or a tuple to texts -/
section
variable {K : PySem.W.Frag} {a : Addr} {xs : List V} {g : TG} {te : TE} {vs : List Nat} {σ : L2.St} {H : Hp} {D : Addr} {Qd : Hp → Prop}
theorem lc_txL (ys : List Str) (hl : ys.length = xs.length) (D0 : H D = none) (hq : SqL K H a xs) (few : xs.length < 100000)
    (hs : ∀ (i : Nat) (v : V) (z : Str) (Hx : Hp) (N : V → Hp → Prop), xs[i]? = some v → ys[i]? = some z → Same H Hx → (∀ H4, Same Hx H4 → N (.str z) H4) → g v (wipe σ vs) Hx fun σ2 H2 => wipe σ2 vs = wipe σ vs ∧ te σ2 H2 N)
    (hd : ∀ Hx, Same H Hx → Hx D = some (.lst (ys.map V.str)) → Qd Hx) :
    ∃ W : Nat → Nat → Hp → Prop, (∃ m, W 0 m (upd H D (.lst []))) ∧ ∀ i m H, W i m H →
      ((Itl K a).stop i H ∧ Qd H) ∨ ((Itl K a).go i H ∧ ∃ Nx : Hp → Prop, (∀ H', Nx H' → ∃ m', m' < m ∧ W (i + 1) m' H') ∧ ∀ x H', (Itl K a).yld i H x H' → g x (wipe σ vs) H' fun σ2 H2 => wipe σ2 vs = wipe σ vs ∧ tYes σ2 H2 fun b H3 =>
        if b = true then te σ2 H3 fun y H4 => ∃ acc, H4 D = some (.lst acc) ∧ acc.length < sizeLine ∧ Nx (upd H4 D (.lst (acc ++ [y]))) else Nx H3) := by
  refine lc_list (K := K) (a := a) (xs := xs) (fun i Hx => Hx D = some (.lst ((ys.take i).map V.str)) ∧ Same H Hx) ⟨upd_same, same_new D0⟩ (fun i Hx _ ⟨_, sx⟩ => same_sqL sx hq) ?_ ?_
  · rintro i v Hx hv ⟨h1, sx⟩
    have il := (List.getElem?_eq_some_iff.mp hv).1
    obtain ⟨z, hz⟩ : ∃ z, ys[i]? = some z := ⟨_, List.getElem?_eq_getElem (by omega)⟩
    refine hs i v z Hx _ hv hz sx (fun H4 s4 => ?_)
    refine ⟨_, s4 _ _ h1, Nat.lt_of_le_of_lt (by rw [List.length_map, List.length_take]; omega : _ ≤ 100000) (by decide), ?_, fun p o e => ?_⟩
    · rw [upd_same, List.take_succ, hz, List.map_append]; rfl
    · rw [upd_ne (ne_of_none e D0)]
      exact s4 _ _ (sx _ _ e)
  · rintro Hx ⟨h1, sx⟩
    rw [← hl, List.take_length] at h1
    exact hd Hx sx h1
theorem lc_txT (ys : List Str) (hl : ys.length = xs.length) (D0 : H D = none) (hq : SqT K H a xs) (few : xs.length < 100000)
    (hs : ∀ (i : Nat) (v : V) (z : Str) (Hx : Hp) (N : V → Hp → Prop), xs[i]? = some v → ys[i]? = some z → Same H Hx → (∀ H4, Same Hx H4 → N (.str z) H4) → g v (wipe σ vs) Hx fun σ2 H2 => wipe σ2 vs = wipe σ vs ∧ te σ2 H2 N)
    (hd : ∀ Hx, Same H Hx → Hx D = some (.lst (ys.map V.str)) → Qd Hx) :
    ∃ W : Nat → Nat → Hp → Prop, (∃ m, W 0 m (upd H D (.lst []))) ∧ ∀ i m H, W i m H →
      ((Itt K a).stop i H ∧ Qd H) ∨ ((Itt K a).go i H ∧ ∃ Nx : Hp → Prop, (∀ H', Nx H' → ∃ m', m' < m ∧ W (i + 1) m' H') ∧ ∀ x H', (Itt K a).yld i H x H' → g x (wipe σ vs) H' fun σ2 H2 => wipe σ2 vs = wipe σ vs ∧ tYes σ2 H2 fun b H3 =>
        if b = true then te σ2 H3 fun y H4 => ∃ acc, H4 D = some (.lst acc) ∧ acc.length < sizeLine ∧ Nx (upd H4 D (.lst (acc ++ [y]))) else Nx H3) := by
  refine lc_tup (K := K) (a := a) (xs := xs) (fun i Hx => Hx D = some (.lst ((ys.take i).map V.str)) ∧ Same H Hx) ⟨upd_same, same_new D0⟩ (fun i Hx _ ⟨_, sx⟩ => same_sqT sx hq) ?_ ?_
  · rintro i v Hx hv ⟨h1, sx⟩
    have il := (List.getElem?_eq_some_iff.mp hv).1
    obtain ⟨z, hz⟩ : ∃ z, ys[i]? = some z := ⟨_, List.getElem?_eq_getElem (by omega)⟩
    refine hs i v z Hx _ hv hz sx (fun H4 s4 => ?_)
    refine ⟨_, s4 _ _ h1, Nat.lt_of_le_of_lt (by rw [List.length_map, List.length_take]; omega : _ ≤ 100000) (by decide), ?_, fun p o e => ?_⟩
    · rw [upd_same, List.take_succ, hz, List.map_append]; rfl
    · rw [upd_ne (ne_of_none e D0)]
      exact s4 _ _ (sx _ _ e)
  · rintro Hx ⟨h1, sx⟩
    rw [← hl, List.take_length] at h1
    exact hd Hx sx h1
end
theorem sum_lens {B : Nat} {ys : List Str} (h : ∀ p ∈ ys, p.length ≤ B) (y : Str) (n : ys.length ≤ 1000) (b : B + y.length ≤ 10000) : (ys.map (·.length)).sum + ys.length * y.length ≤ 16777216 := by
  have := PySem.StrLaws.sumLen_le ys h
  have e : ys.length * B + ys.length * y.length ≤ 1000 * 10000 := by rw [← Nat.mul_add]; exact Nat.mul_le_mul n b
  omega
end SG
namespace SG
open PySem PySem.Spec PyProof.Rows L2 TL
def spRowText (K : PySem.W.Frag) : Sp := fun vs H Q _ => ∃ (x : V) (ds : List PyData), vs = [x] ∧ Im H x (.tuple ds) ∧ ds.length ≤ 5 ∧ (∀ d ∈ ds, okF d) ∧ ∀ H', Same H H' → Q (.str (rText (.tuple ds))) H'
def spShow (K : PySem.W.Frag) : Sp := fun vs H Q _ => ∃ (p : Addr) (xs : List V) (ds : List PyData), vs = [.ref p] ∧ SqL K H p xs ∧ ImAll H xs ds ∧ ds.length ≤ 200 ∧ (∀ d ∈ ds, isT d = true) ∧ ∀ H', Same H H' → Q (.str (tsText ds)) H'
def spRead (K : PySem.W.Frag) (C : Addr) : Sp := fun vs H Q E => ∃ (x : V) (d : PyData), vs = [x] ∧ Dp K H x d ∧ (∀ z, d = .str z → z.length ≤ 100000) ∧
  (∀ z, d = .str z → badAt (rowsOf z) 0 = none → ∀ p xs H', Same H H' → H p = none → H' p = some (.lst xs) → ImAll H' xs ((rowsOf z).map rowD) → Q (.ref p) H') ∧
  (∀ i : Nat, ansD d = .tuple [.int (i : Int)] → ∀ e H', Same H H' → H e = none → H' e = some (.xd [("row", .int (i : Int))]) → E (.ref C) (some e) H')
section
variable {P : Program} {w : World} {K : PySem.W.Frag} {mg : Str → Option Value} {base : Heap}
theorem ImAll.at {H : Hp} : ∀ {vs : List V} {ds : List PyData} {i : Nat} {v : V} {d : PyData}, ImAll H vs ds → vs[i]? = some v → ds[i]? = some d → Im H v d
  | _, _, 0, _, _, .cons a _, h, g => by cases h; cases g; exact a
  | _, _, i + 1, _, _, .cons _ b, h, g => ImAll.at b h g
  | _, _, _, _, _, .nil, h, _ => by cases h
theorem log_small {i : Int} (h : i.natAbs < 10 ^ 10) : i.natAbs.log2 < 1920 := by
  by_cases c : i.natAbs = 0
  · rw [c]; decide
  · exact (Nat.log2_lt c).mpr (Nat.lt_of_lt_of_le h (by decide +kernel))
theorem ok_row_of (D : Df K mg "row_of" srow_of ["fields"]) (T : Txt K mg) : Cl P w K mg base 1 "row_of" (spRowText K) := by
  refine D.ok scrow_of (fun vs H Q E h => ?_) (fun f cdv A outer s H vs Q E hr h => ?_)
  · obtain ⟨_, _, rfl, _⟩ := h
    rfl
  obtain ⟨x, ds, rfl, hx, l5, ok, k⟩ := h
  refine ⟨_, -- return ' '.join([str(field) for field in fields])
    (pss_one (ps_ret (pe_join pe_str (pe_lc (own := [("field", 1)]) rfl scrow_of.nd (pi_tup (pv 0)) (blkOk_by (N := Nrow_of) (sc := defScope srow_of) (by decide +kernel)) (fun _ _ _ _ _ => (pg_name (i := 1) scrow_of.nd rfl (Or.inl rfl))) (fun _ _ _ _ _ => pts_nil) (fun _ _ _ _ _ => (pe_callTy call_strIS (by rfl) T.m_str (by decide +kernel) (pa_cons (pv 1) pa_nil))))))), ?_⟩
  cases hx with
  | @tup a xs _ ha im =>
  refine ⟨⟨_, rfl⟩, _, rfl, a, rfl, ⟨xs, SqT.of ha⟩, fun D0 hD => ?_⟩
  have ln := ImAll.ln im
  refine lc_txT (K := K) (a := a) (xs := xs) (ys := ds.map fText) (by rw [List.length_map]; exact ln.symm) hD (SqT.of ha) (by omega) ?_ ?_
  · intro i v z Hx N hv hz sx kN
    rw [List.getElem?_map] at hz
    obtain ⟨d, hd, rfl⟩ := Option.map_eq_some_iff.mp hz
    refine ⟨rfl, _, rfl, ?_⟩
    have iv := ImAll.at im hv hd
    have od := ok d (List.mem_of_getElem? hd)
    cases d with
    | int i =>
      cases iv
      exact .inl ⟨i, rfl, log_small od, kN Hx (Same.refl _)⟩
    | str s =>
      cases iv
      exact .inr ⟨s, rfl, kN Hx (Same.refl _)⟩
    | _ => exact od.elim
  · intro Hx sx hx
    refine ⟨" ", D0, ds.map fText, rfl, rfl, .inl (SqL.of hx), sum_lens (B := 11) ?_ " " (by rw [List.length_map]; omega) (by decide +kernel), k Hx sx⟩
    intro p hp
    obtain ⟨f, hf, rfl⟩ := List.mem_map.mp hp
    exact (fText_free (ok f hf)).2.2
theorem ok_show (D : Df K mg "show_touches" sshow_touches ["touches"]) (T : Txt K mg) (crow_of : Cl P w K mg base 1 "row_of" (spRowText K)) : Cl P w K mg base 2 "show_touches" (spShow K) := by
  refine D.ok scshow_touches (fun vs H Q E h => ?_) (fun f cdv A outer s H vs Q E hr h => ?_)
  · obtain ⟨_, _, _, rfl, _⟩ := h
    rfl
  obtain ⟨p, xs, ds, rfl, hp, im, l5, ok, k⟩ := h
  refine ⟨_, -- return '\n'.join([row_of(touch) for touch in touches])
    (pss_one (ps_ret (pe_join pe_str (pe_lc (own := [("touch", 1)]) rfl scshow_touches.nd (pi_list (pv 0)) (blkOk_by (N := Nshow_touches) (sc := defScope sshow_touches) (by decide +kernel)) (fun _ _ _ _ _ => (pg_name (i := 1) scshow_touches.nd rfl (Or.inl rfl))) (fun _ _ _ _ _ => pts_nil) (fun _ _ _ _ _ => (pe_cl crow_of (hr.mono (by first | decide | omega)) rfl (pa_cons (pv 1) pa_nil))))))), ?_⟩
  refine ⟨⟨_, rfl⟩, _, rfl, p, rfl, ⟨xs, hp⟩, fun D0 hD => ?_⟩
  have ln := ImAll.ln im
  refine lc_txL (K := K) (a := p) (xs := xs) (ys := ds.map rText) (by rw [List.length_map]; exact ln.symm) hD hp (by omega) ?_ ?_
  · intro i v z Hx N hv hz sx kN
    rw [List.getElem?_map] at hz
    obtain ⟨d, hd, rfl⟩ := Option.map_eq_some_iff.mp hz
    refine ⟨rfl, _, rfl, ?_⟩
    have iv := ImAll.at im hv hd
    obtain ⟨fs, rfl, l5, of⟩ := isT_has (ok d (List.mem_of_getElem? hd))
    exact ⟨v, fs, rfl, Im.same iv sx, by omega, of, fun H4 s4 => kN H4 s4⟩
  · intro Hx sx hx
    refine ⟨"\n", D0, ds.map rText, rfl, rfl, .inl (SqL.of hx), sum_lens (B := 60) ?_ "\n" (by rw [List.length_map]; omega) (by decide +kernel), k Hx sx⟩
    intro p hp
    obtain ⟨f, hf, rfl⟩ := List.mem_map.mp hp
    exact (row_back (ok f hf)).2.2.1
theorem ok_read {C : Addr} (D : Df K mg "read_touches" sread_touches ["text"]) (T : Txt K mg) (cNoText : MkE P w K mg base 1 "NoText" "row" C) (crows_of : ClX P w K mg base 3 "rows_of" (spRowsOf K C)) (ctouch_of : Cl P w K mg base 4 "touch_of" (spTouchOf K)) : ClX P w K mg base 5 "read_touches" (spRead K C) := by
  refine D.okX scread_touches (fun vs H Q E h => ?_) (fun f cdv A outer s H vs Q E hr h => ?_)
  · obtain ⟨_, _, rfl, _⟩ := h
    rfl
  obtain ⟨x, d, rfl, hx, lz, kq, ke⟩ := h
  refine ⟨_, -- touches = []
    (pss_cons (ps_set (i := 1) scread_touches.nd rfl (Or.inl rfl) (pe_lst pa_nil))
    (pss_cons (ps_for (passes_of rfl) rfl (pi_enum rfl T.m_enumerate (pa_cons (pe_clX crows_of (takes_of rfl rfl rfl rfl) (hr.mono (by first | decide | omega)) rfl (pa_cons (pv 0) pa_nil)) pa_nil)) (pg_tup rfl (pgs_cons (pg_name (i := 2) scread_touches.nd rfl (Or.inl rfl)) (pgs_cons (pg_name (i := 3) scread_touches.nd rfl (Or.inl rfl)) pgs_nil)))
      (pss_cons (ps_set (i := 4) scread_touches.nd rfl (Or.inl rfl) (pe_cl ctouch_of (hr.mono (by first | decide | omega)) rfl (pa_cons (pv 3) pa_nil)))
      (pss_cons (ps_if (pt_cmp (pc_isN (pv 4)))
        (pss_one (ps_raise rfl (takes_of rfl rfl rfl rfl) (pmk_E cNoText (hr.mono (by first | decide | omega)) rfl (pa_cons (pv 2) pa_nil))))
        pss_nil)
      (pss_one (ps_expr (pe_bm PySem.F.plainAttrs_list PySem.F.slot_list_append PySem.F.type_list_append mt_append (pv 1) (pa_cons (pv 4) pa_nil)))))))
    (pss_one (ps_ret (pv 1))))), ?_⟩
  refine ⟨(by show 0 ≤ sizeLine; decide), fun b hb => ?_⟩
  have sb := same_new (o := .lst []) hb
  generalize hH1 : upd H b (.lst []) = H1 at sb
  have eb : H1 b = some (.lst []) := upd_is hH1
  refine ⟨_, rfl, x, d, rfl, Dp.same sb hx, fun z hz => ?_, fun hd e he => ?_⟩
  · subst hz
    cases hx
    refine ⟨lz z rfl, ?_⟩
    (intro L L0; generalize hh_ : upd _ L _ = H2; have hL2 := upd_is hh_; have s2 := same_is hh_ L0; clear hh_)
    have lb : b ≠ L := fun e => by subst e; rw [eb] at L0; cases L0
    have b2 : H2 b = some (.lst []) := s2 _ _ eb
    refine ⟨L, _, rfl, SqL.of hL2, ?_⟩
    refine for_enumL (K := K) (a := L) (xs := (rowsOf z).map V.str) (fun i σ Hx => (∃ u1 u2 u3, σ = [some (.str z), some (.ref b), u1, u2, u3]) ∧ Hx L = some (.lst ((rowsOf z).map V.str)) ∧ Same H Hx ∧ (∀ j, j < i → ∀ r, (rowsOf z)[j]? = some r → isT (rowD r) = true) ∧
      ∃ xs, Hx b = some (.lst xs) ∧ ImAll Hx xs (((rowsOf z).take i).map rowD)) ⟨⟨_, _, _, rfl⟩, hL2, sb.trans s2, fun j hj => by omega, [], b2, .nil⟩ (fun i σ Hx h => SqL.of h.2.1) ?_ ?_
    · rintro i v t σ Hx hv ⟨⟨u1, u2, u3, rfl⟩, h1, h2, h3, xs, h4, h5⟩ ht
      rw [List.getElem?_map] at hv
      obtain ⟨r, hr', rfl⟩ := Option.map_eq_some_iff.mp hv
      have il := (List.getElem?_eq_some_iff.mp hr').1
      have lr : r.length ≤ 100000 := by
        have := lz z rfl
        unfold rowsOf at hr'
        split at hr'
        · cases hr'
        · exact Nat.le_trans (split_mem_len (List.mem_of_getElem? hr')) this
      have fewR : (rowsOf z).length ≤ 100002 := by
        have := lz z rfl
        unfold rowsOf
        split
        · show 0 ≤ _; omega
        · exact Nat.le_trans (PyProof.Rows.split_le z "\n") (by omega)
      have sT : Same Hx (upd Hx t (.tup [.int (i : Nat), .str r])) := same_new ht
      generalize hT : upd Hx t (.tup [.int (i : Nat), .str r]) = H3 at sT
      have eT : H3 t = _ := upd_is hT
      refine ⟨t, _, rfl, SqT.of eT, rfl, _, _, rfl, _, _, rfl, rfl, ?_⟩
      refine ⟨_, rfl, r, rfl, lr, fun ct p H4 s4 p0 ip => ?_, fun cf H4 s4 => ?_⟩
      · have s04 := h2.trans (sT.trans s4)
        refine ⟨_, rfl, _, rfl, ?_⟩
        rw [show decide (V.ref p = V.non) = false from decide_eq_false (fun z => nomatch z)]
        refine iteF ?_
        have e4 : H4 b = some (.lst xs) := s4 _ _ (sT _ _ h4)
        have im4 := ImAll.same h5 (sT.trans s4)
        have l4 := ImAll.ln h5
        rw [List.length_map, List.length_take] at l4
        have tpb : Tp H4 (upd H4 b (.lst (xs ++ [.ref p]))) := fun c ys e => by
          rw [upd_ne (fun z => by subst z; rw [e4] at e; cases e)]; exact e
        refine ⟨_, rfl, .inl ⟨rfl, xs, SqL.of e4⟩, _, rfl, b, xs, _, rfl, rfl, e4, Nat.lt_of_le_of_lt (by omega : _ ≤ 200000) (by decide), ⟨_, _, _, rfl⟩, ?_, ?_, ?_, _, upd_same, ?_⟩
        · rw [upd_ne (Ne.symm lb)]; exact s4 _ _ (sT _ _ h1)
        · intro c o e
          rw [upd_ne (fun z => by subst z; rw [hb] at e; cases e)]
          exact s04 _ _ e
        · intro j hj r' hr2
          by_cases c : j < i
          · exact h3 j c r' hr2
          · have : j = i := by omega
            subst this
            rw [hr'] at hr2; cases hr2
            exact ct
        · rw [List.take_succ, hr', List.map_append]
          exact ImAll.app (ImAll.tp tpb im4) (.cons (Im.tp tpb ip) .nil)
      · refine ⟨_, rfl, _, rfl, iteT ⟨_, rfl, mkE fun e he => ?_⟩⟩
        have s04 := h2.trans (sT.trans s4)
        have e0 : H e = none := by
          cases q : H e with
          | none => rfl
          | some o => rw [s04 _ _ q] at he; cases he
        have an : ansD (.str z) = .tuple [.int (i : Int)] := by
          show ansR (rowsOf z) = _
          have ba : badAt (rowsOf z) 0 = some i := by
            rw [badAt_take (i := i) h3, List.drop_eq_getElem_cons il]
            have : (rowsOf z)[i] = r := by
              have := List.getElem?_eq_getElem il
              rw [hr'] at this; exact (Option.some.inj this).symm
            rw [this]
            show (if isT (rowD r) = true then _ else some (0 + i)) = _
            rw [cf, Nat.zero_add]; rfl
          unfold ansR
          rw [ba]
        exact ke i an e _ (fun p o q => by rw [upd_ne (ne_of_none q e0)]; exact s04 _ _ q) e0 upd_same
    · rintro σ Hx ⟨⟨u1, u2, u3, rfl⟩, h1, h2, h3, xs, h4, h5⟩
      rw [List.length_map] at h3 h5
      rw [List.take_length] at h5
      have ba : badAt (rowsOf z) 0 = none := by
        rw [badAt_take (i := (rowsOf z).length) h3, List.drop_length]; rfl
      exact ⟨_, rfl, kq z rfl ba b xs Hx h2 hb h4 h5⟩
  · have e0 : H e = none := by
      cases q : H e with
      | none => rfl
      | some o => rw [sb _ _ q] at he; cases he
    exact ke 0 (by cases d <;> first | rfl | cases hd) e _ (fun p o q => by rw [upd_ne (ne_of_none q e0)]; exact sb _ _ q) e0 upd_same
end
end SG
namespace SG
open PySem PySem.Spec PyProof.Rows L2 TL
def numA (z : Str) (lo hi : Int) : V := if bet (fldD z) lo hi = true then .int (numV z) else .non
def spNumber : Sp := fun vs H Q _ => ∃ (z : Str) (lo hi : Int), vs = [.str z, .int lo, .int hi] ∧ z.length ≤ 100000 ∧ ∀ H', Same H H' → Q (numA z lo hi) H'
theorem numA_no {z : Str} {lo hi : Int} (h : isNum z = false) : numA z lo hi = .non := by
  unfold numA fldD
  rw [h]; rfl
theorem numA_yes {z : Str} {lo hi : Int} (h : isNum z = true) : numA z lo hi = if (decide (lo ≤ numV z) && decide (numV z ≤ hi)) = true then .int (numV z) else .non := by
  unfold numA fldD
  rw [if_pos h]; rfl
theorem empty_len {x : Str} : decide (V.str x = V.str "") = decide (x.length = 0) := by
  congr 1; apply propext
  constructor
  · intro h; cases h; decide +kernel
  · intro h
    rw [len_tl] at h
    have : tl x = tl ("" : Str) := by
      rw [List.length_eq_zero_iff.mp h]; decide +kernel
    rw [ext_tl this]
theorem allF_map (g : Str) : (List.range g.cps.size).map (fun i => V.bl (decide (g.cps.getD i 0 ∈ figs))) = (((List.range g.cps.size).map fun i => decide (g.cps.getD i 0 ∈ figs))).map V.bl := by rw [List.map_map]; rfl
theorem allF_all (g : Str) : (((List.range g.cps.size).map fun i => decide (g.cps.getD i 0 ∈ figs))).all id = allFig g := by
  unfold allFig
  rw [List.all_map]
  have e3 : tl g = (List.range g.cps.size).map fun i => g.cps.getD i 0 := by
    apply List.ext_getElem
    · simp
    · intro i h1 h2
      simp at h1
      simp [Array.getD, h1]
  rw [e3, List.all_map]
  rfl
section
variable {P : Program} {w : World} {K : PySem.W.Frag} {mg : Str → Option Value} {base : Heap}
theorem ok_lawnumber (D : Df K mg "_law_number" s_law_number ["_law_word", "_law_least", "_law_most"]) (T : Txt K mg) : Cl P w K mg base 1 "_law_number" spNumber := by
  refine D.ok sc_law_number (fun vs H Q E h => ?_) (fun f cdv A outer s H vs Q E hr h => ?_)
  · obtain ⟨_, _, _, rfl, _⟩ := h
    rfl
  obtain ⟨z, lo, hi, rfl, hz, k⟩ := h
  have big : 100000 ≤ sizeLine := by decide
  refine ⟨_, -- _law_figures = _law_word[1:] if _law_word[:1] == '-' else _law_word
    (C8.pss_cut (ps_set (i := 3) sc_law_number.nd rfl (Or.inl rfl) (pe_ifExp (pt_cmpR op_eq (pe_slice sl_str (pv 0) po_none (po_some pe_int)) pe_str (nomark _)) (pe_slice sl_str (pv 0) (po_some pe_int) po_none) (pv 0)))
    (C8.pss_cut (ps_if (PW.pt (pw_or (pt_cmpR op_eq (pv 3) pe_str (nomark _)) (pw_or (pt_cmpR op_gt (pe_callB call_len_str (by rfl) T.m_len PySem.boot_len (pa_cons (pv 3) pa_nil)) pe_int (nomark _)) (pw_or1 (pt_not (pt_val (pe_callB (cr_all rfl) (by rfl) T.m_all (by decide +kernel) (pa_cons (pe_lc (own := [("_law_sign", 4)]) rfl sc_law_number.nd (pi_str (pv 3)) (blkOk_by (N := N_law_number) (sc := defScope s_law_number) (by decide +kernel)) (fun _ _ _ _ _ => (pg_name (i := 4) sc_law_number.nd rfl (Or.inl rfl))) (fun _ _ _ _ _ => pts_nil) (fun _ _ _ _ _ => (pe_cmpR op_in_sign (pv 4) pe_str (by with_unfolding_all rfl)))) pa_nil))))))))
      (pss_one (ps_ret pe_non))
      pss_nil)
    (pss_cons (ps_if (PW.pt (pw_or (PW.pt (pw_and (pt_cmpR op_eq (pe_ix ix_str (pv 3) pe_int (fun _ _ => rfl)) pe_str (nomark _)) (pw_and1 (pt_cmpR op_ne (pv 0) pe_str (nomark _))))) (pw_or1 (pt_not (pt_chain op_le op_le (pv 1) (pe_callTy call_int_str rfl T.m_int (by decide +kernel) (pa_cons (pv 0) pa_nil)) (pv 2))))))
      (pss_one (ps_ret pe_non))
      pss_nil)
    (pss_one (ps_ret (pe_callTy call_int_str rfl T.m_int (by decide +kernel) (pa_cons (pv 0) pa_nil))))))), ?_⟩
  refine ⟨fun σ Hx => σ = [some (.str z), some (.int lo), some (.int hi), some (.str (figS z)), none] ∧ Hx = H, ?_, ?_⟩
  · refine ⟨_, rfl, _, rfl, z, rfl, by omega, rfl, _, rfl, ?_⟩
    have hn : decide (V.str (cutS z none (some 1)) = V.str "-") = negS z := by
      rw [← head_neg]
      congr 1; apply propext
      exact ⟨fun h => V.str.inj h, fun h => by rw [h]⟩
    rw [hn]
    have e : figS z = if negS z = true then cutS z (some 1) none else z := rfl
    refine ite2 (fun c => ?_) fun c => ?_
    · refine ⟨_, rfl, _, rfl, z, rfl, by omega, ?_⟩
      rw [e, if_pos c]
      exact ⟨rfl, rfl⟩
    · refine ⟨_, rfl, ?_⟩
      rw [e, if_neg c]
      exact ⟨rfl, rfl⟩
  rintro σ Hx ⟨rfl, rfl⟩
  have lf := fig_len z
  refine ⟨fun σ Hy => σ = [some (.str z), some (.int lo), some (.int hi), some (.str (figS z)), none] ∧ Same Hx Hy ∧ 1 ≤ (figS z).length ∧ (figS z).length ≤ 10 ∧ allFig (figS z) = true, ?_, ?_⟩
  · refine ⟨_, rfl, rfl, _, rfl, ?_⟩
    rw [empty_len]
    by_cases c1 : (figS z).length = 0
    · rw [decide_eq_true c1]
      have kq := k Hx (Same.refl _)
      rw [numA_no (by unfold isNum; rw [c1]; rfl)] at kq
      exact iteT kq
    rw [decide_eq_false c1]
    refine iteF ⟨_, rfl, figS z, rfl, by omega, _, _, rfl, rfl, _, rfl, ?_⟩
    by_cases c2 : (10 : Int) < ((figS z).length : Int)
    · rw [decide_eq_true c2]
      have kq := k Hx (Same.refl _)
      rw [numA_no (by unfold isNum; rw [decide_eq_false (show ¬ (figS z).length ≤ 10 by omega)]; simp)] at kq
      exact iteT kq
    rw [decide_eq_false c2]
    refine iteF ⟨_, rfl, figS z, rfl, fun D hD => ?_⟩
    refine lc_mapS (x := figS z) (fun i => .bl (decide ((figS z).cps.getD i 0 ∈ figs))) hD (by show (figS z).length < _; omega) ?_ ?_
    · intro i c Hy N O hc sx kk
      have e : (figS z).cps.getD i 0 = c := by
        rw [Array.getD_eq_getD_getElem?, hc]
        rfl
      rw [e] at kk
      exact ⟨rfl, _, rfl, c, _, rfl, rfl, kk Hy (Same.refl _)⟩
    · intro Hy sx hD'
      rw [allF_map] at hD'
      refine ⟨D, _, rfl, SqL.of hD', _, rfl, ?_⟩
      rw [allF_all]
      cases ha : allFig (figS z) with
      | false =>
        have kq := k Hy sx
        rw [numA_no (by unfold isNum; rw [ha]; simp)] at kq
        exact iteT kq
      | true => exact iteF ⟨rfl, sx, by omega, by omega, rfl⟩
  rintro σ Hy ⟨rfl, sx, l1, l2, ha⟩
  obtain ⟨c, l, ecl⟩ : ∃ c l, tl (figS z) = c :: l := by
    cases e : tl (figS z) with
    | nil => rw [len_tl, e] at l1; simp at l1
    | cons c l => exact ⟨c, l, rfl⟩
  have at0 : atI (figS z).cps.toList 0 = some c := by
    show atI (tl (figS z)) 0 = some c
    rw [ecl]; exact atI_nat (j := 0) rfl
  have n0 : nul0 (figS z) = decide (c = 48) := by unfold nul0; rw [ecl]; simp
  have ch : decide (V.str ⟨#[c]⟩ = V.str "0") = decide (c = 48) := by
    congr 1; apply propext; constructor
    · intro h; have h2 : (⟨#[c]⟩ : Str) = "0" := by cases h; rfl
      have : tl (⟨#[c]⟩ : Str) = tl ("0" : Str) := by rw [h2]
      have h4 : tl ("0" : Str) = [48] := by decide +kernel
      rw [h4] at this; exact (List.cons.inj this).1
    · rintro rfl; rfl
  have base : isNum z = (!decide (c = 48) || decide (z = "0")) := by
    unfold isNum
    rw [decide_eq_true l1, decide_eq_true l2, ha, n0]; rfl
  have kq := k Hy sx
  refine ⟨_, rfl, figS z, 0, c, rfl, rfl, by omega, at0, rfl, _, rfl, ?_⟩
  rw [ch]
  have ez : decide (V.str z = V.str "0") = decide (z = "0") := by
    congr 1; apply propext
    exact ⟨fun h => V.str.inj h, fun h => by rw [h]⟩
  have last : isNum z = true → (if (decide (lo ≤ numV z) && decide (numV z ≤ hi)) = true then Q (.int (numV z)) Hy else Q .non Hy) := by
    intro hn
    have kk := kq
    rw [numA_yes hn] at kk
    split
    · rename_i q; rw [if_pos q] at kk; exact kk
    · rename_i q; rw [if_neg q] at kk; exact kk
  by_cases c0 : c = 48
  · rw [decide_eq_true c0]
    refine iteT ⟨_, rfl, rfl, _, rfl, ?_⟩
    rw [ez]
    by_cases z0 : z = "0"
    · have hn : isNum z = true := by rw [base, decide_eq_true z0]; simp
      rw [decide_eq_true z0]
      refine iteF ?_
      refine ⟨_, rfl, _, rfl, z, numV z, rfl, isNum_reads hn, (by have := isNum_len hn; omega), _, _, rfl, rfl, _, rfl, ite2 (fun d1 => ?_) fun d1 => ?_⟩
      · refine ⟨_, rfl, _, _, rfl, rfl, _, rfl, ?_⟩
        by_cases d2 : numV z ≤ hi
        · rw [decide_eq_true d2]
          refine iteF ⟨_, rfl, z, numV z, rfl, isNum_reads hn, (by have := isNum_len hn; omega), ?_⟩
          have ll := last hn
          rw [if_pos (by rw [decide_eq_true d2, d1]; rfl)] at ll
          exact ll
        · rw [decide_eq_false d2]
          have ll := last hn
          rw [if_neg (by rw [decide_eq_false d2]; simp)] at ll
          exact iteT ll
      · have ll := last hn
        rw [if_neg (by intro z; rw [Bool.and_eq_true] at z; exact d1 z.1)] at ll
        exact ⟨_, rfl, iteT ll⟩
    · rw [decide_eq_false z0]
      rw [numA_no (by rw [base, decide_eq_true c0, decide_eq_false z0]; rfl)] at kq
      exact iteT kq
  · have hn : isNum z = true := by rw [base, decide_eq_false c0]; rfl
    rw [decide_eq_false c0]
    refine iteF ?_
    refine ⟨_, rfl, _, rfl, z, numV z, rfl, isNum_reads hn, (by have := isNum_len hn; omega), _, _, rfl, rfl, _, rfl, ite2 (fun d1 => ?_) fun d1 => ?_⟩
    · refine ⟨_, rfl, _, _, rfl, rfl, _, rfl, ?_⟩
      by_cases d2 : numV z ≤ hi
      · rw [decide_eq_true d2]
        refine iteF ⟨_, rfl, z, numV z, rfl, isNum_reads hn, (by have := isNum_len hn; omega), ?_⟩
        have ll := last hn
        rw [if_pos (by rw [decide_eq_true d2, d1]; rfl)] at ll
        exact ll
      · rw [decide_eq_false d2]
        have ll := last hn
        rw [if_neg (by rw [decide_eq_false d2]; simp)] at ll
        exact iteT ll
    · have ll := last hn
      rw [if_neg (by intro z; rw [Bool.and_eq_true] at z; exact d1 z.1)] at ll
      exact ⟨_, rfl, iteT ll⟩
end
end SG
namespace SG
open PySem PySem.Spec PyProof.Rows L2 TL
theorem pw9 : CPowG 10 9 := ⟨by decide, by decide +kernel⟩
theorem pw9e : (10 : Int) ^ (9 : Int).toNat = 1000000000 := by decide
theorem word_in (c : Str) : inL wordsT (fldD c) = inV (.str c) (wordsT.map V.str) := by
  cases hn : isNum c with
  | false =>
    have e : fldD c = .str c := by unfold fldD; rw [hn]; rfl
    rw [e]
    unfold inL inV
    rw [List.any_map, List.any_map]
    congr 1
  | true =>
    have e : fldD c = .int (numV c) := by unfold fldD; rw [hn]; rfl
    rw [e, inL_no rfl]
    symm
    unfold inV
    rw [List.any_eq_false]
    intro y hy
    obtain ⟨s, hs, rfl⟩ := List.mem_map.mp hy
    have h0 : wordsT.all (fun s => !isNum s) = true := by decide +kernel
    have h1 := List.all_eq_true.mp h0 s hs
    show ¬ ((s == c) = true)
    intro z
    rw [eq_of_beq z, hn] at h1
    cases h1
theorem numA_flat {z : Str} {lo hi : Int} : flatV (numA z lo hi) = true := by unfold numA; split <;> rfl
theorem numA_non {z : Str} {lo hi : Int} : eqV (numA z lo hi) .non = !bet (fldD z) lo hi := by
  unfold numA
  cases bet (fldD z) lo hi <;> rfl
theorem numA_im {H : Hp} {z : Str} {lo hi : Int} (h : bet (fldD z) lo hi = true) : Im H (numA z lo hi) (fldD z) := by
  unfold numA
  rw [if_pos h]
  unfold fldD at h ⊢
  cases hn : isNum z with
  | true => exact .int _
  | false => rw [hn] at h; cases h
section
variable {P : Program} {w : World} {K : PySem.W.Frag} {mg : Str → Option Value} {base : Heap}
theorem ok_touch_in (D : Df K mg "_law_touch_in" s_law_touch_in ["_law_row"]) (T : Txt K mg) (c_law_number : Cl P w K mg base 1 "_law_number" spNumber) : Cl P w K mg base 2 "_law_touch_in" (spTouchOf K) := by
  refine D.ok sc_law_touch_in (fun vs H Q E h => ?_) (fun f cdv A outer s H vs Q E hr h => ?_)
  · obtain ⟨_, rfl, _⟩ := h
    rfl
  obtain ⟨r, rfl, lr, kt, kf⟩ := h
  have big : 200000 ≤ sizeLine := by decide
  refine ⟨_, -- _law_words = _law_row.split(' ')
    (pss_cons (ps_set (i := 1) sc_law_touch_in.nd rfl (Or.inl rfl) (pe_split (pv 0) pe_str))
    (pss_cons (ps_if (PW.pt (pw_or (pt_cmpR op_ne (pe_callB call_len_seq (by rfl) T.m_len PySem.boot_len (pa_cons (pv 1) pa_nil)) pe_int (nomark _)) (pw_or1 (pt_cmpR op_notIn_seq (pe_ix ix_list (pv 1) pe_int (fun _ _ => rfl)) (pe_tup (pa_cons pe_str (pa_cons pe_str (pa_cons pe_str (pa_cons pe_str pa_nil))))) (by with_unfolding_all rfl)))))
      (pss_one (ps_ret pe_non))
      pss_nil)
    (pss_cons (ps_set (i := 2) sc_law_touch_in.nd rfl (Or.inl rfl) (pe_lst (pa_cons (pe_cl c_law_number (hr.mono (by first | decide | omega)) rfl (pa_cons (pe_ix ix_list (pv 1) pe_int (fun _ _ => rfl)) (pa_cons pe_int (pa_cons (pe_op op_powG pe_int pe_int) pa_nil)))) (pa_cons (pe_cl c_law_number (hr.mono (by first | decide | omega)) rfl (pa_cons (pe_ix ix_list (pv 1) pe_int (fun _ _ => rfl)) (pa_cons pe_int (pa_cons pe_int pa_nil)))) pa_nil))))
    (pss_cons (ps_set (i := 2) sc_law_touch_in.nd rfl (Or.inl rfl) (pe_op op_cat (pv 2) (pe_lst (pa_cons (pe_cl c_law_number (hr.mono (by first | decide | omega)) rfl (pa_cons (pe_ix ix_list (pv 1) pe_int (fun _ _ => rfl)) (pa_cons (pe_un un_neg pe_int) (pa_cons pe_int pa_nil)))) (pa_cons (pe_cl c_law_number (hr.mono (by first | decide | omega)) rfl (pa_cons (pe_ix ix_list (pv 1) pe_int (fun _ _ => rfl)) (pa_cons (pe_un un_neg pe_int) (pa_cons pe_int pa_nil)))) pa_nil)))))
    (pss_cons (ps_if (pt_cmpR op_in_seq pe_non (pv 2) (by with_unfolding_all rfl))
      (pss_one (ps_ret pe_non))
      pss_nil)
    (pss_one (ps_ret (pe_tup (pa_cons (pe_ix ix_list (pv 2) pe_int (fun _ _ => rfl)) (pa_cons (pe_ix ix_list (pv 2) pe_int (fun _ _ => rfl)) (pa_cons (pe_ix ix_list (pv 1) pe_int (fun _ _ => rfl)) (pa_cons (pe_ix ix_list (pv 2) pe_int (fun _ _ => rfl)) (pa_cons (pe_ix ix_list (pv 2) pe_int (fun _ _ => rfl)) pa_nil))))))))))))), ?_⟩
  refine ⟨_, rfl, ⟨_, rfl⟩, r, _, rfl, rfl, (by decide +kernel), by omega, ?_⟩
  (intro L L0; generalize hh_ : upd _ L _ = H1; have hL := upd_is hh_; have s1 := same_is hh_ L0; clear hh_)
  generalize hws : Txt.split r " " = ws at hL
  have rD : rowD r = .tuple (ws.map fldD) := by unfold rowD; rw [hws]
  refine ⟨_, rfl, L, _, rfl, .inl (SqL.of hL), rfl, _, rfl, ?_⟩
  by_cases l5 : ws.length = 5
  · obtain ⟨a, b, c, d, e, rfl⟩ : ∃ a b c d e, ws = [a, b, c, d, e] := by
      match ws, l5 with
      | [a, b, c, d, e], _ => exact ⟨a, b, c, d, e, rfl⟩
    have sm : ∀ z, z ∈ [a, b, c, d, e] → z.length ≤ 100000 := fun z hz => Nat.le_trans (split_mem_len (by rw [hws]; exact hz)) lr
    refine iteF ?_
    refine ⟨_, rfl, L, _, 2, _, rfl, rfl, SqL.of hL, atI_nat (j := 2) rfl, (by show 4 ≤ sizeLine; decide), ?_⟩
    (intro t ht; generalize hh_ : upd _ t _ = H2; have et0 := upd_is hh_; have st := same_is hh_ ht; clear hh_)
    have et : H2 t = some (.tup (wordsT.map V.str)) := et0
    have hL2 : H2 L = _ := st _ _ hL
    have iT : isT (rowD r) = (bet (fldD a) 0 1000000000 && (bet (fldD b) 0 9 && (inL wordsT (fldD c) && (bet (fldD d) (-10000) 10000 && bet (fldD e) (-10000) 10000)))) := by rw [rD]; rfl
    have s12 := s1.trans st
    refine ⟨t, _, rfl, .inr (SqT.of et), rfl, rfl, _, rfl, ?_⟩
    have wi := word_in c
    cases hw : inV (.str c) (wordsT.map V.str) with
    | false =>
      rw [hw] at wi
      refine iteT (kf ?_ _ s12)
      rw [iT, wi]
      cases bet (fldD a) 0 1000000000 <;> cases bet (fldD b) 0 9 <;> rfl
    | true =>
      rw [hw] at wi
      rw [wi] at iT
      refine iteF ?_
      refine ⟨_, rfl, L, _, 0, _, rfl, rfl, SqL.of hL2, atI_nat (j := 0) rfl, _, _, rfl, rfl, pw9, a, 0, 1000000000, rfl, sm a (by simp), fun H3 s3 => ?_⟩
      refine ⟨_, rfl, L, _, 1, _, rfl, rfl, SqL.of (s3 _ _ hL2), atI_nat (j := 1) rfl, b, 0, 9, rfl, sm b (by simp), fun H4 s4 => ⟨(by show 2 ≤ sizeLine; decide), ?_⟩⟩
      (intro n hn; generalize hh_ : upd _ n _ = H5; have en := upd_is hh_; have s5 := same_is hh_ hn; clear hh_)
      refine ⟨_, rfl, ?_⟩
      have hL5 : H5 L = _ := s5 _ _ (s4 _ _ (s3 _ _ hL2))
      refine ⟨_, rfl, L, _, 3, _, rfl, rfl, SqL.of hL5, atI_nat (j := 3) rfl, _, rfl, d, _, 10000, rfl, sm d (by simp), fun H6 s6 => ?_⟩
      refine ⟨_, rfl, L, _, 4, _, rfl, rfl, SqL.of (s6 _ _ hL5), atI_nat (j := 4) rfl, _, rfl, e, _, 10000, rfl, sm e (by simp), fun H7 s7 => ⟨(by show 2 ≤ sizeLine; decide), ?_⟩⟩
      (intro m hm; generalize hh_ : upd _ m _ = H8; have em := upd_is hh_; have s8 := same_is hh_ hm; clear hh_)
      refine ⟨_, _, _, _, rfl, rfl, s8 _ _ (s7 _ _ (s6 _ _ en)), em, (by show 4 ≤ sizeLine; decide), ?_⟩
      (intro q hq; generalize hh_ : upd _ q _ = H9; have eq9 := upd_is hh_; have s9 := same_is hh_ hq; clear hh_)
      have hL9 : H9 L = _ := s9 _ _ (s8 _ _ (s7 _ _ (s6 _ _ hL5)))
      have sall : Same H H9 := s12.trans (s3.trans (s4.trans (s5.trans (s6.trans (s7.trans (s8.trans s9))))))
      have hN : inV .non ([numA a 0 1000000000, numA b 0 9] ++ [numA d (-10000) 10000, numA e (-10000) 10000]) = !isT (rowD r) := by
        rw [iT]
        show List.any _ _ = _
        simp only [List.cons_append, List.nil_append, List.any_cons, List.any_nil, numA_non]
        cases bet (fldD a) 0 1000000000 <;> cases bet (fldD b) 0 9 <;> cases bet (fldD d) (-10000) 10000 <;> cases bet (fldD e) (-10000) 10000 <;> rfl
      refine ⟨_, rfl, q, _, rfl, .inl (SqL.of eq9), rfl, ?_, _, rfl, ?_⟩
      · simp only [List.cons_append, List.nil_append, List.all_cons, List.all_nil, numA_flat]; rfl
      rw [show (if false = true then _ else inV .non ([numA a 0 1000000000, numA b 0 9] ++ [numA d (-10000) 10000, numA e (-10000) 10000])) = inV .non ([numA a 0 1000000000, numA b 0 9] ++ [numA d (-10000) 10000, numA e (-10000) 10000]) from rfl, hN]
      cases ht : isT (rowD r) with
      | false => exact iteT (kf ht _ sall)
      | true =>
        refine iteF ?_
        have it := iT
        rw [ht] at it
        have it := it.symm
        simp only [Bool.and_eq_true, Bool.true_and] at it
        obtain ⟨b1, b2, b3, b4⟩ := it
        refine ⟨_, rfl, q, _, 0, _, rfl, rfl, SqL.of eq9, atI_nat (j := 0) rfl, _, rfl, q, _, 1, _, rfl, rfl, SqL.of eq9, atI_nat (j := 1) rfl, _, rfl, L, _, 2, _, rfl, rfl, SqL.of hL9, atI_nat (j := 2) rfl,
          _, rfl, q, _, 2, _, rfl, rfl, SqL.of eq9, atI_nat (j := 2) rfl, _, rfl, q, _, 3, _, rfl, rfl, SqL.of eq9, atI_nat (j := 3) rfl, (by show 5 ≤ sizeLine; decide), ?_⟩
        (intro g hg; generalize hh_ : upd _ g _ = H10; have eg := upd_is hh_; have s10 := same_is hh_ hg; clear hh_)
        have e0 : H g = none := by
          cases z : H g with
          | none => rfl
          | some o => rw [sall _ _ z] at hg; cases hg
        refine kt ht g H10 (sall.trans s10) e0 ?_
        rw [rD]
        have ic : Im H10 (.str c) (fldD c) := by
          have : fldD c = .str c := by
            rcases inL_str wi with ⟨s, hs, e⟩
            unfold fldD at e ⊢
            cases hn : isNum c with
            | true => rw [hn] at e; cases e
            | false => rfl
          rw [this]; exact .str _
        exact .tup eg (.cons (numA_im b1) (.cons (numA_im b2) (.cons ic (.cons (numA_im b3) (.cons (numA_im b4) .nil)))))
  · have e0 : (!decide (V.int (((ws.map V.str).length : Nat) : Int) = V.int 5)) = true := by
      rw [decide_eq_false]; · rfl
      intro h
      have := V.int.inj h
      rw [List.length_map] at this
      omega
    rw [e0]
    refine iteT (kf ?_ _ s1)
    rw [rD]
    refine isT_row ?_
    show decide ((ws.map fldD).length = 5) = false
    rw [List.length_map]; exact decide_eq_false l5
end
end SG
namespace SG
open PySem PySem.Spec PyProof.Rows L2 TL
def spDue (K : PySem.W.Frag) : Sp := fun vs H Q _ => ∃ (x : V) (d : PyData), vs = [x] ∧ Dp K H x d ∧ (∀ z, d = .str z → z.length ≤ 100000) ∧ ∀ u H', Same H H' → Dp K H' u (ansD d) → Q u H'
def spAsked (K : PySem.W.Frag) (f : Addr) : Sp := fun vs H Q _ => ∃ (x : V) (d : PyData), vs = [.ref f, x] ∧ Dp K H x d ∧ (∀ z, d = .str z → z.length ≤ 100000) ∧ ∀ u H', Same H H' → Dp K H' u (ansD d) → Q u H'
section
variable {P : Program} {w : World} {K : PySem.W.Frag} {mg : Str → Option Value} {base : Heap}
theorem ok_due (D : Df K mg "_law_due" s_law_due ["_law_text"]) (T : Txt K mg) (c_law_touch_in : Cl P w K mg base 2 "_law_touch_in" (spTouchOf K)) : Cl P w K mg base 3 "_law_due" (spDue K) := by
  refine D.ok sc_law_due (fun vs H Q E h => ?_) (fun f cdv A outer s H vs Q E hr h => ?_)
  · obtain ⟨_, _, rfl, _⟩ := h
    rfl
  obtain ⟨x, d, rfl, hx, lz, k⟩ := h
  have big : 200000 ≤ sizeLine := by decide
  refine ⟨_, -- if not isinstance(_law_text, str):
    (pss_cons (ps_if (pt_not (pt_val (pe_callB call_isStr (by rfl) T.m_isinstance (by decide +kernel) (pa_cons (pv 0) (pa_cons (pe_bltn (v := .ty "str") (u := .type "str") (by rfl) T.m_str (by decide +kernel) rfl) pa_nil)))))
      (pss_one (ps_ret (pe_tup (pa_cons pe_int pa_nil))))
      pss_nil)
    (pss_cons (ps_set (i := 1) sc_law_due.nd rfl (Or.inl rfl) (pe_lst pa_nil))
    (pss_cons (ps_for PassesOwn.never rfl (pi_enum rfl T.m_enumerate (pa_cons (pe_ifExp (pt_cmpR op_ne (pv 0) pe_str (nomark _)) (pe_split (pv 0) pe_str) (pe_lst pa_nil)) pa_nil)) (pg_tup rfl (pgs_cons (pg_name (i := 2) sc_law_due.nd rfl (Or.inl rfl)) (pgs_cons (pg_name (i := 3) sc_law_due.nd rfl (Or.inl rfl)) pgs_nil)))
      (pss_cons (ps_set (i := 4) sc_law_due.nd rfl (Or.inl rfl) (pe_cl c_law_touch_in (hr.mono (by first | decide | omega)) rfl (pa_cons (pv 3) pa_nil)))
      (pss_cons (ps_if (pt_cmp (pc_isN (pv 4)))
        (pss_one (ps_ret (pe_tup (pa_cons (pv 2) pa_nil))))
        pss_nil)
      (pss_one (ps_expr (pe_bm PySem.F.plainAttrs_list PySem.F.slot_list_append PySem.F.type_list_append mt_append (pv 1) (pa_cons (pv 4) pa_nil)))))))
    (pss_one (ps_ret (pv 1)))))), ?_⟩
  refine ⟨_, rfl, x, d, rfl, hx, _, rfl, ?_⟩
  cases hd : d.isStr with
  | false =>
    refine iteT ⟨(by show 1 ≤ sizeLine; decide), fun p hp => ?_⟩
    refine k _ _ (same_new hp) ?_
    rw [show ansD d = .tuple [.int 0] by cases d <;> first | rfl | cases hd]
    exact .tup (SqT.of upd_same) (.cons (.int 0) .nil)
  | true =>
    obtain ⟨z, rfl⟩ : ∃ z, d = .str z := by
      cases d with
      | str z => exact ⟨z, rfl⟩
      | _ => cases hd
    cases hx
    have lzz := lz z rfl
    refine iteF ⟨(by show 0 ≤ sizeLine; decide), ?_⟩
    (intro b hb; generalize hh_ : upd _ b _ = H1; have eb := upd_is hh_; have sb := same_is hh_ hb; clear hh_)
    refine ⟨_, rfl, rfl, _, rfl, ?_⟩
    rw [empty_len]
    by_cases c : z.length = 0
    · rw [decide_eq_true c]
      refine iteF ⟨(by show 0 ≤ sizeLine; decide), ?_⟩
      (intro L L0; generalize hh_ : upd _ L _ = H2; have hL := upd_is hh_; have s2 := same_is hh_ L0; clear hh_)
      have bn : b ≠ L := fun e => by subst e; rw [eb] at L0; cases L0
      refine ⟨L, [], rfl, SqL.of hL, ?_⟩
      refine for_enumL (K := K) (a := L) (xs := []) (fun i σ Hx => σ = [some (.str z), some (.ref b), none, none, none] ∧ Hx = H2) ⟨rfl, rfl⟩ (fun i σ Hx h => by rw [h.2]; exact SqL.of hL) ?_ ?_
      · rintro i v t σ Hx hv _ _
        rw [List.getElem?_nil] at hv; cases hv
      · rintro σ Hx ⟨rfl, rfl⟩
        refine ⟨_, rfl, k _ _ (sb.trans s2) ?_⟩
        have e : ansD (.str z) = .list [] := by
          show ansR (rowsOf z) = _
          unfold rowsOf; rw [if_pos c]; rfl
        rw [e]
        exact .lst (SqL.of (s2 _ _ eb)) .nil
    · rw [decide_eq_false c]
      refine iteT ⟨_, rfl, ⟨_, rfl⟩, z, _, rfl, rfl, (by decide +kernel), by omega, ?_⟩
      (intro L L0; generalize hh_ : upd _ L _ = H2; have hL := upd_is hh_; have s2 := same_is hh_ L0; clear hh_)
      have er : rowsOf z = Txt.split z "\n" := if_neg c
      rw [← er] at hL
      refine ⟨L, _, rfl, SqL.of hL, ?_⟩
      have lb : b ≠ L := fun e => by subst e; rw [eb] at L0; cases L0
      have b2 : H2 b = some (.lst []) := s2 _ _ eb
      refine for_enumL (K := K) (a := L) (xs := (rowsOf z).map V.str) (fun i σ Hx => (∃ u1 u2 u3, σ = [some (.str z), some (.ref b), u1, u2, u3]) ∧ Hx L = some (.lst ((rowsOf z).map V.str)) ∧ Same H Hx ∧ (∀ j, j < i → ∀ r, (rowsOf z)[j]? = some r → isT (rowD r) = true) ∧
        ∃ xs, Hx b = some (.lst xs) ∧ ImAll Hx xs (((rowsOf z).take i).map rowD)) ⟨⟨_, _, _, rfl⟩, hL, sb.trans s2, fun j hj => by omega, [], b2, .nil⟩ (fun i σ Hx h => SqL.of h.2.1) ?_ ?_
      · rintro i v t σ Hx hv ⟨⟨u1, u2, u3, rfl⟩, h1, h2, h3, xs, h4, h5⟩ ht
        rw [List.getElem?_map] at hv
        obtain ⟨r, hr', rfl⟩ := Option.map_eq_some_iff.mp hv
        have il := (List.getElem?_eq_some_iff.mp hr').1
        have lr : r.length ≤ 100000 := Nat.le_trans (split_mem_len (by rw [← er]; exact List.mem_of_getElem? hr')) lzz
        have fewR : (rowsOf z).length ≤ 100002 := by rw [er]; exact Nat.le_trans (PyProof.Rows.split_le z "\n") (by omega)
        have sT : Same Hx (upd Hx t (.tup [.int (i : Nat), .str r])) := same_new ht
        generalize hT : upd Hx t (.tup [.int (i : Nat), .str r]) = H3 at sT
        have eT : H3 t = _ := upd_is hT
        refine ⟨t, _, rfl, SqT.of eT, rfl, _, _, rfl, _, _, rfl, rfl, ?_⟩
        refine ⟨_, rfl, r, rfl, lr, fun ct p H4 s4 p0 ip => ?_, fun cf H4 s4 => ?_⟩
        · have s04 := h2.trans (sT.trans s4)
          refine ⟨_, rfl, _, rfl, ?_⟩
          rw [show decide (V.ref p = V.non) = false from decide_eq_false (fun z => nomatch z)]
          refine iteF ?_
          have e4 : H4 b = some (.lst xs) := s4 _ _ (sT _ _ h4)
          have im4 := ImAll.same h5 (sT.trans s4)
          have l4 := ImAll.ln h5
          rw [List.length_map, List.length_take] at l4
          have tpb : Tp H4 (upd H4 b (.lst (xs ++ [.ref p]))) := fun c ys e => by
            rw [upd_ne (fun z => by subst z; rw [e4] at e; cases e)]; exact e
          refine ⟨_, rfl, .inl ⟨rfl, xs, SqL.of e4⟩, _, rfl, b, xs, _, rfl, rfl, e4, Nat.lt_of_le_of_lt (by omega : _ ≤ 200000) (by decide), ⟨_, _, _, rfl⟩, ?_, ?_, ?_, _, upd_same, ?_⟩
          · rw [upd_ne (Ne.symm lb)]; exact s4 _ _ (sT _ _ h1)
          · intro c o e
            rw [upd_ne (fun z => by subst z; rw [hb] at e; cases e)]
            exact s04 _ _ e
          · intro j hj r' hr2
            by_cases c : j < i
            · exact h3 j c r' hr2
            · have : j = i := by omega
              subst this
              rw [hr'] at hr2; cases hr2
              exact ct
          · rw [List.take_succ, hr', List.map_append]
            exact ImAll.app (ImAll.tp tpb im4) (.cons (Im.tp tpb ip) .nil)
        · refine ⟨_, rfl, _, rfl, iteT ⟨_, rfl, (by show 1 ≤ sizeLine; decide), fun p hp => ?_⟩⟩
          have s04 := h2.trans (sT.trans s4)
          have an : ansD (.str z) = .tuple [.int (i : Int)] := by
            show ansR (rowsOf z) = _
            have ba : badAt (rowsOf z) 0 = some i := by
              rw [badAt_take (i := i) h3, List.drop_eq_getElem_cons il]
              have : (rowsOf z)[i] = r := by
                have := List.getElem?_eq_getElem il
                rw [hr'] at this; exact (Option.some.inj this).symm
              rw [this]
              show (if isT (rowD r) = true then _ else some (0 + i)) = _
              rw [cf, Nat.zero_add]; rfl
            unfold ansR
            rw [ba]
          refine k _ _ (s04.trans (same_new hp)) ?_
          rw [an]
          exact .tup (SqT.of upd_same) (.cons (.int _) .nil)
      · rintro σ Hx ⟨⟨u1, u2, u3, rfl⟩, h1, h2, h3, xs, h4, h5⟩
        rw [List.length_map] at h3 h5
        rw [List.take_length] at h5
        have ba : badAt (rowsOf z) 0 = none := by
          rw [badAt_take (i := (rowsOf z).length) h3, List.drop_length]; rfl
        refine ⟨_, rfl, k _ _ h2 ?_⟩
        show Dp K Hx _ (ansR (rowsOf z))
        unfold ansR
        rw [ba]
        exact .lst (SqL.of h4) h5.dp
theorem ok_asked {C : Addr} {fr : Addr} (D : Df K mg "_law_asked" s_law_asked ["_law_asked_here", "_law_text"]) (T : Txt K mg) (TNoText : ExK K mg "NoText" "row" C) (cfn : ClXA P w K mg base 5 fr (spRead K C))
    (vk : PySem.W.kitOne K (.ref C) (.type "ValueError") = some true) : Cl P w K mg base 6 "_law_asked" (spAsked K fr) := by
  refine D.ok sc_law_asked (fun vs H Q E h => ?_) (fun f cdv A outer s H vs Q E hr h => ?_)
  · obtain ⟨_, _, rfl, _⟩ := h
    rfl
  obtain ⟨x, d, rfl, hx, lz, k⟩ := h
  have big : 200000 ≤ sizeLine := by decide
  refine ⟨_, -- _law_found = None
    (pss_cons (ps_set (i := 2) sc_law_asked.nd rfl (Or.inl rfl) pe_non)
    (pss_cons (ps_set (i := 3) sc_law_asked.nd rfl (Or.inl rfl) pe_non)
    (pss_cons (ps_try_keep (i := 4) rfl rfl rfl sc_law_asked.nd rfl rfl ⟨rfl, by decide, .inl TNoText.mgC⟩ (fun W pn xe tk _ =>
      (pss_one (ps_set (i := 2) sc_law_asked.nd rfl (Or.inl rfl) (pe_callV (i := 0) cfn tk (hr.mono (by first | decide | omega)) rfl (.inl rfl) (pa_cons (pv 1) pa_nil))))) (fun q ob cls d pn =>
      (pss_one (ps_set (i := 3) sc_law_asked.nd rfl (Or.inl rfl) (pv 4)))))
    (pss_cons (ps_if (pt_cmp (pc_isN (pv 3)))
      (pss_one (ps_ret (pv 2)))
      pss_nil)
    (pss_one (ps_ret (pe_ifExp (PW.pt (pw_and (pt_val (pe_callB (call_isX TNoText.exc TNoText.cls) (by rfl) T.m_isinstance (by decide +kernel) (pa_cons (pv 3) (pa_cons (pe_bltn (v := .ty "ValueError") (u := .type "ValueError") (by rfl) T.m_ValueError (by decide +kernel) rfl) pa_nil)))) (pw_and1 (pt_not (pt_val (pe_callB call_isBool (by rfl) T.m_isinstance (by decide +kernel) (pa_cons (pe_xat TNoText.xf TNoText.nofld (pv 3)) (pa_cons (pe_bltn (v := .ty "bool") (u := .type "bool") (by rfl) T.m_bool (by decide +kernel) rfl) pa_nil)))))))) (pe_tup (pa_cons (pe_xat TNoText.xf TNoText.nofld (pv 3)) pa_nil)) pe_str))))))), ?_⟩
  refine ⟨rfl, _, rfl, x, d, rfl, hx, lz, fun z hz ba p xs H' s1 p0 e im => ?_, fun i an e H' s1 e0 he => ?_⟩
  · subst hz
    refine ⟨_, rfl, _, rfl, iteT ⟨_, rfl, k _ _ s1 ?_⟩⟩
    show Dp K H' _ (ansR (rowsOf z))
    unfold ansR
    rw [ba]
    exact .lst (SqL.of e) im.dp
  · refine ⟨TNoText.exm, fun q hq => ?_⟩
    refine ⟨_, rfl, ?_⟩
    have qe : q ≠ e := fun z => by subst z; rw [he] at hq; cases hq
    have sq : Same H' (upd H' q (ExT q (.ref C) (some e))) := same_new hq
    have hqG : upd H' q (ExT q (.ref C) (some e)) q = some (ExT q (.ref C) (some e)) := upd_same
    have heG := sq _ _ he
    refine ⟨_, rfl, _, rfl, iteF ?_⟩
    refine ⟨_, rfl, q, e, _, "ValueError", true, rfl, hqG, heG, vk, _, rfl, iteT ?_⟩
    refine ⟨_, rfl, q, e, _, .int i, rfl, hqG, heG, rfl, _, .int i, rfl, .int _, _, rfl, ?_⟩
    refine ⟨_, rfl, q, e, _, .int i, rfl, hqG, heG, rfl, (by show 1 ≤ sizeLine; decide), fun p hp => ?_⟩
    refine k _ _ ((s1.trans sq).trans (same_new hp)) ?_
    rw [an]
    exact .tup (SqT.of upd_same) (.cons (.int _) .nil)
end
end SG
namespace SG
open PySem PySem.Spec PyProof.Rows L2 TL
def spTouches : Sp := fun vs H Q _ => ∃ (t c : Addr) (n m : Nat) (wd : Int), vs = [.ref t, .int m, .int wd] ∧ TapeAt H t c n ∧ n ≤ 100000 ∧ m ≤ 110 ∧ (1 ≤ wd ∧ wd ≤ 300) ∧
  ∀ (p : Addr) (xs : List V) (ds : List PyData) (H' : Hp), Fr [t] H H' → TapeAt H' t c (n + 2000) → H p = none → H' p = some (.lst xs) → ImAll H' xs ds → ds.length = m → (∀ d ∈ ds, isT d = true) → Q (.ref p) H'
def Pls (H : Hp) (i : Nat) (kvs : List (Key × V)) : Prop := ∀ k v, valV kvs k = some v → ∃ (q : Addr) (x y : Int), v = .ref q ∧ H q = some (.tup [.int x, .int y]) ∧ (-300 - 40 * i ≤ x ∧ x ≤ 300 + 40 * i) ∧ (-300 - 40 * i ≤ y ∧ y ≤ 300 + 40 * i)
def TcI (H0 : Hp) (t c : Addr) (n m : Nat) (wd : Int) (fd pl : Addr) (i : Nat) (σ : L2.St) (H : Hp) : Prop :=
  ∃ (dn : Addr) (mo : Int) (u7 u8 u9 u10 u11 u12 u13 u14 : Option V) (xs : List V) (ds : List PyData) (kvs : List (Key × V)) (downs : List Int),
    σ = [some (.ref t), some (.int m), some (.int wd), some (.ref dn), some (.int mo), some (.ref fd), some (.ref pl), u7, u8, u9, u10, u11, u12, u13, u14] ∧
    TapeAt H t c (n + 2 + 13 * i) ∧ Fr [t] H0 H ∧ (0 ≤ mo ∧ mo ≤ 99 + 700 * i) ∧ H fd = some (.lst xs) ∧ ImAll H xs ds ∧ ds.length = i ∧ (∀ d ∈ ds, isT d = true) ∧
    H pl = some (.dK kvs) ∧ kvs.length ≤ i ∧ Pls H i kvs ∧ H dn = some (.lst (downs.map V.int)) ∧ downs.length ≤ i ∧ dn ≠ fd
theorem cmul_small {a b : Int} (h1 : -1000 ≤ a ∧ a ≤ 1000) (h2 : -1000 ≤ b ∧ b ≤ 1000) : CMul a b := .inl ⟨by omega, by omega⟩
theorem putK_len10 (kvs : List (Key × V)) (k : Key) (x : V) : (putK kvs k x).length ≤ kvs.length + 1 := by
  unfold putK
  split
  · rw [List.length_map]; omega
  · rw [List.length_append]; exact Nat.le_refl _
theorem flat_ints : ∀ ds : List Int, (ds.map V.int).all flatV = true
  | [] => rfl
  | d :: ds => by
    show (true && (ds.map V.int).all flatV) = true
    rw [flat_ints ds]; rfl
section
variable {P : Program} {w : World} {K : PySem.W.Frag} {mg : Str → Option Value} {base : Heap}
theorem ok_touches (D : Df K mg "_law_touches" s_law_touches ["_law_tape_here", "_law_many", "_law_wide"]) (T : Txt K mg) (c_law_draw : Cl P w K mg base 1 "_law_draw" spDraw) : Cl P w K mg base 2 "_law_touches" spTouches := by
  refine D.ok sc_law_touches (fun vs H Q E h => ?_) (fun f cdv A outer s H vs Q E hr h => ?_)
  · obtain ⟨_, _, _, _, _, rfl, _⟩ := h
    rfl
  have hu := hu_of hr
  obtain ⟨t, c, n, m, wd, rfl, hT, hn, hm, hwd, k⟩ := h
  refine ⟨_, -- _law_down = []
    (pss_cons (ps_set (i := 3) sc_law_touches.nd rfl (Or.inl rfl) (pe_lst pa_nil))
    (pss_cons (ps_set (i := 4) sc_law_touches.nd rfl (Or.inl rfl) (pe_op op_mul (pe_cl c_law_draw (hr.mono (by first | decide | omega)) rfl (pa_cons (pv 0) (pa_cons pe_int pa_nil))) (pe_cl c_law_draw (hr.mono (by first | decide | omega)) rfl (pa_cons (pv 0) (pa_cons pe_int pa_nil)))))
    (pss_cons (ps_set (i := 5) sc_law_touches.nd rfl (Or.inl rfl) (pe_lst pa_nil))
    (pss_cons (ps_set (i := 6) sc_law_touches.nd rfl (Or.inl rfl) pe_dnewK)
    (pss_cons (ps_for PassesOwn.never rfl (pi_range1 rfl T.m_range (pa_cons (pv 1) pa_nil)) (pg_name (i := 7) sc_law_touches.nd rfl (Or.inl rfl))
      (pss_cons (ps_set (i := 4) sc_law_touches.nd rfl (Or.inl rfl) (pe_op op_add (pv 4) (pe_ix ix_list (pe_lst (pa_cons pe_int (pa_cons pe_int (pa_cons pe_int (pa_cons pe_int (pa_cons pe_int (pa_cons pe_int (pa_cons pe_int (pa_cons pe_int (pa_cons pe_int (pa_cons pe_int (pa_cons (pe_cl c_law_draw (hr.mono (by first | decide | omega)) rfl (pa_cons (pv 0) (pa_cons pe_int pa_nil))) pa_nil)))))))))))) (pe_cl c_law_draw (hr.mono (by first | decide | omega)) rfl (pa_cons (pv 0) (pa_cons pe_int pa_nil))) (fun _ _ => rfl))))
      (pss_cons (ps_set (i := 8) sc_law_touches.nd rfl (Or.inr rfl) (pe_ix ix_list (pe_lst (pa_cons pe_int (pa_cons pe_int (pa_cons pe_int (pa_cons (pe_cl c_law_draw (hr.mono (by first | decide | omega)) rfl (pa_cons (pv 0) (pa_cons pe_int pa_nil))) pa_nil))))) (pe_cl c_law_draw (hr.mono (by first | decide | omega)) rfl (pa_cons (pv 0) (pa_cons pe_int pa_nil))) (fun _ _ => rfl)))
      (C8.pss_cut (ps_set (i := 9) sc_law_touches.nd rfl (Or.inl rfl) (pe_ifExp (pt_cmpR op_in_seq (pv 8) (pv 3) (by with_unfolding_all rfl)) (pe_ix ix_list (pe_lst (pa_cons pe_str (pa_cons pe_str (pa_cons pe_str (pa_cons pe_str (pa_cons pe_str (pa_cons pe_str pa_nil))))))) (pe_cl c_law_draw (hr.mono (by first | decide | omega)) rfl (pa_cons (pv 0) (pa_cons pe_int pa_nil))) (fun _ _ => rfl)) pe_str))
      (pss_cons (ps_set (i := 10) sc_law_touches.nd rfl (Or.inl rfl) (pe_dget2 hu (pv 6) (pv 8) (pe_tup (pa_cons (pe_cl c_law_draw (hr.mono (by first | decide | omega)) rfl (pa_cons (pv 0) (pa_cons (pv 2) pa_nil))) (pa_cons (pe_cl c_law_draw (hr.mono (by first | decide | omega)) rfl (pa_cons (pv 0) (pa_cons (pv 2) pa_nil))) pa_nil))) ⟨by rfl, by rfl, by rfl, by rfl⟩))
      (pss_cons (ps_set (i := 11) sc_law_touches.nd rfl (Or.inl rfl) (pe_ix ix_list (pe_lst (pa_cons pe_int (pa_cons pe_int (pa_cons pe_int (pa_cons pe_int (pa_cons pe_int (pa_cons pe_int pa_nil))))))) (pe_cl c_law_draw (hr.mono (by first | decide | omega)) rfl (pa_cons (pv 0) (pa_cons pe_int pa_nil))) (fun _ _ => rfl)))
      (pss_cons (ps_par (i := 12) (j := 13) rfl sc_law_touches.nd rfl rfl (by decide) rfl rfl (pa_cons (pe_op op_add (pe_ix ix_tup (pv 10) pe_int (fun _ _ => rfl)) (pe_op op_mul (pv 11) (pe_op op_sub (pe_cl c_law_draw (hr.mono (by first | decide | omega)) rfl (pa_cons (pv 0) (pa_cons pe_int pa_nil))) pe_int))) (pa_cons (pe_op op_add (pe_ix ix_tup (pv 10) pe_int (fun _ _ => rfl)) (pe_op op_mul (pv 11) (pe_op op_sub (pe_cl c_law_draw (hr.mono (by first | decide | omega)) rfl (pa_cons (pv 0) (pa_cons pe_int pa_nil))) pe_int))) pa_nil)) rfl)
      (pss_cons (ps_dput hu (pv 6) (pv 8) (pe_tup (pa_cons (pv 12) (pa_cons (pv 13) pa_nil))) rfl)
      (pss_cons (ps_expr (pe_bm PySem.F.plainAttrs_list PySem.F.slot_list_append PySem.F.type_list_append mt_append (pv 5) (pa_cons (pe_tup (pa_cons (pv 4) (pa_cons (pv 8) (pa_cons (pv 9) (pa_cons (pv 12) (pa_cons (pv 13) pa_nil)))))) pa_nil)))
      (pss_one (ps_set (i := 3) sc_law_touches.nd rfl (Or.inl rfl) (pe_op op_cat (pe_lc (own := [("_law_one", 14)]) rfl sc_law_touches.nd (pi_list (pv 3)) (blkOk_by (N := N_law_touches) (sc := defScope s_law_touches) (by decide +kernel)) (fun _ _ _ _ _ => (pg_name (i := 14) sc_law_touches.nd rfl (Or.inl rfl))) (fun _ _ _ _ _ => pts_one (pt_cmpR op_ne (pv 14) (pv 8) (nomark _))) (fun _ _ _ _ _ => (pv 14))) (pe_op op_rep (pe_lst (pa_cons (pv 8) pa_nil)) (pe_callTy call_int1 rfl T.m_int (by decide +kernel) (pa_cons (pe_cmpR op_in_seq (pv 9) (pe_tup (pa_cons pe_str (pa_cons pe_str pa_nil))) (by with_unfolding_all rfl)) pa_nil)))))))))))))))
    (pss_one (ps_ret (pv 5)))))))), ?_⟩
  refine ⟨(by show 0 ≤ sizeLine; decide), ?_⟩
  (intro dn hdn; generalize hh_ : upd _ dn _ = H1; have edn := upd_is hh_; have s1 := same_is hh_ hdn; clear hh_)
  refine ⟨_, rfl, t, c, 2, n, rfl, hT.same s1, by decide, by omega, fun r1 H2 hr1 T2 F2 => ?_⟩
  refine ⟨_, rfl, t, c, 100, _, rfl, T2, by decide, by omega, fun r2 H3 hr2 T3 F3 => ?_⟩
  have hmul : 0 ≤ r1 * r2 ∧ r1 * r2 ≤ 99 := by
    have : r1 = 0 ∨ r1 = 1 := by omega
    rcases this with rfl | rfl <;> omega
  refine ⟨_, _, rfl, rfl, cmul_small (by omega) (by omega), ?_⟩
  generalize hmo : r1 * r2 = mo0 at hmul
  refine ⟨(by show 0 ≤ sizeLine; decide), ?_⟩
  (intro fd hfd; generalize hh_ : upd _ fd _ = H4; have efd := upd_is hh_; have s4 := same_is hh_ hfd; clear hh_)
  (intro pl hpl; generalize hh_ : upd _ pl _ = H5; have epl := upd_is hh_; have s5 := same_is hh_ hpl; clear hh_)
  refine ⟨_, rfl, m, rfl, ?_⟩
  have F5 : Fr [t] H H5 := (Fr.same s1 _).trans (F2.trans (F3.trans ((Fr.same s4 _).trans (Fr.same s5 _))))
  have dfd : dn ≠ fd := fun e => by
    subst e
    rw [F3 _ _ (F2 _ _ edn (not_in_one ((hT.same s1).ne_lst edn))) (not_in_one (T2.ne_lst (F2 _ _ edn (not_in_one ((hT.same s1).ne_lst edn)))))] at hfd
    cases hfd
  have plt : pl ≠ t := (T3.same s4).ne_new hpl
  have plc : pl ≠ c := (T3.same s4).ne_newc hpl
  have fdt : fd ≠ t := T3.ne_new hfd
  have fdc : fd ≠ c := T3.ne_newc hfd
  have fdp : fd ≠ pl := fun e => by subst e; rw [efd] at hpl; cases hpl
  have nofd : H fd = none := by
    cases e : H fd with
    | none => rfl
    | some o => rw [F3 _ _ (F2 _ _ (s1 _ _ e) (not_in_one fdt)) (not_in_one fdt)] at hfd; cases hfd
  have nopl : H pl = none := by
    cases e : H pl with
    | none => rfl
    | some o => rw [s4 _ _ (F3 _ _ (F2 _ _ (s1 _ _ e) (not_in_one plt)) (not_in_one plt))] at hpl; cases hpl
  refine ⟨by omega, by omega, for_range (lo := 0) (n := m) (TcI H t c n m wd fd pl) ?_ ?_ ?_⟩
  · exact ⟨dn, r1 * r2, none, none, none, none, none, none, none, none, [], [], [], [], rfl, (T3.same s4).same s5, F5, by rw [hmo]; omega, s5 _ _ efd, .nil, rfl, (fun _ h => by cases h), epl, Nat.le_refl _, (fun k v h => by cases h),
      s5 _ _ (s4 _ _ (F3 _ _ (F2 _ _ edn (not_in_one ((hT.same s1).ne_lst edn))) (not_in_one (T2.ne_lst (F2 _ _ edn (not_in_one ((hT.same s1).ne_lst edn))))))), Nat.le_refl _, dfd⟩
  · rintro i σ G hi ⟨dn, mo, u7, u8, u9, u10, u11, u12, u13, u14, xs, ds, kvs, downs, rfl, TG, FG, mB, gfd, im, ld, okd, gpl, lk, pk, gdn, ldn, ndf⟩
    refine ⟨_, rfl, ⟨_, rfl, t, c, 700, _, rfl, TG, by decide, by omega, fun r2 G2 hr2 T2 f2 => ⟨(by show 11 ≤ sizeLine; decide), ?_⟩⟩⟩
    intro p hp
    refine ⟨_, rfl, ?_⟩
    refine pick_draw (xs := [V.int 0, .int 0, .int 5, .int 10, .int 90, .int 100, .int 299, .int 300, .int 301, .int 500, .int r2]) T2 (by omega) rfl ⟨(by show 1 ≤ 11; decide), (by show 11 ≤ 1000; decide)⟩ (fun v G3 hv T3 f3 => ?_) p hp
    obtain ⟨q, rfl, q1, q2⟩ : ∃ q : Int, v = .int q ∧ 0 ≤ q ∧ q ≤ 700 := by
      simp only [List.mem_cons, List.not_mem_nil, or_false] at hv
      rcases hv with rfl | rfl | rfl | rfl | rfl | rfl | rfl | rfl | rfl | rfl | rfl <;> exact ⟨_, rfl, by omega, by omega⟩
    clear hp hv p
    refine ⟨_, _, rfl, rfl, ?_⟩
    refine ⟨_, rfl, t, c, 4, _, rfl, T3, by decide, by omega, fun r4 G4 hr4 T4 f4 => ⟨(by show 4 ≤ sizeLine; decide), ?_⟩⟩
    intro p hp
    refine ⟨_, rfl, ?_⟩
    refine pick_draw (xs := [V.int 0, .int 0, .int 1, .int r4]) T4 (by omega) rfl ⟨(by show 1 ≤ 4; decide), (by show 4 ≤ 1000; decide)⟩ (fun v G5 hv T5 f5 => ?_) p hp
    obtain ⟨fg, rfl, g1, g2⟩ : ∃ q : Int, v = .int q ∧ 0 ≤ q ∧ q ≤ 3 := by
      simp only [List.mem_cons, List.not_mem_nil, or_false] at hv
      rcases hv with rfl | rfl | rfl | rfl <;> exact ⟨_, rfl, by omega, by omega⟩
    clear hp hv p
    have f25 := f2.trans (f3.trans (f4.trans f5))
    have ndt : dn ≠ t := TG.ne_lst gdn
    have hdn5 := f25 _ _ gdn (not_in_one ndt)
    refine ⟨fun σ' G' => ∃ w : Str, σ' = [some (.ref t), some (.int m), some (.int wd), some (.ref dn), some (.int (mo + q)), some (.ref fd), some (.ref pl), some (.int (0 + (i : Int))), some (.int fg), some (.str w), u10, u11, u12, u13, u14] ∧ w ∈ wordsT ∧ TapeAt G' t c (n + 2 + 13 * i + 5) ∧ Fr [t] G G', ?_, ?_⟩
    · refine ⟨_, rfl, _, rfl, dn, _, rfl, .inl (SqL.of hdn5), rfl, flat_ints downs, _, rfl, ite2 (fun _ => ?_) fun _ => ?_⟩
      · refine ⟨(by show 6 ≤ sizeLine; decide), ?_⟩
        intro p hp
        refine ⟨_, rfl, ?_⟩
        refine pick_draw (xs := [V.str "move", .str "up", .str "up", .str "move", .str "move", .str "lost"]) T5 (by omega) rfl ⟨(by show 1 ≤ 6; decide), (by show 6 ≤ 1000; decide)⟩ (fun v G6 hv T6 f6 => ?_) p hp
        obtain ⟨w, rfl, hw⟩ : ∃ w : Str, v = .str w ∧ w ∈ wordsT := by
          simp only [List.mem_cons, List.not_mem_nil, or_false] at hv
          rcases hv with rfl | rfl | rfl | rfl | rfl | rfl <;> exact ⟨_, rfl, by simp [wordsT]⟩
        exact ⟨w, rfl, hw, T6.mono (by omega), f25.trans f6⟩
      · exact ⟨"down", rfl, by simp [wordsT], T5.mono (by omega), f25⟩
    clear hdn5
    rintro σ' G6 ⟨w, rfl, hw, T6, f6⟩
    have hpl6 := f6 _ _ gpl (not_in_one plt)
    refine ⟨_, rfl, pl, rfl, .inl ⟨_, .inl hpl6⟩, _, rfl, ?_⟩
    refine ⟨_, rfl, _, rfl, t, c, wd, _, rfl, T6, by omega, by omega, fun x0 G7 hx0 T7 f7 => ?_⟩
    refine ⟨_, rfl, _, rfl, t, c, wd, _, rfl, T7, by omega, by omega, fun y0 G8 hy0 T8 f8 => ⟨(by show 2 ≤ sizeLine; decide), ?_⟩⟩
    (intro z hz; generalize hh_ : upd _ z _ = G9; have ez := upd_is hh_; have s9 := same_is hh_ hz; clear hh_)
    have f69 : Fr [t] G6 G9 := f7.trans (f8.trans (Fr.same s9 _))
    have T9 := T8.same s9
    have hpl9 := f69 _ _ hpl6 (not_in_one plt)
    have near : ∃ (q9 : Addr) (x1 y1 : Int), (valV kvs (Sum.inl fg)).getD (.ref z) = .ref q9 ∧ G9 q9 = some (.tup [.int x1, .int y1]) ∧ (-300 - 40 * i ≤ x1 ∧ x1 ≤ 300 + 40 * i) ∧ (-300 - 40 * i ≤ y1 ∧ y1 ≤ 300 + 40 * i) := by
      cases e : valV kvs (Sum.inl fg) with
      | none => exact ⟨z, x0, y0, rfl, ez, by omega, by omega⟩
      | some v =>
        obtain ⟨q9, x1, y1, rfl, h1, h2, h3⟩ := pk _ _ e
        exact ⟨q9, x1, y1, rfl, f69 _ _ (f6 _ _ h1 (not_in_one (TG.ne_tup h1))) (not_in_one (T6.ne_tup (f6 _ _ h1 (not_in_one (TG.ne_tup h1))))), h2, h3⟩
    obtain ⟨q9, x1, y1, en, eq9, bx, bY⟩ := near
    refine ⟨_, DGet.k (k := Sum.inl fg) hpl9, ?_⟩
    rw [en]
    refine ⟨(by show 6 ≤ sizeLine; decide), ?_⟩
    intro p hp
    refine ⟨_, rfl, ?_⟩
    refine pick_draw (xs := [V.int 0, .int 0, .int 3, .int 18, .int 19, .int 40]) T9 (by omega) rfl ⟨(by show 1 ≤ 6; decide), (by show 6 ≤ 1000; decide)⟩ (fun v G10 hv T10 f10 => ?_) p hp
    obtain ⟨st, rfl, st1, st2⟩ : ∃ q : Int, v = .int q ∧ 0 ≤ q ∧ q ≤ 40 := by
      simp only [List.mem_cons, List.not_mem_nil, or_false] at hv
      rcases hv with rfl | rfl | rfl | rfl | rfl | rfl <;> exact ⟨_, rfl, by omega, by omega⟩
    clear hp hv p
    have eq10 := f10 _ _ eq9 (not_in_one (T9.ne_tup eq9))
    refine ⟨_, rfl, q9, _, 0, _, rfl, rfl, SqT.of eq10, atI_nat (j := 0) rfl, _, rfl, _, rfl, t, c, 3, _, rfl, T10, by decide, by omega, fun a G11 ha T11 f11 => ?_⟩
    have eq11 := f11 _ _ eq10 (not_in_one (T10.ne_tup eq10))
    have m1 : -40 ≤ st * (a - 1) ∧ st * (a - 1) ≤ 40 := by
      have : a = 0 ∨ a = 1 ∨ a = 2 := by omega
      rcases this with rfl | rfl | rfl <;> omega
    refine ⟨_, _, rfl, rfl, _, _, rfl, rfl, cmul_small (by omega) (by omega), _, _, rfl, rfl, ?_⟩
    refine ⟨_, rfl, q9, _, 1, _, rfl, rfl, SqT.of eq11, atI_nat (j := 1) rfl, _, rfl, _, rfl, t, c, 3, _, rfl, T11, by decide, by omega, fun b G12 hb T12 f12 => ?_⟩
    have m2 : -40 ≤ st * (b - 1) ∧ st * (b - 1) ≤ 40 := by
      have : b = 0 ∨ b = 1 ∨ b = 2 := by omega
      rcases this with rfl | rfl | rfl <;> omega
    refine ⟨_, _, rfl, rfl, _, _, rfl, rfl, cmul_small (by omega) (by omega), _, _, rfl, rfl, _, _, rfl, ?_⟩
    have hpl12 := f12 _ _ (f11 _ _ (f10 _ _ hpl9 (not_in_one plt)) (not_in_one plt)) (not_in_one plt)
    refine ⟨_, rfl, _, rfl, (by show 2 ≤ sizeLine; decide), ?_⟩
    (intro r hrn; generalize hh_ : upd _ r _ = G13; have er := upd_is hh_; have s13 := same_is hh_ hrn; clear hh_)
    have hpl13 := s13 _ _ hpl12
    have T13 := T12.same s13
    have f6_13 : Fr [t] G6 G13 := f69.trans (f10.trans (f11.trans (f12.trans (Fr.same s13 _))))
    have fG13 : Fr [t] G G13 := f6.trans f6_13
    refine ⟨_, rfl, _, rfl, pl, _, rfl, DPut.k (k := Sum.inl fg) hpl13 (Nat.lt_of_le_of_lt (by omega : _ ≤ 1000) (by decide)), ?_⟩
    have er : G13 r = some (.tup [.int (x1 + st * (a - 1)), .int (y1 + st * (b - 1))]) := er
    generalize e14 : upd G13 pl (.dK (putK kvs (Sum.inl fg) (.ref r))) = G14
    have pl14 : G14 pl = _ := upd_is e14
    have o14 : ∀ p, p ≠ pl → G14 p = G13 p := fun p hp => by rw [← e14, upd_ne hp]
    have T14 : TapeAt G14 t c (n + 2 + 13 * i + 10) := by rw [← e14]; exact T13.put plt plc
    have gfd14 : G14 fd = some (.lst xs) := by rw [o14 fd fdp]; exact fG13 _ _ gfd (not_in_one fdt)
    refine ⟨_, rfl, .inl ⟨rfl, xs, SqL.of gfd14⟩, _, rfl, _, rfl, _, rfl, _, rfl, _, rfl, (by show 5 ≤ sizeLine; decide), ?_⟩
    (intro tu htu; generalize hh_ : upd _ tu _ = G15; have etu := upd_is hh_; have s15 := same_is hh_ htu; clear hh_)
    have etu : G15 tu = some (.tup [.int (mo + q), .int fg, .str w, .int (x1 + st * (a - 1)), .int (y1 + st * (b - 1))]) := etu
    have gfd15 := s15 _ _ gfd14
    have lxs := ImAll.ln im
    refine ⟨fd, xs, _, rfl, rfl, gfd15, Nat.lt_of_le_of_lt (by omega : _ ≤ 1000) (by decide), ?_⟩
    generalize e16 : upd G15 fd (.lst (xs ++ [.ref tu])) = G16
    have fd16 : G16 fd = _ := upd_is e16
    have o16 : ∀ p, p ≠ fd → G16 p = G15 p := fun p hp => by rw [← e16, upd_ne hp]
    have T16 : TapeAt G16 t c (n + 2 + 13 * i + 10) := by rw [← e16]; exact (T14.same s15).put fdt fdc
    have tp16 : ∀ p ys, G p = some (.tup ys) → G16 p = some (.tup ys) := by
      intro p ys e
      have n1 : p ≠ t := TG.ne_tup e
      have h13 := fG13 _ _ e (not_in_one n1)
      have n2 : p ≠ pl := fun z => by subst z; rw [hpl13] at h13; cases h13
      have n3 : p ≠ fd := fun z => by subst z; rw [gfd] at e; cases e
      rw [o16 p n3]
      exact s15 _ _ (by rw [o14 p n2]; exact h13)
    have r16 : G16 r = some (.tup [.int (x1 + st * (a - 1)), .int (y1 + st * (b - 1))]) := by
      have n2 : r ≠ pl := fun z => by subst z; rw [hpl13] at er; cases er
      have n3 : r ≠ fd := fun z => by
        subst z
        have := fG13 _ _ gfd (not_in_one fdt)
        rw [er] at this; cases this
      rw [o16 r n3]
      exact s15 _ _ (by rw [o14 r n2]; exact er)
    have tu16 : G16 tu = some (.tup [.int (mo + q), .int fg, .str w, .int (x1 + st * (a - 1)), .int (y1 + st * (b - 1))]) := by
      rw [o16 tu (fun z => by subst z; rw [gfd15] at etu; cases etu)]; exact etu
    have pl16 : G16 pl = some (.dK (putK kvs (Sum.inl fg) (.ref r))) := by
      rw [o16 pl (Ne.symm fdp)]; exact s15 _ _ pl14
    have dn16 : G16 dn = some (.lst (downs.map V.int)) := by
      have n2 : dn ≠ pl := fun z => by subst z; rw [gdn] at gpl; cases gpl
      rw [o16 dn ndf]
      exact s15 _ _ (by rw [o14 dn n2]; exact fG13 _ _ gdn (not_in_one (TG.ne_lst gdn)))
    refine ⟨_, rfl, dn, rfl, ⟨_, SqL.of dn16⟩, fun D hD => ?_⟩
    refine lc_list (K := K) (a := dn) (xs := downs.map V.int) (fun j Hx => ∃ ks : List Int, Hx D = some (.lst (ks.map V.int)) ∧ ks.length ≤ j ∧ Same G16 Hx) ⟨[], upd_same, Nat.zero_le _, same_new hD⟩ (fun j Hx _ ⟨_, _, _, sx⟩ => SqL.of (sx _ _ dn16)) ?_ ?_
    · rintro j v Hx hv ⟨ks, h1, h2, sx⟩
      have jl := (List.getElem?_eq_some_iff.mp hv).1
      rw [List.length_map] at jl
      rw [List.getElem?_map] at hv
      obtain ⟨kk, _, rfl⟩ := Option.map_eq_some_iff.mp hv
      refine ⟨rfl, _, rfl, _, rfl, rfl, _, rfl, ite2 (fun _ => ?_) fun _ => ?_⟩
      · refine ⟨_, rfl, _, h1, Nat.lt_of_le_of_lt (by rw [List.length_map]; omega : _ ≤ 1000) (by decide), ks ++ [kk], ?_, by simp; omega, fun p o e => by rw [upd_ne (ne_of_none e hD)]; exact sx _ _ e⟩
        rw [upd_same, List.map_append]; rfl
      · exact ⟨ks, h1, by omega, sx⟩
    rintro G17 ⟨ks, h1, h2, s17⟩
    rw [List.length_map] at h2
    refine ⟨_, rfl, (by show 1 ≤ sizeLine; decide), ?_⟩
    (intro o1 ho1; generalize hh_ : upd _ o1 _ = G18; have eo1 := upd_is hh_; have s18 := same_is hh_ ho1; clear hh_)
    refine ⟨_, rfl, (by show 2 ≤ sizeLine; decide), ?_⟩
    (intro o2 ho2; generalize hh_ : upd _ o2 _ = G19; have eo2 := upd_is hh_; have s19 := same_is hh_ ho2; clear hh_)
    refine ⟨o2, _, rfl, .inr (SqT.of eo2), rfl, rfl, .inr ⟨_, rfl, ?_⟩⟩
    generalize (if false = true then _ else inV (V.str w) _) = bb
    have kb : 0 ≤ (if bb = true then (1 : Int) else 0) ∧ (if bb = true then (1 : Int) else 0) ≤ 1 := by cases bb <;> decide
    have kn : (List.replicate (if bb = true then (1 : Int) else 0).toNat [V.int fg]).flatten = (if bb = true then [fg] else []).map V.int := by cases bb <;> rfl
    have kl : (if bb = true then [fg] else []).length ≤ 1 := by cases bb <;> simp
    have k1 : (if bb = true then (1 : Int) else 0).toNat ≤ 1 := by cases bb <;> decide
    refine ⟨o1, _, _, rfl, rfl, s19 _ _ eo1, by omega, by omega, Nat.le_trans (by rw [List.length_singleton]; omega : _ ≤ 1000) (by decide), ?_⟩
    rw [kn]
    (intro o3 ho3; generalize hh_ : upd _ o3 _ = G20; have eo3 := upd_is hh_; have s20 := same_is hh_ ho3; clear hh_)
    have hD20 := s20 _ _ (s19 _ _ (s18 _ _ h1))
    refine ⟨D, o3, _, _, rfl, rfl, hD20, eo3, Nat.le_trans (by rw [List.length_map, List.length_map]; omega : _ ≤ 1000) (by decide), ?_⟩
    (intro nd hnd; generalize hh_ : upd _ nd _ = G21; have end_ := upd_is hh_; have s21 := same_is hh_ hnd; clear hh_)
    have sE : Same G16 G21 := s17.trans (s18.trans (s19.trans (s20.trans s21)))
    have ndf2 : nd ≠ fd := fun z => by
      subst z
      have := s20 _ _ (s19 _ _ (s18 _ _ (s17 _ _ fd16)))
      rw [hnd] at this; cases this
    have tpE : ∀ p ys, G p = some (.tup ys) → G21 p = some (.tup ys) := fun p ys e => sE _ _ (tp16 p ys e)
    have imE : ImAll G21 xs ds := ImAll.tp tpE im
    have itu : Im G21 (.ref tu) (.tuple [.int (mo + q), .int fg, .str w, .int (x1 + st * (a - 1)), .int (y1 + st * (b - 1))]) :=
      .tup (sE _ _ tu16) (.cons (.int _) (.cons (.int _) (.cons (.str _) (.cons (.int _) (.cons (.int _) .nil)))))
    refine ⟨nd, mo + q, some (.int (0 + (i : Int))), some (.int fg), some (.str w), some (.ref q9), some (.int st), some (.int (x1 + st * (a - 1))), some (.int (y1 + st * (b - 1))), u14, xs ++ [.ref tu], ds ++ [_], _, ks ++ (if bb = true then [fg] else []), rfl,
      (T16.same sE).mono (by omega), ?_, by omega, sE _ _ fd16, ImAll.app imE (.cons itu .nil), by rw [List.length_append, ld]; rfl, ?_, sE _ _ pl16, Nat.le_trans (putK_len10 _ _ _) (by omega), ?_, ?_, by rw [List.length_append]; omega, ndf2⟩
    · intro p o e hp
      have n2 : p ≠ pl := fun z => by subst z; rw [nopl] at e; cases e
      have n3 : p ≠ fd := fun z => by subst z; rw [nofd] at e; cases e
      refine sE _ _ ?_
      rw [o16 p n3]
      exact s15 _ _ (by rw [o14 p n2]; exact fG13 _ _ (FG _ _ e hp) hp)
    · intro d hd
      rcases List.mem_append.mp hd with h | h
      · exact okd d h
      · rw [List.mem_singleton.mp h]
        show (bet (.int (mo + q)) 0 1000000000 && (bet (.int fg) 0 9 && (inL wordsT (.str w) && (bet (.int (x1 + st * (a - 1))) (-10000) 10000 && bet (.int (y1 + st * (b - 1))) (-10000) 10000)))) = true
        have bi : ∀ {j lo hi : Int}, lo ≤ j → j ≤ hi → bet (.int j) lo hi = true := fun {j lo hi} h1 h2 => by
          show (decide (lo ≤ j) && decide (j ≤ hi)) = true
          rw [decide_eq_true h1, decide_eq_true h2]; rfl
        rw [bi (by omega) (by omega), bi (by omega) (by omega), bi (by omega) (by omega), bi (by omega) (by omega)]
        have : ∀ w ∈ wordsT, inL wordsT (.str w) = true := by
          intro w hw
          unfold inL
          rw [List.any_map, List.any_eq_true]
          exact ⟨w, hw, by simp [PyData.eqv]⟩
        rw [this w hw]; rfl
    · intro kk v hv
      rw [valV_put] at hv
      by_cases e : kk = Sum.inl fg
      · rw [if_pos e] at hv
        cases hv
        exact ⟨r, _, _, rfl, sE _ _ r16, by omega, by omega⟩
      · rw [if_neg e] at hv
        obtain ⟨q8, x8, y8, rfl, h1, h2, h3⟩ := pk _ _ hv
        exact ⟨q8, x8, y8, rfl, tpE _ _ h1, by omega, by omega⟩
    · rw [List.map_append]; exact end_
  · rintro σ G ⟨dn, mo, u7, u8, u9, u10, u11, u12, u13, u14, xs, ds, kvs, downs, rfl, TG, FG, mB, gfd, im, ld, okd, gpl, lk, pk, gdn, ldn, ndf⟩
    exact ⟨_, rfl, k fd xs ds G FG (TG.mono (by omega)) nofd gfd im ld okd⟩
end
end SG
namespace SG
open PySem PySem.Spec PyProof.Rows L2 TL
/-- what joining weighs -/
def Wt (l : List Str) : Nat := (l.map fun s => s.length + 1).sum
theorem wt_app (a b : List Str) : Wt (a ++ b) = Wt a + Wt b := by unfold Wt; rw [List.map_append, List.sum_append]
theorem wt_one (a : Str) : Wt [a] = a.length + 1 := by unfold Wt; simp
theorem wt_cons (a : Str) (l : List Str) : Wt (a :: l) = a.length + 1 + Wt l := by unfold Wt; rw [List.map_cons, List.sum_cons]
theorem wt_split {l : List Str} {i j : Nat} (h : i ≤ j) : Wt (l.take i) + Wt (l.drop j) ≤ Wt l := by
  have e : l = l.take i ++ l.drop i := (List.take_append_drop i l).symm
  have e2 : l.drop i = (l.drop i).take (j - i) ++ l.drop j := by
    have : l.drop j = (l.drop i).drop (j - i) := by rw [List.drop_drop]; congr 1; omega
    rw [this, List.take_append_drop]
  have h1 : Wt l = Wt (l.take i) + Wt (l.drop i) := by rw [← wt_app, ← e]
  have h2 : Wt (l.drop i) = Wt ((l.drop i).take (j - i)) + Wt (l.drop j) := by rw [← wt_app, ← e2]
  omega
theorem wt_fits {ys : List Str} {y : Str} (hy : y.length = 1) (h : Wt ys ≤ 16777216) : (ys.map (·.length)).sum + ys.length * y.length ≤ 16777216 := by
  have : Wt ys = (ys.map (·.length)).sum + ys.length := by
    unfold Wt
    induction ys with
    | nil => rfl
    | cons a l ih =>
      have := ih (by rw [wt_cons] at h; omega)
      simp only [List.map_cons, List.sum_cons, List.length_cons]
      omega
  rw [hy]; omega
theorem join_wt {y : Str} (hy : y.length = 1) : ∀ ys : List Str, (Txt.join y ys).length ≤ Wt ys ∧ Wt ys ≤ (Txt.join y ys).length + 1
  | [] => by rw [join_eq]; exact ⟨Nat.le_refl _, Nat.zero_le _⟩
  | [a] => by
    rw [join_eq, wt_one]
    show a.length ≤ _ ∧ _ ≤ a.length + 1
    omega
  | a :: b :: l => by
    have ih := join_wt hy (b :: l)
    rw [join_eq] at ih ⊢
    rw [wt_cons]
    have e : (Str.join y (a :: b :: l)).length = a.length + 1 + (Str.join y (b :: l)).length := by
      show (a ++ y ++ Str.join y (b :: l)).length = _
      rw [len_tl, tl_append, tl_append, List.length_append, List.length_append, ← len_tl, ← len_tl, ← len_tl, hy]
    omega
theorem nl1 : ("\n" : Str).length = 1 := by decide +kernel
theorem sp1 : (" " : Str).length = 1 := by decide +kernel
theorem wt_rows (z y : Str) (hy : y.length = 1) : Wt (Txt.split z y) ≤ z.length + 1 := by
  have := (join_wt hy (Txt.split z y)).2
  rw [join_eq, StrLaws.join_split] at this
  exact this
theorem cut_take (xs : List V) (i : Nat) : cutV xs none (some (i : Int)) = xs.take i := by
  unfold cutV
  rw [HT.sIx_nat]
  show (xs.drop 0).take (min i xs.length - 0) = _
  rw [List.drop_zero, Nat.sub_zero]
  by_cases c : i ≤ xs.length
  · rw [Nat.min_eq_left c]
  · rw [Nat.min_eq_right (by omega), List.take_of_length_le (Nat.le_refl _), List.take_of_length_le (by omega)]
theorem cut_drop (xs : List V) (i : Nat) : cutV xs (some (i : Int)) none = xs.drop i := by
  unfold cutV
  rw [HT.sIx_nat]
  show (xs.drop (min i xs.length)).take (xs.length - min i xs.length) = _
  by_cases c : i ≤ xs.length
  · rw [Nat.min_eq_left c]
    exact List.take_of_length_le (by rw [List.length_drop]; exact Nat.le_refl _)
  · rw [Nat.min_eq_right (by omega), List.drop_of_length_le (Nat.le_refl _), List.drop_of_length_le (by omega), List.take_nil]
theorem mem_wt {l : List Str} {a : Str} (h : a ∈ l) : a.length + 1 ≤ Wt l := by
  induction l with
  | nil => cases h
  | cons b l ih =>
    rw [wt_cons]
    rcases List.mem_cons.mp h with rfl | h
    · omega
    · have := ih h; omega
theorem at_str {ss : List Str} {i : Int} (h0 : 0 ≤ i) (h1 : i < ss.length) : ∃ (j : Nat) (s : Str), i = j ∧ j < ss.length ∧ s ∈ ss ∧ atI (ss.map V.str) i = some (.str s) := by
  obtain ⟨j, rfl⟩ := Int.eq_ofNat_of_zero_le h0
  have hj : j < ss.length := by omega
  exact ⟨j, ss[j], rfl, hj, List.getElem_mem hj, atI_nat (by rw [List.getElem?_map, List.getElem?_eq_getElem hj]; rfl)⟩
def signsT : Str := "abcdefghijklmnopqrstuvwxyzABCDEFGHIJKLMNOPQRSTUVWXYZ0123456789!#$&'()*+,-./:;<=>?\x40[]^_{|}~ \n"
theorem signs_len : 1 ≤ signsT.length ∧ signsT.length ≤ 1000 := by decide +kernel
theorem len_wt (l : List Str) : l.length ≤ Wt l := by
  induction l with
  | nil => exact Nat.le_refl _
  | cons a l ih => rw [wt_cons, List.length_cons]; omega
theorem cutS_len (z : Str) (lo hi : Option Int) : (cutS z lo hi).length ≤ z.length := by
  show (List.take _ (List.drop _ (tl z))).length ≤ _
  rw [List.length_take, List.length_drop, ← len_tl]
  omega
/-- a list of few texts -/
def OneL (H : Hp) (B : Nat) (v : V) : Prop := ∃ (p : Addr) (ss : List Str), v = .ref p ∧ H p = some (.lst (ss.map V.str)) ∧ Wt ss ≤ B
theorem OneL.same {H H' : Hp} {B : Nat} {v : V} (h : OneL H B v) (s : Same H H') : OneL H' B v := by
  obtain ⟨p, ss, e, h1, h2⟩ := h
  exact ⟨p, ss, e, s _ _ h1, h2⟩
theorem ones_ne {H : Hp} {B : Nat} {p m : Addr} {vs : List V} {ss : List Str} (hp : H p = some (.lst (ss.map V.str))) (hm : H m = some (.lst vs)) (n : 1 ≤ vs.length) (h : ∀ v ∈ vs, OneL H B v) : p ≠ m := by
  intro e
  subst e
  rw [hm] at hp
  have e2 : vs = ss.map V.str := HO.lst.inj (Option.some.inj hp)
  cases vs with
  | nil => simp at n
  | cons v l =>
    obtain ⟨q, _, e3, _⟩ := h v (List.mem_cons_self ..)
    cases ss with
    | nil => cases e2
    | cons s r => rw [e3] at e2; cases e2
def spBent : Sp := fun vs H Q _ => ∃ (t c so : Addr) (n : Nat) (z : Str) (ss : List Str), vs = [.ref t, .str z, .ref so] ∧ TapeAt H t c n ∧ n ≤ 100000 ∧ H so = some (.lst (ss.map V.str)) ∧ (1 ≤ ss.length ∧ ss.length ≤ 1000) ∧ (∀ s ∈ ss, s.length ≤ 4400) ∧ z.length ≤ 30000 ∧
  ∀ (r : Str) (H' : Hp), Fr [t] H H' → TapeAt H' t c (n + 20) → r.length ≤ 3 * z.length + 5000 → Q (.str r) H'
section
variable {P : Program} {w : World} {K : PySem.W.Frag} {mg : Str → Option Value} {base : Heap}
set_option maxHeartbeats 4000000 in
theorem ok_bent (D : Df K mg "_law_bent_text" s_law_bent_text ["_law_tape_here", "_law_text", "_law_some"]) (T : Txt K mg) (c_law_draw : Cl P w K mg base 1 "_law_draw" spDraw) : Cl P w K mg base 2 "_law_bent_text" spBent := by
  refine D.ok sc_law_bent_text (fun vs H Q E h => ?_) (fun f cdv A outer s H vs Q E hr h => ?_)
  · obtain ⟨_, _, _, _, _, _, rfl, _⟩ := h
    rfl
  obtain ⟨t, c, so, n, z, ss, rfl, hT, hn, hso, ⟨ss1, ss2⟩, lss, lz, k⟩ := h
  have big : 200000 ≤ sizeLine := by decide
  have sot := hT.ne_lst hso
  refine ⟨_, -- _law_rows = _law_text.split('\n')
    (pss_cons (ps_set (i := 3) sc_law_bent_text.nd rfl (Or.inr rfl) (pe_split (pv 1) pe_str))
    (pss_cons (ps_set (i := 4) sc_law_bent_text.nd rfl (Or.inr rfl) (pe_cl c_law_draw (hr.mono (by first | decide | omega)) rfl (pa_cons (pv 0) (pa_cons (pe_callB call_len_seq (by rfl) T.m_len PySem.boot_len (pa_cons (pv 3) pa_nil)) pa_nil))))
    (pss_cons (ps_set (i := 5) sc_law_bent_text.nd rfl (Or.inl rfl) (pe_split (pe_ix ix_list (pv 3) (pv 4) (fun _ _ => rfl)) pe_str))
    (pss_cons (ps_set (i := 6) sc_law_bent_text.nd rfl (Or.inl rfl) (pe_cl c_law_draw (hr.mono (by first | decide | omega)) rfl (pa_cons (pv 0) (pa_cons (pe_callB call_len_seq (by rfl) T.m_len PySem.boot_len (pa_cons (pv 5) pa_nil)) pa_nil))))
    (pss_cons (ps_set (i := 7) sc_law_bent_text.nd rfl (Or.inl rfl) (pe_ix ix_list (pv 2) (pe_cl c_law_draw (hr.mono (by first | decide | omega)) rfl (pa_cons (pv 0) (pa_cons (pe_callB call_len_seq (by rfl) T.m_len PySem.boot_len (pa_cons (pv 2) pa_nil)) pa_nil))) (fun _ _ => rfl)))
    (pss_cons (ps_set (i := 8) sc_law_bent_text.nd rfl (Or.inl rfl) pe_str)
    (pss_cons (ps_set (i := 9) sc_law_bent_text.nd rfl (Or.inl rfl) (pe_ix ix_str (pv 8) (pe_cl c_law_draw (hr.mono (by first | decide | omega)) rfl (pa_cons (pv 0) (pa_cons (pe_callB call_len_str (by rfl) T.m_len PySem.boot_len (pa_cons (pv 8) pa_nil)) pa_nil))) (fun _ _ => rfl)))
    (C8.pss_cut (ps_set (i := 10) sc_law_bent_text.nd rfl (Or.inl rfl) (pe_cl c_law_draw (hr.mono (by first | decide | omega)) rfl (pa_cons (pv 0) (pa_cons (pe_op op_add (pe_callB call_len_str (by rfl) T.m_len PySem.boot_len (pa_cons (pv 1) pa_nil)) pe_int) pa_nil))))
    (pss_cons (ps_set (i := 11) sc_law_bent_text.nd rfl (Or.inl rfl) (pe_lst (pa_cons (pe_lst (pa_cons (pe_join pe_str (pe_op op_cat (pe_op op_cat (pe_slice sl_list (pv 5) po_none (po_some (pv 6))) (pe_lst (pa_cons (pv 7) pa_nil))) (pe_slice sl_list (pv 5) (po_some (pe_op op_add (pv 6) pe_int)) po_none))) pa_nil)) (pa_cons (pe_lst pa_nil) (pa_cons (pe_lst (pa_cons (pe_ix ix_list (pv 3) (pv 4) (fun _ _ => rfl)) (pa_cons (pe_ix ix_list (pv 3) (pv 4) (fun _ _ => rfl)) pa_nil))) pa_nil)))))
    (C8.pss_cut (ps_set (i := 11) sc_law_bent_text.nd rfl (Or.inl rfl) (pe_op op_cat (pv 11) (pe_lst (pa_cons (pe_lst (pa_cons (pe_ix ix_list (pv 3) (pe_cl c_law_draw (hr.mono (by first | decide | omega)) rfl (pa_cons (pv 0) (pa_cons (pe_callB call_len_seq (by rfl) T.m_len PySem.boot_len (pa_cons (pv 3) pa_nil)) pa_nil))) (fun _ _ => rfl)) pa_nil)) (pa_cons (pe_lst (pa_cons (pe_join pe_str (pe_op op_cat (pe_op op_cat (pe_slice sl_list (pv 5) po_none (po_some (pv 6))) (pe_lst (pa_cons (pv 7) pa_nil))) (pe_slice sl_list (pv 5) (po_some (pv 6)) po_none))) pa_nil)) pa_nil)))))
    (pss_cons (ps_expr (pe_bm PySem.F.plainAttrs_list PySem.F.slot_list_append PySem.F.type_list_append mt_append (pv 11) (pa_cons (pe_lst (pa_cons (pe_ix ix_list (pv 3) (pv 4) (fun _ _ => rfl)) (pa_cons (pe_ix ix_list (pv 3) (pe_cl c_law_draw (hr.mono (by first | decide | omega)) rfl (pa_cons (pv 0) (pa_cons (pe_callB call_len_seq (by rfl) T.m_len PySem.boot_len (pa_cons (pv 3) pa_nil)) pa_nil))) (fun _ _ => rfl)) pa_nil))) pa_nil)))
    (C8.pss_cut (ps_set (i := 12) sc_law_bent_text.nd rfl (Or.inl rfl) (pe_op op_cat (pe_lc (own := [("_law_one", 14)]) rfl sc_law_bent_text.nd (pi_list (pv 11)) (blkOk_by (N := N_law_bent_text) (sc := defScope s_law_bent_text) (by decide +kernel)) (fun _ _ _ _ _ => (pg_name (i := 14) sc_law_bent_text.nd rfl (Or.inl rfl))) (fun _ _ _ _ _ => pts_nil) (fun _ _ _ _ _ => (pe_op op_cat (pe_op op_cat (pe_slice (r := rSlL K) sl_list (pv 3) po_none (po_some (pv 4))) (pv 14)) (pe_slice (r := rSlL K) sl_list (pv 3) (po_some (pe_op op_add (pv 4) pe_int)) po_none)))) (pe_lst (pa_cons (pe_op op_cat (pv 3) (pe_lst (pa_cons pe_str pa_nil))) (pa_cons (pe_slice sl_list (pv 3) po_none (po_some (pv 4))) (pa_cons (pe_op op_cat (pe_lst (pa_cons pe_str pa_nil)) (pv 3)) pa_nil))))))
    (pss_cons (ps_setLc (i := 13) (own := [("_law_one", 14)]) rfl sc_law_bent_text.nd rfl rfl (sw_true rfl rfl rfl (by decide +kernel)) (pi_list (pv 12)) (blkOk_by (N := N_law_bent_text) (sc := defScope s_law_bent_text) (by decide +kernel)) (fun _ _ _ _ _ => (pg_name (i := 14) sc_law_bent_text.nd rfl (Or.inl rfl))) (fun _ _ _ _ _ => pts_nil) (fun _ _ _ _ _ => (pe_joinK (K := K) pe_str (pv 14))))
    (pss_cons (ps_set (i := 13) sc_law_bent_text.nd rfl (Or.inl rfl) (pe_op op_cat (pv 13) (pe_lst (pa_cons (pe_op op_add_str (pe_op op_add_str (pe_slice sl_str (pv 1) po_none (po_some (pv 10))) (pv 9)) (pe_slice sl_str (pv 1) (po_some (pv 10)) po_none)) (pa_cons (pe_op op_add_str (pe_op op_add_str (pe_slice sl_str (pv 1) po_none (po_some (pv 10))) (pv 9)) (pe_slice sl_str (pv 1) (po_some (pe_op op_add (pv 10) pe_int)) po_none)) pa_nil)))))
    (pss_one (ps_ret (pe_ix ix_list (pv 13) (pe_cl c_law_draw (hr.mono (by first | decide | omega)) rfl (pa_cons (pv 0) (pa_cons pe_int pa_nil))) (fun _ _ => rfl)))))))))))))))))), ?_⟩
  refine ⟨_, rfl, ⟨_, rfl⟩, z, _, rfl, rfl, (by decide +kernel), by omega, ?_⟩
  (intro R R0; generalize hh_ : upd _ R _ = H1; have eR := upd_is hh_; have s1 := same_is hh_ R0; clear hh_)
  have rp := PyProof.Rows.split_pos z "\n"
  have rl := PyProof.Rows.split_le z "\n"
  have rw0 := wt_rows z "\n" nl1
  generalize Txt.split z "\n" = rows at eR rp rl rw0
  have Rt : R ≠ t := (hT.same s1).ne_lst eR
  refine ⟨_, rfl, _, rfl, R, _, rfl, .inl (SqL.of eR), t, c, _, n, rfl, hT.same s1, by rw [List.length_map]; omega, by omega, fun at_ H2 hat T2 f2 => ?_⟩
  rw [List.length_map] at hat
  have eR2 := f2 _ _ eR (not_in_one Rt)
  obtain ⟨ia, row, rfl, lia, mrow, atr⟩ := at_str hat.1 hat.2
  have wrow := mem_wt mrow
  refine ⟨_, rfl, _, rfl, R, _, _, _, rfl, rfl, SqL.of eR2, atr, ⟨_, rfl⟩, row, _, rfl, rfl, (by decide +kernel), by omega, ?_⟩
  (intro Wd Wd0; generalize hh_ : upd _ Wd _ = H3; have eWd := upd_is hh_; have s3 := same_is hh_ Wd0; clear hh_)
  have wp := PyProof.Rows.split_pos row " "
  have wl := PyProof.Rows.split_le row " "
  have ww := wt_rows row " " sp1
  generalize Txt.split row " " = words at eWd wp wl ww
  have Wdt : Wd ≠ t := (T2.same s3).ne_lst eWd
  have eR3 := s3 _ _ eR2
  refine ⟨_, rfl, _, rfl, Wd, _, rfl, .inl (SqL.of eWd), t, c, _, _, rfl, T2.same s3, by rw [List.length_map]; omega, by omega, fun sp H4 hsp T4 f4 => ?_⟩
  rw [List.length_map] at hsp
  obtain ⟨isp, wsp, rfl, lisp, _, _⟩ := at_str hsp.1 hsp.2
  have eR4 := f4 _ _ eR3 (not_in_one Rt)
  have eWd4 := f4 _ _ eWd (not_in_one Wdt)
  have fH4 : Fr [t] H H4 := (Fr.same s1 _).trans (f2.trans ((Fr.same s3 _).trans f4))
  have eso4 := fH4 _ _ hso (not_in_one sot)
  refine ⟨_, rfl, _, rfl, _, rfl, so, _, rfl, .inl (SqL.of eso4), t, c, _, _, rfl, T4, by rw [List.length_map]; omega, by omega, fun sw H5 hsw T5 f5 => ?_⟩
  rw [List.length_map] at hsw
  obtain ⟨isw, word, rfl, lisw, mword, atw⟩ := at_str hsw.1 hsw.2
  have lword := lss word mword
  have eso5 := f5 _ _ eso4 (not_in_one sot)
  refine ⟨so, _, _, _, rfl, rfl, SqL.of eso5, atw, ?_⟩
  have sl := signs_len
  refine ⟨_, rfl, _, rfl, _, rfl, signsT, rfl, by omega, t, c, _, _, rfl, T5, by omega, by omega, fun sg H6 hsg T6 f6 => ?_⟩
  obtain ⟨ch, _, ach⟩ := at_in (xs := tl signsT) hsg.1 (by rw [← len_tl]; exact hsg.2)
  refine ⟨signsT, _, ch, rfl, rfl, by omega, ach, ?_⟩
  refine ⟨fun σ' G => ∃ ip : Nat, σ' = [some (.ref t), some (.str z), some (.ref so), some (.ref R), some (.int ia), some (.ref Wd), some (.int isp), some (.str word), some (.str signsT), some (.str ⟨#[ch]⟩), some (.int ip), none, none, none, none] ∧
    TapeAt G t c (n + 5) ∧ Fr [t] H G ∧ G R = some (.lst (rows.map V.str)) ∧ G Wd = some (.lst (words.map V.str)), ?_, ?_⟩
  · refine ⟨_, rfl, _, rfl, z, rfl, by omega, _, _, rfl, rfl, t, c, _, _, rfl, T6, by omega, by omega, fun pc H7 hpc T7 f7 => ?_⟩
    obtain ⟨ip, rfl⟩ := Int.eq_ofNat_of_zero_le hpc.1
    have f47 : Fr [t] H4 H7 := f5.trans (f6.trans f7)
    exact ⟨ip, rfl, T7, fH4.trans f47, f47 _ _ eR4 (not_in_one Rt), f47 _ _ eWd4 (not_in_one Wdt)⟩
  rintro σ' H7 ⟨ip, rfl, T7, fH7, eR7, eWd7⟩
  have wtt : ∀ j, isp ≤ j → Wt (words.take isp ++ [word] ++ words.drop j) ≤ row.length + 4402 := by
    intro j hj
    rw [wt_app, wt_app, wt_one]
    have := wt_split (l := words) hj
    omega
  have mapw : ∀ j, (words.map V.str).take isp ++ [V.str word] ++ (words.map V.str).drop j = (words.take isp ++ [word] ++ words.drop j).map V.str := by
    intro j
    rw [List.map_append, List.map_append, List.map_take, List.map_drop]; rfl
  refine ⟨⟨_, rfl⟩, _, rfl, _, rfl, _, rfl, Wd, _, rfl, SqL.of eWd7, ?_⟩
  (intro p1 p10; generalize hh_ : upd _ p1 _ = G1; have e1 := upd_is hh_; have g1 := same_is hh_ p10; clear hh_)
  rw [cut_take] at e1
  refine ⟨_, rfl, (by show 1 ≤ sizeLine; decide), ?_⟩
  (intro p2 p20; generalize hh_ : upd _ p2 _ = G2; have e2 := upd_is hh_; have g2 := same_is hh_ p20; clear hh_)
  refine ⟨p1, p2, _, _, rfl, rfl, g2 _ _ e1, e2, by rw [List.length_take, List.length_map, List.length_singleton]; omega, ?_⟩
  (intro p3 p30; generalize hh_ : upd _ p3 _ = G3; have e3 := upd_is hh_; have g3 := same_is hh_ p30; clear hh_)
  have eWdG3 := g3 _ _ (g2 _ _ (g1 _ _ eWd7))
  refine ⟨_, rfl, _, rfl, _, _, rfl, rfl, _, rfl, Wd, _, rfl, SqL.of eWdG3, ?_⟩
  rw [show (((isp : Nat) : Int) + 1) = ((isp + 1 : Nat) : Int) by omega, cut_drop]
  (intro p4 p40; generalize hh_ : upd _ p4 _ = G4; have e4 := upd_is hh_; have g4 := same_is hh_ p40; clear hh_)
  refine ⟨p3, p4, _, _, rfl, rfl, g4 _ _ e3, e4, by rw [List.length_append, List.length_take, List.length_drop, List.length_map, List.length_singleton]; omega, ?_⟩
  rw [mapw]
  (intro p5 p50; generalize hh_ : upd _ p5 _ = G5; have e5 := upd_is hh_; have g5 := same_is hh_ p50; clear hh_)
  refine ⟨" ", p5, _, rfl, rfl, .inl (SqL.of e5), wt_fits sp1 (Nat.le_trans (wtt _ (by omega)) (by omega)), ?_⟩
  have jl1 := (join_wt sp1 (words.take isp ++ [word] ++ words.drop (isp + 1))).1
  have jb1 := wtt (isp + 1) (by omega)
  generalize Txt.join " " (words.take isp ++ [word] ++ words.drop (isp + 1)) = j1 at jl1
  refine ⟨(by show 1 ≤ sizeLine; decide), ?_⟩
  (intro a1 a10; generalize hh_ : upd _ a1 _ = G6; have ea1 := upd_is hh_; have g6 := same_is hh_ a10; clear hh_)
  refine ⟨(by show 0 ≤ sizeLine; decide), ?_⟩
  (intro a2 a20; generalize hh_ : upd _ a2 _ = G7; have ea2 := upd_is hh_; have g7 := same_is hh_ a20; clear hh_)
  have c7 : Same H7 G7 := g1.trans (g2.trans (g3.trans (g4.trans (g5.trans (g6.trans g7)))))
  have eRG7 := c7 _ _ eR7
  refine ⟨_, rfl, _, rfl, R, _, _, _, rfl, rfl, SqL.of eRG7, atr, _, rfl, _, rfl, R, _, _, _, rfl, rfl, SqL.of eRG7, atr, (by show 2 ≤ sizeLine; decide), ?_⟩
  (intro a3 a30; generalize hh_ : upd _ a3 _ = G8; have ea3 := upd_is hh_; have g8 := same_is hh_ a30; clear hh_)
  refine ⟨(by show 3 ≤ sizeLine; decide), ?_⟩
  (intro m1 m10; generalize hh_ : upd _ m1 _ = G9; have em1 := upd_is hh_; have g9 := same_is hh_ m10; clear hh_)
  have T9 := (T7.same c7).same (g8.trans g9)
  have eR9 := g9 _ _ (g8 _ _ eRG7)
  have ea1_9 := g9 _ _ (g8 _ _ (g7 _ _ ea1))
  have ea2_9 := g9 _ _ (g8 _ _ ea2)
  have ea3_9 := g9 _ _ ea3
  have eWd9 := g9 _ _ (g8 _ _ (c7 _ _ eWd7))
  have fH9 : Fr [t] H G9 := fH7.trans (Fr.same (c7.trans (g8.trans g9)) _)
  refine ⟨fun σ' G => ∃ (m : Addr) (vs : List V), σ' = [some (.ref t), some (.str z), some (.ref so), some (.ref R), some (.int ia), some (.ref Wd), some (.int isp), some (.str word), some (.str signsT), some (.str ⟨#[ch]⟩), some (.int ip), some (.ref m), none, none, none] ∧
    TapeAt G t c (n + 6) ∧ Fr [t] H G ∧ G R = some (.lst (rows.map V.str)) ∧ G m = some (.lst vs) ∧ H m = none ∧ vs.length = 5 ∧ ∀ v ∈ vs, OneL G (2 * z.length + 4410) v, ?_, ?_⟩
  · refine ⟨_, rfl, _, rfl, _, rfl, _, rfl, R, _, rfl, .inl (SqL.of eR9), t, c, _, _, rfl, T9, by rw [List.length_map]; omega, by omega, fun i2 G10 hi2 T10 f10 => ?_⟩
    rw [List.length_map] at hi2
    obtain ⟨i2n, row2, rfl, _, mrow2, atr2⟩ := at_str hi2.1 hi2.2
    have eR10 := f10 _ _ eR9 (not_in_one Rt)
    have eWd10 := f10 _ _ eWd9 (not_in_one Wdt)
    refine ⟨R, _, _, _, rfl, rfl, SqL.of eR10, atr2, (by show 1 ≤ sizeLine; decide), ?_⟩
    (intro b1 b10; generalize hh_ : upd _ b1 _ = K1; have eb1 := upd_is hh_; have q1 := same_is hh_ b10; clear hh_)
    have eWd11 := q1 _ _ eWd10
    refine ⟨⟨_, rfl⟩, _, rfl, _, rfl, _, rfl, Wd, _, rfl, SqL.of eWd11, ?_⟩
    (intro d1 d10; generalize hh_ : upd _ d1 _ = L1; have x1 := upd_is hh_; have h1 := same_is hh_ d10; clear hh_)
    rw [cut_take] at x1
    refine ⟨_, rfl, (by show 1 ≤ sizeLine; decide), ?_⟩
    (intro d2 d20; generalize hh_ : upd _ d2 _ = L2; have x2 := upd_is hh_; have h2 := same_is hh_ d20; clear hh_)
    refine ⟨d1, d2, _, _, rfl, rfl, h2 _ _ x1, x2, by rw [List.length_take, List.length_map, List.length_singleton]; omega, ?_⟩
    (intro d3 d30; generalize hh_ : upd _ d3 _ = L3; have x3 := upd_is hh_; have h3 := same_is hh_ d30; clear hh_)
    have eWdL3 := h3 _ _ (h2 _ _ (h1 _ _ eWd11))
    refine ⟨_, rfl, _, rfl, _, rfl, Wd, _, rfl, SqL.of eWdL3, ?_⟩
    rw [cut_drop]
    (intro d4 d40; generalize hh_ : upd _ d4 _ = L4; have x4 := upd_is hh_; have h4 := same_is hh_ d40; clear hh_)
    refine ⟨d3, d4, _, _, rfl, rfl, h4 _ _ x3, x4, by rw [List.length_append, List.length_take, List.length_drop, List.length_map, List.length_singleton]; omega, ?_⟩
    rw [mapw]
    (intro d5 d50; generalize hh_ : upd _ d5 _ = L5; have x5 := upd_is hh_; have h5 := same_is hh_ d50; clear hh_)
    refine ⟨" ", d5, _, rfl, rfl, .inl (SqL.of x5), wt_fits sp1 (Nat.le_trans (wtt _ (by omega)) (by omega)), ?_⟩
    have jl2 := (join_wt sp1 (words.take isp ++ [word] ++ words.drop isp)).1
    have jb2 := wtt isp (by omega)
    generalize Txt.join " " (words.take isp ++ [word] ++ words.drop isp) = j2 at jl2
    refine ⟨(by show 1 ≤ sizeLine; decide), ?_⟩
    (intro b2 b20; generalize hh_ : upd _ b2 _ = L6; have eb2 := upd_is hh_; have h6 := same_is hh_ b20; clear hh_)
    refine ⟨(by show 2 ≤ sizeLine; decide), ?_⟩
    (intro m2 m20; generalize hh_ : upd _ m2 _ = L7; have em2 := upd_is hh_; have h7 := same_is hh_ m20; clear hh_)
    have cL : Same K1 L7 := h1.trans (h2.trans (h3.trans (h4.trans (h5.trans (h6.trans h7)))))
    have m1t : m1 ≠ t := ((T7.same c7).same (g8.trans g9)).ne_lst em1
    have em1L := cL _ _ (q1 _ _ (f10 _ _ em1 (not_in_one m1t)))
    refine ⟨m1, m2, _, _, rfl, rfl, em1L, em2, (by show 5 ≤ sizeLine; decide), ?_⟩
    (intro m3 m30; generalize hh_ : upd _ m3 _ = L8; have em3 := upd_is hh_; have h8 := same_is hh_ m30; clear hh_)
    have up : ∀ (p : Addr) (ys : List Str), G9 p = some (.lst (ys.map V.str)) → L8 p = some (.lst (ys.map V.str)) := fun p ys e =>
      h8 _ _ (cL _ _ (q1 _ _ (f10 _ _ e (not_in_one (T9.ne_lst e)))))
    have T7' := ((T10.same q1).same cL)
    have m3n : H m3 = none := by
      cases e : H m3 with
      | none => rfl
      | some o =>
        have := cL _ _ (q1 _ _ (f10 _ _ (fH9 _ _ e (not_in_one (T7'.ne_new m30))) (not_in_one (T7'.ne_new m30))))
        rw [m30] at this; cases this
    refine ⟨m3, _, rfl, (((T10.same q1).same cL).same h8).mono (by omega), fH9.trans (f10.trans (Fr.same (q1.trans (cL.trans h8)) _)), up _ _ eR9, em3, m3n, rfl, ?_⟩
    intro v hv
    simp only [List.cons_append, List.nil_append, List.mem_cons, List.not_mem_nil, or_false] at hv
    have w2 := mem_wt mrow2
    rcases hv with rfl | rfl | rfl | rfl | rfl
    · exact ⟨a1, [j1], rfl, up a1 [j1] ea1_9, by rw [wt_one]; omega⟩
    · exact ⟨a2, [], rfl, up a2 [] ea2_9, Nat.zero_le _⟩
    · exact ⟨a3, [row, row], rfl, up a3 [row, row] ea3_9, by rw [wt_cons, wt_one]; omega⟩
    · exact ⟨b1, [row2], rfl, h8 _ _ (cL _ _ eb1), by rw [wt_one]; omega⟩
    · exact ⟨b2, [j2], rfl, h8 _ _ (h7 _ _ eb2), by rw [wt_one]; omega⟩
  rintro σ' G ⟨m, vs, rfl, TG, fG, eRG, em, mH, lvs, hvs⟩
  refine ⟨_, rfl, .inl ⟨rfl, vs, SqL.of em⟩, ?_⟩
  refine ⟨_, rfl, _, rfl, R, _, _, _, rfl, rfl, SqL.of eRG, atr, _, rfl, _, rfl, _, rfl, R, _, rfl, .inl (SqL.of eRG), t, c, _, _, rfl, TG, by rw [List.length_map]; omega, by omega, fun i3 G2 hi3 T2' f2' => ?_⟩
  rw [List.length_map] at hi3
  obtain ⟨i3n, row3, rfl, _, mrow3, atr3⟩ := at_str hi3.1 hi3.2
  have wrow3 := mem_wt mrow3
  have eRG2 := f2' _ _ eRG (not_in_one Rt)
  have emt : m ≠ t := TG.ne_lst em
  have emc : m ≠ c := by
    obtain ⟨cs, s0, l0, h1, h2, h3, h4, h5, h6⟩ := TG
    intro z0
    subst z0
    rw [em] at h2
    have e2 : vs = cs.map V.int := HO.lst.inj (Option.some.inj h2)
    cases vs with
    | nil => cases lvs
    | cons v l =>
      obtain ⟨q, _, e3, _⟩ := hvs v (List.mem_cons_self ..)
      cases cs with
      | nil => cases e2
      | cons s r => rw [e3] at e2; cases e2
  have em2 := f2' _ _ em (not_in_one emt)
  have hvs2 : ∀ v ∈ vs, OneL G2 (2 * z.length + 4410) v := by
    intro v hv
    obtain ⟨p, ls, e, h1, h2⟩ := hvs v hv
    exact ⟨p, ls, e, f2' _ _ h1 (not_in_one (TG.ne_lst h1)), h2⟩
  refine ⟨R, _, _, _, rfl, rfl, SqL.of eRG2, atr3, (by show 2 ≤ sizeLine; decide), ?_⟩
  (intro a6 a60; generalize hh_ : upd _ a6 _ = G3; have ea6 := upd_is hh_; have gg3 := same_is hh_ a60; clear hh_)
  have em3 := gg3 _ _ em2
  have hvs3 : ∀ v ∈ vs, OneL G3 (2 * z.length + 4410) v := fun v hv => (hvs2 v hv).same gg3
  refine ⟨m, vs, _, rfl, rfl, em3, Nat.lt_of_le_of_lt (by omega : _ ≤ 1000) (by decide), ?_⟩
  have o4 : ∀ (p : Addr) (ls : List Str), G3 p = some (.lst (ls.map V.str)) → upd G3 m (.lst (vs ++ [.ref a6])) p = some (.lst (ls.map V.str)) := fun p ls e => by
    rw [upd_ne (ones_ne e em3 (by omega) hvs3)]; exact e
  have T4' : TapeAt (upd G3 m (.lst (vs ++ [.ref a6]))) t c (n + 7) := (T2'.same gg3).put emt emc
  have em4 : upd G3 m (.lst (vs ++ [.ref a6])) m = some (.lst (vs ++ [.ref a6])) := upd_same
  have fG4 : Fr [t] H (upd G3 m (.lst (vs ++ [.ref a6]))) := fun p o e hp => by
    rw [upd_ne (fun z => by subst z; rw [mH] at e; cases e)]
    exact gg3 _ _ (f2' _ _ (fG _ _ e hp) hp)
  refine ⟨fun σ' G => ∃ (ls : Addr) (us : List V), σ' = [some (.ref t), some (.str z), some (.ref so), some (.ref R), some (.int ia), some (.ref Wd), some (.int isp), some (.str word), some (.str signsT), some (.str ⟨#[ch]⟩), some (.int ip), some (.ref m), some (.ref ls), none, none] ∧
    TapeAt G t c (n + 7) ∧ Fr [t] H G ∧ G ls = some (.lst us) ∧ us.length = 9 ∧ ∀ v ∈ us, OneL G (3 * z.length + 4420) v, ?_, ?_⟩
  · generalize upd G3 m (.lst (vs ++ [.ref a6])) = G4 at o4 T4' em4 fG4
    have eR4' := o4 R rows (gg3 _ _ eRG2)
    have hv4 : ∀ v ∈ vs ++ [.ref a6], OneL G4 (2 * z.length + 4410) v := by
      intro v hv
      rcases List.mem_append.mp hv with h | h
      · obtain ⟨p, ls, e, h1, h2⟩ := hvs3 v h
        exact ⟨p, ls, e, o4 _ _ h1, h2⟩
      · rw [List.mem_singleton.mp h]
        exact ⟨a6, [row, row3], rfl, o4 a6 [row, row3] ea6, by rw [wt_cons, wt_one]; omega⟩
    have lv6 : (vs ++ [V.ref a6]).length = 6 := by rw [List.length_append, lvs]; rfl
    have wta : ∀ os : List Str, Wt (rows.take ia ++ os ++ rows.drop (ia + 1)) ≤ z.length + 1 + Wt os := by
      intro os
      rw [wt_app, wt_app]
      have := wt_split (l := rows) (show ia ≤ ia + 1 by omega)
      omega
    have mapr : ∀ os : List Str, (rows.map V.str).take ia ++ os.map V.str ++ (rows.map V.str).drop (ia + 1) = (rows.take ia ++ os ++ rows.drop (ia + 1)).map V.str := by
      intro os
      rw [List.map_append, List.map_append, List.map_take, List.map_drop]
    refine ⟨_, rfl, m, rfl, ⟨_, SqL.of em4⟩, fun D hD => ?_⟩
    refine lc_list (K := K) (a := m) (xs := vs ++ [.ref a6]) (fun j Hx => ∃ ws : List V, Hx D = some (.lst ws) ∧ ws.length = j ∧ (∀ w ∈ ws, OneL Hx (3 * z.length + 4420) w) ∧ Same G4 Hx) ⟨[], upd_same, rfl, (fun _ h => by cases h), same_new hD⟩ (fun j Hx _ ⟨_, _, _, _, sx⟩ => SqL.of (sx _ _ em4)) ?_ ?_
    · rintro j v Hx hv ⟨ws, h1, h2, h3, sx⟩
      have jl := (List.getElem?_eq_some_iff.mp hv).1
      obtain ⟨p, os, rfl, hp, hw⟩ := hv4 v (List.mem_of_getElem? hv)
      have ho := len_wt os
      refine ⟨rfl, _, rfl, _, rfl, _, rfl, R, _, rfl, SqL.of (sx _ _ eR4'), ?_⟩
      rw [cut_take]
      (intro y1 y10; generalize hh_ : upd _ y1 _ = M1; have z1 := upd_is hh_; have r1 := same_is hh_ y10; clear hh_)
      refine ⟨_, rfl, y1, p, _, _, rfl, rfl, z1, r1 _ _ (sx _ _ hp), by rw [List.length_take, List.length_map, List.length_map]; omega, ?_⟩
      (intro y2 y20; generalize hh_ : upd _ y2 _ = M2; have z2 := upd_is hh_; have r2 := same_is hh_ y20; clear hh_)
      refine ⟨_, rfl, _, rfl, _, _, rfl, rfl, _, rfl, R, _, rfl, SqL.of (r2 _ _ (r1 _ _ (sx _ _ eR4'))), ?_⟩
      rw [show (((ia : Nat) : Int) + 1) = ((ia + 1 : Nat) : Int) by omega, cut_drop]
      (intro y3 y30; generalize hh_ : upd _ y3 _ = M3; have z3 := upd_is hh_; have r3 := same_is hh_ y30; clear hh_)
      refine ⟨y2, y3, _, _, rfl, rfl, r3 _ _ z2, z3, by rw [List.length_append, List.length_take, List.length_drop, List.length_map, List.length_map]; omega, ?_⟩
      rw [mapr]
      (intro y4 y40; generalize hh_ : upd _ y4 _ = M4; have z4 := upd_is hh_; have r4 := same_is hh_ y40; clear hh_)
      have c4 := r1.trans (r2.trans (r3.trans r4))
      have hDM := c4 _ _ h1
      have yD : y4 ≠ D := fun e => by
        subst e
        rw [r3 _ _ (r2 _ _ (r1 _ _ h1))] at y40; cases y40
      refine ⟨ws, hDM, Nat.lt_of_le_of_lt (by omega : _ ≤ 1000) (by decide), ws ++ [.ref y4], upd_same, by rw [List.length_append, h2]; rfl, ?_, fun p o e => by rw [upd_ne (ne_of_none e hD)]; exact c4 _ _ (sx _ _ e)⟩
      intro w hw'
      rcases List.mem_append.mp hw' with h | h
      · obtain ⟨q, ls, e, k1, k2⟩ := h3 w h
        have ne : q ≠ D := ones_ne k1 h1 (List.length_pos_of_mem h) h3
        exact ⟨q, ls, e, by rw [upd_ne ne]; exact c4 _ _ k1, k2⟩
      · rw [List.mem_singleton.mp h]
        exact ⟨y4, _, rfl, by rw [upd_ne yD]; exact z4, Nat.le_trans (wta os) (by omega)⟩
    · rintro G5 ⟨ws, h1, h2, h3, s5⟩
      rw [lv6] at h2
      have eR5 := s5 _ _ eR4'
      refine ⟨_, rfl, (by show 1 ≤ sizeLine; decide), ?_⟩
      (intro y1 y10; generalize hh_ : upd _ y1 _ = M1; have z1 := upd_is hh_; have r1 := same_is hh_ y10; clear hh_)
      refine ⟨R, y1, _, _, rfl, rfl, r1 _ _ eR5, z1, by rw [List.length_map, List.length_singleton]; omega, ?_⟩
      rw [show rows.map V.str ++ [V.str ""] = (rows ++ [("" : Str)]).map V.str by rw [List.map_append]; rfl]
      (intro y2 y20; generalize hh_ : upd _ y2 _ = M2; have z2 := upd_is hh_; have r2 := same_is hh_ y20; clear hh_)
      refine ⟨_, rfl, _, rfl, _, rfl, R, _, rfl, SqL.of (r2 _ _ (r1 _ _ eR5)), ?_⟩
      rw [cut_take, ← List.map_take]
      (intro y3 y30; generalize hh_ : upd _ y3 _ = M3; have z3 := upd_is hh_; have r3 := same_is hh_ y30; clear hh_)
      refine ⟨(by show 1 ≤ sizeLine; decide), ?_⟩
      (intro y4 y40; generalize hh_ : upd _ y4 _ = M4; have z4 := upd_is hh_; have r4 := same_is hh_ y40; clear hh_)
      have eRM4 := r4 _ _ (r3 _ _ (r2 _ _ (r1 _ _ eR5)))
      refine ⟨_, rfl, y4, R, _, _, rfl, rfl, z4, eRM4, by rw [List.length_map, List.length_singleton]; omega, ?_⟩
      rw [show [V.str ""] ++ rows.map V.str = (([""] : List Str) ++ rows).map V.str by rw [List.map_append]; rfl]
      (intro y5 y50; generalize hh_ : upd _ y5 _ = M5; have z5 := upd_is hh_; have r5 := same_is hh_ y50; clear hh_)
      refine ⟨(by show 3 ≤ sizeLine; decide), ?_⟩
      (intro y6 y60; generalize hh_ : upd _ y6 _ = M6; have z6 := upd_is hh_; have r6 := same_is hh_ y60; clear hh_)
      have c6 := r1.trans (r2.trans (r3.trans (r4.trans (r5.trans r6))))
      refine ⟨D, y6, _, _, rfl, rfl, c6 _ _ h1, z6, Nat.le_trans (by rw [h2]; show 9 ≤ 1000; decide) (by decide : 1000 ≤ sizeLine), ?_⟩
      (intro y7 y70; generalize hh_ : upd _ y7 _ = M7; have z7 := upd_is hh_; have r7 := same_is hh_ y70; clear hh_)
      have e0 : ("" : Str).length = 0 := by decide +kernel
      have wtk : Wt (rows.take ia) ≤ Wt rows := by have := wt_split (l := rows) (Nat.le_refl ia); omega
      refine ⟨y7, _, rfl, (((T4'.same s5).same c6).same r7), fG4.trans (Fr.same (s5.trans (c6.trans r7)) _), z7, by rw [List.length_append, h2]; rfl, ?_⟩
      intro v hv
      rcases List.mem_append.mp hv with h | h
      · exact (h3 v h).same (c6.trans r7)
      · simp only [List.mem_cons, List.not_mem_nil, or_false] at h
        rcases h with rfl | rfl | rfl
        · refine ⟨y2, _, rfl, r7 _ _ (r6 _ _ (r5 _ _ (r4 _ _ (r3 _ _ z2)))), ?_⟩
          rw [wt_app, wt_one, e0]; omega
        · exact ⟨y3, _, rfl, r7 _ _ (r6 _ _ (r5 _ _ (r4 _ _ z3))), by omega⟩
        · refine ⟨y5, _, rfl, r7 _ _ (r6 _ _ z5), ?_⟩
          rw [wt_app, wt_one, e0]; omega
  rintro σ' G ⟨ls, us, rfl, TG, fG, els, lus, hus⟩
  refine ⟨_, rfl, ls, rfl, ⟨_, SqL.of els⟩, fun D hD => ?_⟩
  refine lc_list (K := K) (a := ls) (xs := us) (fun j Hx => ∃ rs : List Str, Hx D = some (.lst (rs.map V.str)) ∧ rs.length = j ∧ (∀ r ∈ rs, r.length ≤ 3 * z.length + 4420) ∧ Same G Hx) ⟨[], upd_same, rfl, (fun _ h => by cases h), same_new hD⟩ (fun j Hx _ ⟨_, _, _, _, sx⟩ => SqL.of (sx _ _ els)) ?_ ?_
  · rintro j v Hx hv ⟨rs, h1, h2, h3, sx⟩
    have jl := (List.getElem?_eq_some_iff.mp hv).1
    obtain ⟨p, os, rfl, hp, hw⟩ := hus v (List.mem_of_getElem? hv)
    have jw := (join_wt nl1 os).1
    refine ⟨rfl, ⟨_, rfl⟩, _, rfl, "\n", p, os, rfl, rfl, .inl (SqL.of (sx _ _ hp)), wt_fits nl1 (by omega), ?_⟩
    refine ⟨_, h1, Nat.lt_of_le_of_lt (by rw [List.length_map]; omega : _ ≤ 1000) (by decide), rs ++ [Txt.join "\n" os], ?_, by rw [List.length_append, h2]; rfl, ?_, fun p o e => by rw [upd_ne (ne_of_none e hD)]; exact sx _ _ e⟩
    · rw [upd_same, List.map_append]; rfl
    · intro r hr
      rcases List.mem_append.mp hr with h | h
      · exact h3 r h
      · rw [List.mem_singleton.mp h]; omega
  rintro G5 ⟨rs, h1, h2, h3, s5⟩
  rw [lus] at h2
  have T5' := TG.same s5
  have c1 := cutS_len z none (some (ip : Int))
  have c2 := cutS_len z (some (ip : Int)) none
  have c3 := cutS_len z (some ((ip : Int) + 1)) none
  have lc1 : (⟨#[ch]⟩ : Str).length = 1 := rfl
  have ap : ∀ a b : Str, (a ++ b).length = a.length + b.length := fun a b => by
    rw [len_tl, tl_append, List.length_append, ← len_tl, ← len_tl]
  refine ⟨_, rfl, _, rfl, _, rfl, _, rfl, z, rfl, by omega, _, rfl, _, _, rfl, rfl, by rw [lc1]; omega, _, rfl, _, rfl, _, rfl, z, rfl, by omega, _, _, rfl, rfl, by rw [ap, lc1]; omega, ?_⟩
  refine ⟨_, rfl, _, rfl, _, rfl, z, rfl, by omega, _, rfl, _, _, rfl, rfl, by rw [lc1]; omega, _, rfl, _, rfl, _, _, rfl, rfl, _, rfl, z, rfl, by omega, _, _, rfl, rfl, by rw [ap, lc1]; omega, (by show 2 ≤ sizeLine; decide), ?_⟩
  (intro y1 y10; generalize hh_ : upd _ y1 _ = M1; have z1 := upd_is hh_; have r1 := same_is hh_ y10; clear hh_)
  refine ⟨D, y1, _, _, rfl, rfl, r1 _ _ h1, z1, Nat.le_trans (by rw [List.length_map, h2]; show 11 ≤ 1000; decide) (by decide : 1000 ≤ sizeLine), ?_⟩
  rw [show rs.map V.str ++ [V.str (cutS z none (some (ip : Int)) ++ ⟨#[ch]⟩ ++ cutS z (some (ip : Int)) none), V.str (cutS z none (some (ip : Int)) ++ ⟨#[ch]⟩ ++ cutS z (some ((ip : Int) + 1)) none)] =
    (rs ++ [cutS z none (some (ip : Int)) ++ ⟨#[ch]⟩ ++ cutS z (some (ip : Int)) none, cutS z none (some (ip : Int)) ++ ⟨#[ch]⟩ ++ cutS z (some ((ip : Int) + 1)) none]).map V.str by rw [List.map_append]; rfl]
  have all_ : ∀ r ∈ rs ++ [cutS z none (some (ip : Int)) ++ ⟨#[ch]⟩ ++ cutS z (some (ip : Int)) none, cutS z none (some (ip : Int)) ++ ⟨#[ch]⟩ ++ cutS z (some ((ip : Int) + 1)) none], r.length ≤ 3 * z.length + 5000 := by
    intro r hr
    rcases List.mem_append.mp hr with h | h
    · have := h3 r h; omega
    · simp only [List.mem_cons, List.not_mem_nil, or_false] at h
      rcases h with rfl | rfl
      · rw [ap, ap, lc1]; omega
      · rw [ap, ap, lc1]; omega
  have len_ : (rs ++ [cutS z none (some (ip : Int)) ++ ⟨#[ch]⟩ ++ cutS z (some (ip : Int)) none, cutS z none (some (ip : Int)) ++ ⟨#[ch]⟩ ++ cutS z (some ((ip : Int) + 1)) none]).length = 11 := by rw [List.length_append, h2]; rfl
  generalize (rs ++ [cutS z none (some (ip : Int)) ++ ⟨#[ch]⟩ ++ cutS z (some (ip : Int)) none, cutS z none (some (ip : Int)) ++ ⟨#[ch]⟩ ++ cutS z (some ((ip : Int) + 1)) none]) = all at all_ len_
  (intro y2 y20; generalize hh_ : upd _ y2 _ = M2; have z2 := upd_is hh_; have r2 := same_is hh_ y20; clear hh_)
  have T6' := (T5'.same r1).same r2
  refine ⟨_, rfl, _, rfl, t, c, 11, _, rfl, T6', by decide, by omega, fun i9 H9 hi9 T9' f9 => ?_⟩
  obtain ⟨_, rr, rfl, _, mrr, arr⟩ := at_str (ss := all) hi9.1 (by omega)
  exact ⟨y2, _, _, _, rfl, rfl, SqL.of (f9 _ _ z2 (not_in_one (T6'.ne_lst z2))), arr, k rr H9 (fG.trans ((Fr.same (s5.trans (r1.trans r2)) _).trans f9)) (T9'.mono (by omega)) (all_ rr mrr)⟩
end
end SG
namespace SG
open PySem PySem.Spec PyProof.Rows L2 TL
section
variable {X : Cx}
/-- a short text many times -/
def rMulB : R2 := fun x y H Q => ∃ (a : Str) (n : Nat), x = .str a ∧ y = .int (n : Int) ∧ 1 ≤ n ∧ n ≤ 10000 ∧ a.length ≤ 10 ∧ Q (.str (timesS a n)) H
theorem timesB_size (a : Str) (n : Nat) (h3 : a.length ≤ 10) (h2 : n ≤ 10000) : (timesS a n).length ≤ sizeLine := by
  rw [timesS_len]
  exact Nat.le_trans (Nat.mul_le_mul h2 h3) (by decide)
theorem op_mulB : OpR X (binaryOp .Mult) rMulB := by
  intro pins s σ H x y v u Q I rx ry h
  obtain ⟨a, n, rfl, rfl, h1, h2, h3, q⟩ := h
  obtain ⟨t, rfl⟩ := rx
  obtain ⟨t', rfl⟩ := ry
  have n0 : ¬ (n : Int) < 1 := by omega
  have hs : a.length * n ≤ 100000 := Nat.mul_le_mul h3 h2
  refine PySem.P.mul_str ?_ (fun _ _ => ?_) (fun _ _ => ?_) ?_
  · have a1 : ¬ (n : Int) < -(2 ^ 63 : Int) := by omega
    have a2 : ¬ (n : Int) ≥ 2 ^ 63 := by omega
    rw [decide_eq_false a1, decide_eq_false a2]
    rfl
  · have : (10 : Int) ≤ (2 ^ 63 - 1) / (n : Int) := by
      rw [Int.le_ediv_iff_mul_le (by omega)]
      omega
    omega
  · rw [Int.toNat_natCast]
    exact decide_eq_false (by show ¬ _ > _; intro z; have := Nat.lt_of_lt_of_le z hs; revert this; decide)
  · rw [if_neg n0]
    by_cases e : ((n : Int) == 1 || a.length == 0) = true
    · rw [if_pos e]
      have et : timesS a n = a := by
        rcases Bool.or_eq_true _ _ |>.mp e with e | e
        · have : n = 1 := by have := eq_of_beq e; omega
          rw [this, timesS_one]
        · have z : a.cps.size = 0 := eq_of_beq e
          exact timesS_nil z n
      rw [et] at q
      exact ⟨.str a, H, I, ⟨t, rfl⟩, q⟩
    · rw [if_neg e, Int.toNat_natCast]
      exact ⟨timesB_size a n h3 h2, .str _, H, I.tok _, ⟨_, rfl⟩, q⟩
end
theorem pi_tupK {X : Cx} {K : PySem.W.Frag} {tg l : Expr} {tl : TE} (hl : PE X l tl) (hK : X.K = K := by rfl) : PI X tg l (iTup K tl) := by
  subst hK
  exact pi_tup hl
theorem pi_listK {X : Cx} {K : PySem.W.Frag} {tg l : Expr} {tl : TE} (hl : PE X l tl) (hK : X.K = K := by rfl) : PI X tg l (iList K tl) := by
  subst hK
  exact pi_list hl
theorem depthAll_le {m : Nat} : ∀ {ds : List PyData}, (∀ d ∈ ds, d.depth ≤ m) → PyData.depthAll ds ≤ m
  | [], _ => Nat.zero_le _
  | d :: ds, h => Nat.max_le.mpr ⟨h d (List.mem_cons_self ..), depthAll_le fun e he => h e (List.mem_cons_of_mem _ he)⟩
theorem row_depth (r : Str) : (rowD r).depth ≤ 1 := by
  show PyData.depthAll _ + 1 ≤ 1
  have : PyData.depthAll ((Txt.split r " ").map fldD) ≤ 0 := depthAll_le fun d hd => by
    obtain ⟨z, _, rfl⟩ := List.mem_map.mp hd
    unfold fldD; split <;> exact Nat.le_refl _
  omega
theorem ansR_depth (rs : List Str) : (ansR rs).depth ≤ 2 := by
  unfold ansR
  split
  · show max 0 0 + 1 ≤ 2; decide
  · show PyData.depthAll _ + 1 ≤ 2
    have : PyData.depthAll (rs.map rowD) ≤ 1 := depthAll_le fun d hd => by
      obtain ⟨z, _, rfl⟩ := List.mem_map.mp hd
      exact row_depth z
    omega
theorem ans_depth (d : PyData) : (ansD d).depth ≤ 2 := by
  cases d with
  | str z => exact ansR_depth _
  | _ => show max 0 0 + 1 ≤ 2; decide
theorem tape_is (c : Addr) (s l : Int) : mergeK [] [((Sum.inr ("cells" : Str) : Key), V.ref c), (Sum.inr ("spot" : Str), .int s), (Sum.inr ("left" : Str), .int l)] = tapeD c s l := by
  simp [mergeK, putK, tapeD, n12, n13, n23]
def spTape (K : PySem.W.Frag) : Sp := fun vs H Q _ => ∃ (a : Addr) (ns : List Int), vs = [.ref a] ∧ SqL K H a (ns.map V.int) ∧ ns.length ≤ 63 ∧ ∀ (t c : Addr) (H' : Hp), TapeAt H' t c 0 → Same H H' → Q (.ref t) H'
def spLaw (K : PySem.W.Frag) : Sp := fun vs H Q _ => ∃ (a : Addr) (ns : List Int), vs = [.ref a] ∧ SqL K H a (ns.map V.int) ∧ ns.length ≤ 63 ∧ ∀ H', Q (.bl true) H'
def someA : List Str := ["down", "Up", "lost", "0", "-1", "-0", "00", "9", "10", "1000000000", "1000000001", "10000", "10001", "-10000", "-10001", ""]
def someB : List Str := ["+1", "1.0", "move"]
def someT : List Str := someA ++ (timesS "1" 4400 :: someB)
theorem some_len : ∀ s ∈ someT, s.length ≤ 4400 := by
  intro s hs
  have e : (timesS "1" 4400).length ≤ 4400 := by rw [timesS_len]; decide +kernel
  rcases List.mem_append.mp hs with h | h
  · have : someA.all (fun s => decide (s.length ≤ 4400)) = true := by decide +kernel
    exact of_decide_eq_true (List.all_eq_true.mp this s h)
  · rcases List.mem_cons.mp h with h | h
    · rw [h]; exact e
    · have : someB.all (fun s => decide (s.length ≤ 4400)) = true := by decide +kernel
      exact of_decide_eq_true (List.all_eq_true.mp this s h)
theorem eq_ne {K : PySem.W.Frag} {H : Hp} {x y : V} {d : PyData} {Q : VK} (hx : Dp K H x d) (hy : Dp K H y d) (dd : d.depth ≤ 64) (k : Q (.bl false) H) : rNeP K x y H Q := by
  refine ⟨d, d, hx, hy, Dp.plain hx, Dp.plain hx, by rw [Nat.min_self]; exact dd, ?_⟩
  rw [SeqAt.eqv_refl_plain _ (Dp.plain hx)]
  exact k
section
variable {P : Program} {w : World} {K : PySem.W.Frag} {mg : Str → Option Value} {base : Heap}
theorem ok_tape (D : Df K mg "_law_tape" s_law_tape ["_law_script"]) (T : Txt K mg) : Cl P w K mg base 1 "_law_tape" (spTape K) := by
  refine D.ok sc_law_tape (fun vs H Q E h => ?_) (fun f cdv A outer s H vs Q E hr h => ?_)
  · obtain ⟨a, ns, rfl, _⟩ := h
    rfl
  obtain ⟨a, ns, rfl, hS, h63, k⟩ := h
  refine ⟨_, -- return {'cells': _law_script[:63], 'spot': 0, 'left': 0}
    (pss_one (ps_ret (pe_disp (pps_cons pe_str (pe_slice sl_list (pv 0) po_none (po_some pe_int)) (pps_cons pe_str pe_int (pps_cons pe_str pe_int pps_nil))) rfl rfl (by decide) (by decide)))), ?_⟩
  (intro t t0; generalize hh_ : upd _ t _ = H1; have ht := upd_is hh_; have s1 := same_is hh_ t0; clear hh_)
  refine ⟨_, rfl, _, rfl, a, _, rfl, s1.seq hS, ?_⟩
  (intro c c0; generalize hh_ : upd _ c _ = H2; have hc := upd_is hh_; have s2 := same_is hh_ c0; clear hh_)
  have ec : ∃ cs : List Int, cutV (ns.map V.int) none (some 63) = cs.map V.int ∧ cs.length ≤ 63 := by
    refine ⟨(ns.drop (HT.sIx ns.length 0 none)).take (HT.sIx ns.length ns.length (some 63) - HT.sIx ns.length 0 none), ?_, ?_⟩
    · unfold cutV
      rw [List.map_take, List.map_drop, List.length_map]
    · rw [List.length_take, List.length_drop]
      omega
  obtain ⟨cs, ec, lc⟩ := ec
  rw [ec] at hc
  refine ⟨s2 _ _ ht, [((Sum.inr ("cells" : Str) : Key), V.ref c), (Sum.inr ("spot" : Str), .int 0), (Sum.inr ("left" : Str), .int 0)], rfl, (by show 3 ≤ 15; decide), ?_⟩
  rw [tape_is]
  have tc : t ≠ c := ne_of (s2 _ _ ht) hc (by intro z; cases z)
  have tH := t0
  exact k t c _ ⟨cs, 0, 0, upd_same, by rw [upd_ne tc.symm]; exact hc, by decide, by decide, by decide, lc⟩ fun p o e => by
    rw [upd_ne (ne_of_none e tH)]
    exact s2 _ _ (s1 _ _ e)
set_option maxHeartbeats 4000000 in
theorem ok_law {f aread_touches : Addr} {fd : FuncData} (F : Fun K "law" "law" slaw f fd) (T : Txt K mg) (c_law_tape : Cl P w K mg base 1 "_law_tape" (spTape K)) (c_law_draw : Cl P w K mg base 1 "_law_draw" spDraw) (c_law_touches : Cl P w K mg base 2 "_law_touches" spTouches)
    (cshow_touches : Cl P w K mg base 2 "show_touches" (spShow K)) (mread_touches : mg "read_touches" = some (.ref aread_touches)) (c_law_asked : Cl P w K mg base 6 "_law_asked" (spAsked K aread_touches)) (c_law_due : Cl P w K mg base 3 "_law_due" (spDue K)) (c_law_bent_text : Cl P w K mg base 2 "_law_bent_text" spBent) : FnG P w K mg base 7 f fd ["_law_script"] (spLaw K) := by
  refine fun_okG F sclaw (fun vs H Q E h => ?_) (fun cdv A outer s H vs Q E hr hg h => ?_)
  · obtain ⟨a, ns, rfl, _⟩ := h
    rfl
  obtain ⟨a, ns, rfl, hS, h63, k⟩ := h
  have hu := hu_of hr
  refine ⟨_, -- _law_tape_here = _law_tape(_law_script)
    (pss_cons (ps_set (i := 1) sclaw.nd rfl (Or.inl rfl) (pe_cl c_law_tape (hr.mono (by first | decide | omega)) rfl (pa_cons (pv 0) pa_nil)))
    (pss_cons (ps_set (i := 2) sclaw.nd rfl (Or.inl rfl) (pe_lst (pa_cons pe_str (pa_cons pe_str (pa_cons pe_str (pa_cons pe_str (pa_cons pe_str (pa_cons pe_str (pa_cons pe_str (pa_cons pe_str (pa_cons pe_str (pa_cons pe_str (pa_cons pe_str (pa_cons pe_str (pa_cons pe_str pa_nil)))))))))))))))
    (pss_cons (ps_set (i := 2) sclaw.nd rfl (Or.inl rfl) (pe_op op_cat (pv 2) (pe_lst (pa_cons pe_str (pa_cons pe_str (pa_cons pe_str (pa_cons (pe_op op_mulB pe_str pe_int) (pa_cons pe_str (pa_cons pe_str (pa_cons pe_str pa_nil))))))))))
    (pss_cons (ps_for PassesOwn.never rfl (pi_range1 rfl T.m_range (pa_cons pe_int pa_nil)) (pg_name (i := 3) sclaw.nd rfl (Or.inl rfl))
      (pss_cons (ps_set (i := 4) sclaw.nd rfl (Or.inl rfl) (pe_cl c_law_touches (hr.mono (by first | decide | omega)) rfl (pa_cons (pv 1) (pa_cons (pe_ix ix_list (pe_lst (pa_cons pe_int (pa_cons pe_int (pa_cons pe_int (pa_cons pe_int (pa_cons pe_int pa_nil)))))) (pv 3) (fun _ _ => rfl)) (pa_cons pe_int pa_nil)))))
      (C8.pss_cut (ps_if (pt_cmpR op_eq (pv 3) pe_int (nomark _))
        (pss_one (ps_set (i := 4) sclaw.nd rfl (Or.inl rfl) (pe_op op_cat (pe_op op_cat (pe_lst (pa_cons (pe_tup (pa_cons (pe_op op_powG pe_int pe_int) (pa_cons pe_int (pa_cons pe_str (pa_cons (pe_un un_neg pe_int) (pa_cons pe_int pa_nil)))))) pa_nil)) (pv 4)) (pe_lst (pa_cons (pe_tup (pa_cons pe_int (pa_cons pe_int (pa_cons pe_str (pa_cons pe_int (pa_cons (pe_un un_neg pe_int) pa_nil)))))) pa_nil)))))
        pss_nil)
      (pss_cons (ps_set (i := 5) sclaw.nd rfl (Or.inl rfl) (pe_join pe_str (pe_lc (own := [("_law_touch", 9)]) rfl sclaw.nd (pi_list (pv 4)) (blkOk_by (N := Nlaw) (sc := defScope slaw) (by decide +kernel)) (fun _ _ _ _ _ => (pg_name (i := 9) sclaw.nd rfl (Or.inl rfl))) (fun _ _ _ _ _ => pts_nil) (fun _ _ _ _ _ => (by exact (pe_joinK (K := K) pe_str (pe_lc (own := [("_law_thing", 10)]) rfl sclaw.nd (pi_tupK (K := K) (pv 9)) (blkOk_by (N := Nlaw) (sc := (⟨.function, [(".0", .local), ("_law_touch", .local)], false, false, []⟩ : Scope)) (by decide +kernel)) (fun _ _ _ _ _ => (pg_name (i := 10) sclaw.nd rfl (Or.inl rfl))) (fun _ _ _ _ _ => pts_nil) (fun _ _ _ _ _ => (pe_callTy call_strIS (by rfl) T.m_str (by decide +kernel) (pa_cons (pv 10) pa_nil))))))))))
      (pss_cons (ps_if (PW.pt (pw_or (pt_cmpR op_ne (pe_cl cshow_touches (hr.mono (by first | decide | omega)) rfl (pa_cons (pv 4) pa_nil)) (pv 5) (nomark _)) (pw_or1 (pt_cmpR (op_neP hr.units) (pe_cl c_law_asked (hr.mono (by first | decide | omega)) rfl (pa_cons (pe_glob (v := .ref aread_touches) rfl mread_touches rfl) (pa_cons (pv 5) pa_nil))) (pv 4) (nomark _)))))
        (pss_one (ps_ret pe_bl))
        pss_nil)
      (pss_cons (ps_set (i := 6) sclaw.nd rfl (Or.inl rfl) (pe_cl c_law_bent_text (hr.mono (by first | decide | omega)) rfl (pa_cons (pv 1) (pa_cons (pv 5) (pa_cons (pv 2) pa_nil)))))
      (pss_cons (ps_set (i := 7) sclaw.nd rfl (Or.inl rfl) (pe_ix ix_list (pe_lst (pa_cons pe_non (pa_cons pe_int (pa_cons pe_bl (pa_cons (pv 4) (pa_cons pe_str pa_nil)))))) (pe_cl c_law_draw (hr.mono (by first | decide | omega)) rfl (pa_cons (pv 1) (pa_cons pe_int pa_nil))) (fun _ _ => rfl)))
      (pss_one (ps_for PassesOwn.never rfl (pi_list (pe_lst (pa_cons (pv 6) (pa_cons (pe_cl c_law_bent_text (hr.mono (by first | decide | omega)) rfl (pa_cons (pv 1) (pa_cons (pv 6) (pa_cons (pv 2) pa_nil)))) (pa_cons (pv 7) pa_nil))))) (pg_name (i := 8) sclaw.nd rfl (Or.inl rfl))
        (pss_one (ps_if (pt_cmpR (op_neP hr.units) (pe_cl c_law_asked (hr.mono (by first | decide | omega)) rfl (pa_cons (pe_glob (v := .ref aread_touches) rfl mread_touches rfl) (pa_cons (pv 8) pa_nil))) (pe_cl c_law_due (hr.mono (by first | decide | omega)) rfl (pa_cons (pv 8) pa_nil)) (nomark _))
          (pss_one (ps_ret pe_bl))
          pss_nil)))))))))))
    (pss_one (ps_ret pe_bl)))))), ?_⟩
  refine ⟨_, rfl, a, ns, rfl, hS, h63, fun t c H1 T1 s1 => ?_⟩
  refine ⟨(by show 13 ≤ sizeLine; decide), ?_⟩
  (intro l1 l10; generalize hh_ : upd _ l1 _ = H2; have e1 := upd_is hh_; have s2 := same_is hh_ l10; clear hh_)
  refine ⟨_, rfl, "1", 4400, rfl, rfl, by omega, by omega, (by decide +kernel), (by show 7 ≤ sizeLine; decide), ?_⟩
  (intro l2 l20; generalize hh_ : upd _ l2 _ = H3; have e2 := upd_is hh_; have s3 := same_is hh_ l20; clear hh_)
  refine ⟨l1, l2, _, _, rfl, rfl, s3 _ _ e1, e2, (by show 20 ≤ sizeLine; decide), ?_⟩
  (intro so so0; generalize hh_ : upd _ so _ = H4; have eso := upd_is hh_; have s4 := same_is hh_ so0; clear hh_)
  have T4 := ((T1.same s2).same s3).same s4
  clear s1 hS T1 e1 e2 l10 l20 s2 s3 s4 so0
  have eso : H4 so = some (.lst (someT.map V.str)) := eso
  clear H1 H2 H3
  refine ⟨5, rfl, by decide, by decide, for_range (n := 5) (fun i σ Hx => ∃ (ks : List (Option V)), σ = some (.ref a) :: some (.ref t) :: some (.ref so) :: ks ∧ ks.length = 8 ∧ TapeAt Hx t c (3000 * i) ∧ Hx so = some (.lst (someT.map V.str))) ⟨_, rfl, rfl, T4, eso⟩ ?_ ?_⟩
  · rintro i σ Hx hi ⟨ks, rfl, lks, Tx, ex⟩
    clear T4 eso
    match ks, lks with
    | [k3, k4, k5, k6, k7, k8, k9, k10], _ =>
    have num : ∃ m : Nat, atI [V.int 0, .int 3, .int 12, .int 110, .int 5] (0 + (i : Int)) = some (.int m) ∧ m ≤ 110 := by
      have : i = 0 ∨ i = 1 ∨ i = 2 ∨ i = 3 ∨ i = 4 := by omega
      rcases this with rfl | rfl | rfl | rfl | rfl
      · exact ⟨0, rfl, by omega⟩
      · exact ⟨3, rfl, by omega⟩
      · exact ⟨12, rfl, by omega⟩
      · exact ⟨110, rfl, by omega⟩
      · exact ⟨5, rfl, by omega⟩
    obtain ⟨m, hm, lm⟩ := num
    refine ⟨_, rfl, (by show 5 ≤ sizeLine; decide), ?_⟩
    (intro l3 l30; generalize hh_ : upd _ l3 _ = G1; have e3 := upd_is hh_; have g1 := same_is hh_ l30; clear hh_)
    have exG := g1 _ _ ex
    have sot : so ≠ t := Tx.ne_lst ex
    refine ⟨_, rfl, l3, _, _, _, rfl, rfl, SqL.of e3, hm, t, c, _, m, 300, rfl, Tx.same g1, by omega, lm, by decide, fun p xs ds G2 f2 T2 p0 ep im ld okd => ?_⟩
    have ex2 := f2 _ _ exG (not_in_one sot)
    refine ⟨fun σ' G => ∃ (p : Addr) (xs : List V) (ds : List PyData), σ' = [some (.ref a), some (.ref t), some (.ref so), some (.int (0 + (i : Int))), some (.ref p), k5, k6, k7, k8, k9, k10] ∧ TapeAt G t c (3000 * i + 2000) ∧ G so = some (.lst (someT.map V.str)) ∧
      G p = some (.lst xs) ∧ ImAll G xs ds ∧ ds.length ≤ 112 ∧ ∀ d ∈ ds, isT d = true, ?_, ?_⟩
    · refine ⟨_, rfl, rfl, _, rfl, ite2 (fun _ => ?_) fun _ => ?_⟩
      · have lx := ImAll.ln im
        refine ⟨_, _, rfl, rfl, pw9, _, rfl, (by show 5 ≤ sizeLine; decide), ?_⟩
        (intro q1 q10; generalize hh_ : upd _ q1 _ = M1; have z1 := upd_is hh_; have r1 := same_is hh_ q10; clear hh_)
        refine ⟨(by show 1 ≤ sizeLine; decide), ?_⟩
        (intro q2 q20; generalize hh_ : upd _ q2 _ = M2; have z2 := upd_is hh_; have r2 := same_is hh_ q20; clear hh_)
        refine ⟨_, rfl, q2, p, _, _, rfl, rfl, z2, r2 _ _ (r1 _ _ ep), Nat.le_trans (by rw [List.length_singleton]; omega : _ ≤ 1000) (by decide), ?_⟩
        (intro q3 q30; generalize hh_ : upd _ q3 _ = M3; have z3 := upd_is hh_; have r3 := same_is hh_ q30; clear hh_)
        refine ⟨_, rfl, (by show 5 ≤ sizeLine; decide), ?_⟩
        (intro q4 q40; generalize hh_ : upd _ q4 _ = M4; have z4 := upd_is hh_; have r4 := same_is hh_ q40; clear hh_)
        refine ⟨(by show 1 ≤ sizeLine; decide), ?_⟩
        (intro q5 q50; generalize hh_ : upd _ q5 _ = M5; have z5 := upd_is hh_; have r5 := same_is hh_ q50; clear hh_)
        refine ⟨q3, q5, _, _, rfl, rfl, r5 _ _ (r4 _ _ z3), z5, Nat.le_trans (by rw [List.length_append, List.length_singleton, List.length_singleton]; omega : _ ≤ 1000) (by decide), ?_⟩
        (intro q6 q60; generalize hh_ : upd _ q6 _ = M6; have z6 := upd_is hh_; have r6 := same_is hh_ q60; clear hh_)
        have c6 : Same G2 M6 := r1.trans (r2.trans (r3.trans (r4.trans (r5.trans r6))))
        have c26 : Same M1 M6 := r2.trans (r3.trans (r4.trans (r5.trans r6)))
        have c46 : Same M4 M6 := r5.trans r6
        refine ⟨q6, _, [.tuple [.int 1000000000, .int 9, .str "lost", .int (-10000), .int 10000]] ++ ds ++ [.tuple [.int 0, .int 0, .str "up", .int 10000, .int (-10000)]], rfl, (T2.same c6).mono (by omega), c6 _ _ ex2, z6, ?_, by rw [List.length_append, List.length_append, List.length_singleton, List.length_singleton]; omega, ?_⟩
        · refine ImAll.app (ImAll.app (.cons (.tup (c26 _ _ z1) (.cons (.int _) (.cons (.int _) (.cons (.str _) (.cons (.int _) (.cons (.int _) .nil)))))) .nil) (ImAll.same im c6)) (.cons (.tup (c46 _ _ z4) (.cons (.int _) (.cons (.int _) (.cons (.str _) (.cons (.int _) (.cons (.int _) .nil)))))) .nil)
        · intro d hd
          rcases List.mem_append.mp hd with h | h
          · rcases List.mem_append.mp h with h | h
            · rw [List.mem_singleton.mp h]; decide +kernel
            · exact okd d h
          · rw [List.mem_singleton.mp h]; decide +kernel
      · exact ⟨p, xs, ds, rfl, T2, ex2, ep, im, by omega, okd⟩
    clear T2 ep im ld okd ex2 f2 p0 e3 exG
    rintro σ' G3 ⟨p, xs, ds, rfl, T3, ex3, ep, im, ld, okd⟩
    have lx := ImAll.ln im
    refine ⟨⟨_, rfl⟩, _, rfl, p, rfl, ⟨xs, SqL.of ep⟩, fun D0 hD => ?_⟩
    refine lc_txL (K := K) (a := p) (xs := xs) (ys := ds.map rText) (by rw [List.length_map]; exact lx.symm) hD (SqL.of ep) (by omega) ?_ ?_
    · intro j v z Hx N hv hz sx kN
      rw [List.getElem?_map] at hz
      obtain ⟨d, hd, rfl⟩ := Option.map_eq_some_iff.mp hz
      have iv := ImAll.at im hv hd
      obtain ⟨fs, rfl, l5, of⟩ := isT_has (okd d (List.mem_of_getElem? hd))
      refine ⟨rfl, ?_⟩
      cases iv with
      | @tup ta ys _ ha imt =>
      have lt := ImAll.ln imt
      have ha2 := sx _ _ ha
      refine ⟨⟨_, rfl⟩, _, rfl, ta, rfl, ⟨ys, SqT.of ha2⟩, fun D1 hD1 => ?_⟩
      refine lc_txT (K := K) (a := ta) (xs := ys) (ys := fs.map fText) (by rw [List.length_map]; exact lt.symm) hD1 (SqT.of ha2) (by omega) ?_ ?_
      · intro i2 v2 z2 Hy N2 hv2 hz2 sy kN2
        rw [List.getElem?_map] at hz2
        obtain ⟨d2, hd2, rfl⟩ := Option.map_eq_some_iff.mp hz2
        refine ⟨rfl, _, rfl, ?_⟩
        have iv2 := ImAll.at imt hv2 hd2
        have od := of d2 (List.mem_of_getElem? hd2)
        cases d2 with
        | int j2 =>
          cases iv2
          exact .inl ⟨j2, rfl, log_small od, kN2 Hy (Same.refl _)⟩
        | str s2 =>
          cases iv2
          exact .inr ⟨s2, rfl, kN2 Hy (Same.refl _)⟩
        | _ => exact od.elim
      · intro Hy sy ey
        refine ⟨" ", D1, fs.map fText, rfl, rfl, .inl (SqL.of ey), sum_lens (B := 11) ?_ " " (by rw [List.length_map]; omega) (by decide +kernel), kN Hy sy⟩
        intro p hp
        obtain ⟨f, hf, rfl⟩ := List.mem_map.mp hp
        exact (fText_free (of f hf)).2.2
    · intro G4 s4 eD
      have tb := ts_back okd
      refine ⟨"\n", D0, ds.map rText, rfl, rfl, .inl (SqL.of eD), sum_lens (B := 60) ?_ "\n" (by rw [List.length_map]; omega) (by decide +kernel), ?_⟩
      · intro p hp
        obtain ⟨f, hf, rfl⟩ := List.mem_map.mp hp
        exact (row_back (okd f hf)).2.2.1
      have lt : (tsText ds).length ≤ 6832 := Nat.le_trans tb.2 (by omega)
      have ta := ts_ans okd
      have dl : (PyData.list ds).depth ≤ 64 := by rw [← ta]; exact Nat.le_trans (ans_depth _) (by decide)
      have T4 := T3.same s4
      have ex4 := s4 _ _ ex3
      have ep4 := s4 _ _ ep
      have im4 := ImAll.same im s4
      refine ⟨_, rfl, p, xs, ds, rfl, SqL.of ep4, im4, by omega, okd, fun G5 s5 => ?_⟩
      refine ⟨_, rfl, rfl, _, rfl, ?_⟩
      rw [show (!decide (V.str (tsText ds) = V.str (Txt.join "\n" (ds.map rText)))) = false from (by rw [show V.str (Txt.join "\n" (ds.map rText)) = V.str (tsText ds) from rfl]; simp)]
      refine iteF ⟨_, rfl, .str (tsText ds), .str (tsText ds), rfl, .str _, (fun z e => by cases e; omega), fun u G6 s6 hu6 => ?_⟩
      rw [ta] at hu6
      have ep6 := s6 _ _ (s5 _ _ ep4)
      have im6 := ImAll.same (ImAll.same im4 s5) s6
      have ex6 := s6 _ _ (s5 _ _ ex4)
      have T6 := (T4.same s5).same s6
      refine ⟨_, rfl, eq_ne hu6 (.lst (SqL.of ep6) im6.dp) dl ⟨_, rfl, iteF ?_⟩⟩
      refine ⟨_, rfl, _, rfl, _, rfl, t, c, so, _, tsText ds, someT, rfl, T6, by omega, ex6, ⟨by decide, by decide⟩, some_len, by omega, fun r1 G7 f7 T7 lr1 => ?_⟩
      have sot7 : so ≠ t := T6.ne_lst ex6
      have pt : p ≠ t := T6.ne_lst ep6
      have ep7 := f7 _ _ ep6 (not_in_one pt)
      have im7 := ImAll.tp (T6.tp f7) im6
      have ex7 := f7 _ _ ex6 (not_in_one sot7)
      refine ⟨_, rfl, (by show 5 ≤ sizeLine; decide), ?_⟩
      intro lo hlo
      refine ⟨_, rfl, ?_⟩
      have T7' := T7
      refine pick_draw (xs := [V.non, .int 7, .bl true, .ref p, .str ""]) T7 (by omega) rfl ⟨(by show 1 ≤ 5; decide), (by show 5 ≤ 1000; decide)⟩ (fun v G8 hv T8 f8 => ?_) lo hlo
      clear hlo lo
      have ep8 := f8 _ _ ep7 (not_in_one pt)
      have im8 := ImAll.tp (T7'.tp f8) im7
      have ex8 := f8 _ _ ex7 (not_in_one sot7)
      refine ⟨_, rfl, _, rfl, _, rfl, _, rfl, t, c, so, _, r1, someT, rfl, T8, by omega, ex8, ⟨by decide, by decide⟩, some_len, by omega, fun r2 G9 f9 T9 lr2 => ?_⟩
      have ep9 := f9 _ _ ep8 (not_in_one pt)
      have im9 := ImAll.tp (T8.tp f9) im8
      have ex9 := f9 _ _ ex8 (not_in_one sot7)
      refine ⟨_, rfl, (by show 3 ≤ sizeLine; decide), ?_⟩
      (intro ll ll0; generalize hh_ : upd _ ll _ = G10; have el := upd_is hh_; have g10 := same_is hh_ ll0; clear hh_)
      have item : ∀ x ∈ [V.str r1, .str r2, v], ∀ Hx : Hp, Hx p = some (.lst xs) → ImAll Hx xs ds → ∃ d, Dp K Hx x d ∧ ∀ z, d = .str z → z.length ≤ 100000 := by
        intro x hx Hx hp him
        simp only [List.mem_cons, List.not_mem_nil, or_false] at hx hv
        rcases hx with rfl | rfl | rfl
        · exact ⟨.str r1, .str _, fun z e => by cases e; omega⟩
        · exact ⟨.str r2, .str _, fun z e => by cases e; omega⟩
        · rcases hv with rfl | rfl | rfl | rfl | rfl
          · exact ⟨.none, .non, fun z e => by cases e⟩
          · exact ⟨.int 7, .int _, fun z e => by cases e⟩
          · exact ⟨.bool true, .bl _, fun z e => by cases e⟩
          · exact ⟨.list ds, .lst (SqL.of hp) him.dp, fun z e => by cases e⟩
          · exact ⟨.str "", .str _, fun z e => by cases e; exact Nat.zero_le _⟩
      refine ⟨ll, rfl, ⟨_, SqL.of el⟩, ?_⟩
      refine for_list (K := K) (a := ll) (xs := [V.str r1, .str r2, v]) (fun j σ Hx => (∃ k8 : Option V, σ = [some (.ref a), some (.ref t), some (.ref so), some (.int (0 + (i : Int))), some (.ref p), some (.str (tsText ds)), some (.str r1), some v, k8, k9, k10]) ∧ Same G10 Hx)
        ⟨⟨_, rfl⟩, Same.refl _⟩ (fun j σ Hx _ h => SqL.of (h.2 _ _ el)) ?_ ?_
      · rintro j x σ Hx hx ⟨⟨k8, rfl⟩, sx⟩
        obtain ⟨d, hd, lz⟩ := item x (List.mem_of_getElem? hx) Hx (sx _ _ (g10 _ _ ep9)) (ImAll.same (ImAll.same im9 g10) sx)
        refine ⟨_, rfl, x, d, rfl, hd, lz, fun u1 K1 y1 h1 => ?_⟩
        refine ⟨_, rfl, x, d, rfl, Dp.same y1 hd, lz, fun u2 K2 y2 h2 => ?_⟩
        refine eq_ne (Dp.same y2 h1) h2 (Nat.le_trans (ans_depth d) (by decide)) ⟨_, rfl, iteF ?_⟩
        exact ⟨⟨_, rfl⟩, sx.trans (y1.trans y2)⟩
      · rintro σ Hx ⟨⟨k8, rfl⟩, sx⟩
        exact ⟨_, rfl, rfl, ((T9.same g10).same sx).mono (by omega), sx _ _ (g10 _ _ ex9)⟩
  · rintro σ Hx _
    exact k Hx
end
end SG
namespace SG
open PySem PySem.Spec PyProof.Rows L2
theorem exm_self {K : PySem.W.Frag} {S : Addr} (h1 : PySem.W.subIn K (.ref S) (.type "BaseException") = some true) (h2 : PySem.W.isClsIn K S = true) (h3 : PySem.W.typeIn K (.ref S) = some (.type "type")) (h4 : PySem.W.subIn K (.ref S) (.ref S) = some true) :
    PySem.W.exmOne K (.ref S) (.ref S) = some true := by
  have e1 : (PySem.W.subIn K (.ref S) (.type "BaseException") == some true) = true := by rw [h1] <;> rfl
  have e2 : ((PySem.W.clsIn K S).isSome && PySem.W.typeIn K (.ref S) == some (.type "type")) = true := by
    have h2' : (PySem.W.clsIn K S).isSome = true := h2
    rw [h2', h3] <;> rfl
  unfold PySem.W.exmOne
  rw [if_pos e1]
  unfold PySem.W.kitCls
  show (if ((PySem.W.clsIn K S).isSome && PySem.W.typeIn K (.ref S) == some (.type "type")) = true then PySem.W.subIn K (.ref S) (.ref S) else none) = some true
  rw [if_pos e2]
  exact h4
theorem kit_VE {K : PySem.W.Frag} {S : Addr} (h : PySem.W.subIn K (.ref S) (.type "ValueError") = some true) : PySem.W.kitOne K (.ref S) (.type "ValueError") = some true := by
  have e : PySem.W.kitMeta "ValueError" = true := by decide +kernel
  unfold PySem.W.kitOne
  rw [if_neg (fun z => by have := eq_of_beq z; cases this)]
  unfold PySem.W.kitCls
  show (if PySem.W.kitMeta "ValueError" = true then PySem.W.subIn K (.ref S) (.type "ValueError") else none) = some true
  rw [if_pos e]
  exact h

theorem all_mk {l : PySem.W.OpenLaw} {w : World} {K : PySem.W.Frag} {h : Heap} {mg : Str → Option Value} {fa f1 f2 f3 f4 f5 f6 f7 f8 f9 f10 f11 f12 f13 f14 f15 f16 f17 f18 f19 f20 f21 f22 CNoText : Addr} (X : K.In h) (G : h.Ns mainGlobals mg) (hfa : mg "law" = some (.ref fa)) {od1 an1 od2 an2 od3 an3 od4 an4 od5 an5 od6 an6 od7 an7 od8 an8 od9 an9 od10 an10 od11 an11 od12 an12 od13 an13 od14 an14 od15 an15 od16 an16 od17 an17 od18 an18 od19 an19 od20 an20 od21 an21 od22 an22 : Option Addr} {sl1 sl2 sl3 sl4 sl5 sl6 sl7 sl8 sl9 sl10 sl11 sl12 sl13 sl14 sl15 sl16 sl17 sl18 sl19 sl20 sl21 sl22 : Array (Option Value)} {oc1 kV1 dc1 pm1 cd1 ct1 oc2 kV2 dc2 pm2 cd2 ct2 oc3 kV3 dc3 pm3 cd3 ct3 oc4 kV4 dc4 pm4 cd4 ct4 oc5 kV5 dc5 pm5 cd5 ct5 oc6 kV6 dc6 pm6 cd6 ct6 oc7 kV7 dc7 pm7 cd7 ct7 oc8 kV8 dc8 pm8 cd8 ct8 oc9 kV9 dc9 pm9 cd9 ct9 oc10 kV10 dc10 pm10 cd10 ct10 oc11 kV11 dc11 pm11 cd11 ct11 oc12 kV12 dc12 pm12 cd12 ct12 oc13 kV13 dc13 pm13 cd13 ct13 oc14 kV14 dc14 pm14 cd14 ct14 oc15 kV15 dc15 pm15 cd15 ct15 oc16 kV16 dc16 pm16 cd16 ct16 oc17 kV17 dc17 pm17 cd17 ct17 oc18 kV18 dc18 pm18 cd18 ct18 oc19 kV19 dc19 pm19 cd19 ct19 oc20 kV20 dc20 pm20 cd20 ct20 oc21 kV21 dc21 pm21 cd21 ct21 oc22 kV22 dc22 pm22 cd22 ct22 : Value} {aTOUCH_WORDS : Addr} {dTOUCH_WORDS : Option Addr} {nTOUCH_WORDS : Nat} {sTOUCH_WORDS : Array (Option Value)} {uTOUCH_WORDS0 uTOUCH_WORDS1 uTOUCH_WORDS2 uTOUCH_WORDS3 : Tok} {nmNoText qNoText : Str} {NNoText : Addr} {bsNoText : List Value} {snNoText : List Str} {subNoText : List Value} {abNoText : Bool} {colNoText : Option Bool} {ddNoText : Option Addr} {m0NoText m1NoText m2NoText m3NoText m5NoText : Option Value} {tFARTHEST tLAST_MOMENT tLAST_FINGER tFIGURES tMOST_FIGURES : Tok}
    (a1 : PySem.W.nsIn K mainGlobals "is_between" = some (some (.ref f1)))
    (l1 : K.lookup f1 = some ⟨oc1, od1, .func (PySem.W.fnOf "is_between" "is_between" (defArgs sis_between) (defBody sis_between) (defScope sis_between) .none kV1 dc1 pm1 an1 cd1 ct1), sl1⟩)
    (c1 : PySem.W.codeIn K cd1 "is_between" = true)
    (k1 : PySem.W.keepIn K (.ref f1) = true)
    (a2 : PySem.W.nsIn K mainGlobals "is_coordinate" = some (some (.ref f2)))
    (l2 : K.lookup f2 = some ⟨oc2, od2, .func (PySem.W.fnOf "is_coordinate" "is_coordinate" (defArgs sis_coordinate) (defBody sis_coordinate) (defScope sis_coordinate) .none kV2 dc2 pm2 an2 cd2 ct2), sl2⟩)
    (c2 : PySem.W.codeIn K cd2 "is_coordinate" = true)
    (k2 : PySem.W.keepIn K (.ref f2) = true)
    (a3 : PySem.W.nsIn K mainGlobals "is_row" = some (some (.ref f3)))
    (l3 : K.lookup f3 = some ⟨oc3, od3, .func (PySem.W.fnOf "is_row" "is_row" (defArgs sis_row) (defBody sis_row) (defScope sis_row) .none kV3 dc3 pm3 an3 cd3 ct3), sl3⟩)
    (c3 : PySem.W.codeIn K cd3 "is_row" = true)
    (k3 : PySem.W.keepIn K (.ref f3) = true)
    (a4 : PySem.W.nsIn K mainGlobals "is_moment" = some (some (.ref f4)))
    (l4 : K.lookup f4 = some ⟨oc4, od4, .func (PySem.W.fnOf "is_moment" "is_moment" (defArgs sis_moment) (defBody sis_moment) (defScope sis_moment) .none kV4 dc4 pm4 an4 cd4 ct4), sl4⟩)
    (c4 : PySem.W.codeIn K cd4 "is_moment" = true)
    (k4 : PySem.W.keepIn K (.ref f4) = true)
    (a5 : PySem.W.nsIn K mainGlobals "is_touch" = some (some (.ref f5)))
    (l5 : K.lookup f5 = some ⟨oc5, od5, .func (PySem.W.fnOf "is_touch" "is_touch" (defArgs sis_touch) (defBody sis_touch) (defScope sis_touch) .none kV5 dc5 pm5 an5 cd5 ct5), sl5⟩)
    (c5 : PySem.W.codeIn K cd5 "is_touch" = true)
    (k5 : PySem.W.keepIn K (.ref f5) = true)
    (a6 : PySem.W.nsIn K mainGlobals "rows_of" = some (some (.ref f6)))
    (l6 : K.lookup f6 = some ⟨oc6, od6, .func (PySem.W.fnOf "rows_of" "rows_of" (defArgs srows_of) (defBody srows_of) (defScope srows_of) .none kV6 dc6 pm6 an6 cd6 ct6), sl6⟩)
    (c6 : PySem.W.codeIn K cd6 "rows_of" = true)
    (k6 : PySem.W.keepIn K (.ref f6) = true)
    (a7 : PySem.W.nsIn K mainGlobals "row_of" = some (some (.ref f7)))
    (l7 : K.lookup f7 = some ⟨oc7, od7, .func (PySem.W.fnOf "row_of" "row_of" (defArgs srow_of) (defBody srow_of) (defScope srow_of) .none kV7 dc7 pm7 an7 cd7 ct7), sl7⟩)
    (c7 : PySem.W.codeIn K cd7 "row_of" = true)
    (k7 : PySem.W.keepIn K (.ref f7) = true)
    (a8 : PySem.W.nsIn K mainGlobals "fields_of" = some (some (.ref f8)))
    (l8 : K.lookup f8 = some ⟨oc8, od8, .func (PySem.W.fnOf "fields_of" "fields_of" (defArgs sfields_of) (defBody sfields_of) (defScope sfields_of) .none kV8 dc8 pm8 an8 cd8 ct8), sl8⟩)
    (c8 : PySem.W.codeIn K cd8 "fields_of" = true)
    (k8 : PySem.W.keepIn K (.ref f8) = true)
    (a9 : PySem.W.nsIn K mainGlobals "touch_of" = some (some (.ref f9)))
    (l9 : K.lookup f9 = some ⟨oc9, od9, .func (PySem.W.fnOf "touch_of" "touch_of" (defArgs stouch_of) (defBody stouch_of) (defScope stouch_of) .none kV9 dc9 pm9 an9 cd9 ct9), sl9⟩)
    (c9 : PySem.W.codeIn K cd9 "touch_of" = true)
    (k9 : PySem.W.keepIn K (.ref f9) = true)
    (a10 : PySem.W.nsIn K mainGlobals "_is_number" = some (some (.ref f10)))
    (l10 : K.lookup f10 = some ⟨oc10, od10, .func (PySem.W.fnOf "_is_number" "_is_number" (defArgs s_is_number) (defBody s_is_number) (defScope s_is_number) .none kV10 dc10 pm10 an10 cd10 ct10), sl10⟩)
    (c10 : PySem.W.codeIn K cd10 "_is_number" = true)
    (k10 : PySem.W.keepIn K (.ref f10) = true)
    (a11 : PySem.W.nsIn K mainGlobals "show_touches" = some (some (.ref f11)))
    (l11 : K.lookup f11 = some ⟨oc11, od11, .func (PySem.W.fnOf "show_touches" "show_touches" (defArgs sshow_touches) (defBody sshow_touches) (defScope sshow_touches) .none kV11 dc11 pm11 an11 cd11 ct11), sl11⟩)
    (c11 : PySem.W.codeIn K cd11 "show_touches" = true)
    (k11 : PySem.W.keepIn K (.ref f11) = true)
    (a12 : PySem.W.nsIn K mainGlobals "read_touches" = some (some (.ref f12)))
    (l12 : K.lookup f12 = some ⟨oc12, od12, .func (PySem.W.fnOf "read_touches" "read_touches" (defArgs sread_touches) (defBody sread_touches) (defScope sread_touches) .none kV12 dc12 pm12 an12 cd12 ct12), sl12⟩)
    (c12 : PySem.W.codeIn K cd12 "read_touches" = true)
    (k12 : PySem.W.keepIn K (.ref f12) = true)
    (a13 : PySem.W.nsIn K mainGlobals "_law_tape" = some (some (.ref f13)))
    (l13 : K.lookup f13 = some ⟨oc13, od13, .func (PySem.W.fnOf "_law_tape" "_law_tape" (defArgs s_law_tape) (defBody s_law_tape) (defScope s_law_tape) .none kV13 dc13 pm13 an13 cd13 ct13), sl13⟩)
    (c13 : PySem.W.codeIn K cd13 "_law_tape" = true)
    (k13 : PySem.W.keepIn K (.ref f13) = true)
    (a14 : PySem.W.nsIn K mainGlobals "_law_draw" = some (some (.ref f14)))
    (l14 : K.lookup f14 = some ⟨oc14, od14, .func (PySem.W.fnOf "_law_draw" "_law_draw" (defArgs s_law_draw) (defBody s_law_draw) (defScope s_law_draw) .none kV14 dc14 pm14 an14 cd14 ct14), sl14⟩)
    (c14 : PySem.W.codeIn K cd14 "_law_draw" = true)
    (k14 : PySem.W.keepIn K (.ref f14) = true)
    (a15 : PySem.W.nsIn K mainGlobals "_law_touches" = some (some (.ref f15)))
    (l15 : K.lookup f15 = some ⟨oc15, od15, .func (PySem.W.fnOf "_law_touches" "_law_touches" (defArgs s_law_touches) (defBody s_law_touches) (defScope s_law_touches) .none kV15 dc15 pm15 an15 cd15 ct15), sl15⟩)
    (c15 : PySem.W.codeIn K cd15 "_law_touches" = true)
    (k15 : PySem.W.keepIn K (.ref f15) = true)
    (a16 : PySem.W.nsIn K mainGlobals "_law_number" = some (some (.ref f16)))
    (l16 : K.lookup f16 = some ⟨oc16, od16, .func (PySem.W.fnOf "_law_number" "_law_number" (defArgs s_law_number) (defBody s_law_number) (defScope s_law_number) .none kV16 dc16 pm16 an16 cd16 ct16), sl16⟩)
    (c16 : PySem.W.codeIn K cd16 "_law_number" = true)
    (k16 : PySem.W.keepIn K (.ref f16) = true)
    (a17 : PySem.W.nsIn K mainGlobals "_law_touch_in" = some (some (.ref f17)))
    (l17 : K.lookup f17 = some ⟨oc17, od17, .func (PySem.W.fnOf "_law_touch_in" "_law_touch_in" (defArgs s_law_touch_in) (defBody s_law_touch_in) (defScope s_law_touch_in) .none kV17 dc17 pm17 an17 cd17 ct17), sl17⟩)
    (c17 : PySem.W.codeIn K cd17 "_law_touch_in" = true)
    (k17 : PySem.W.keepIn K (.ref f17) = true)
    (a18 : PySem.W.nsIn K mainGlobals "_law_bent_text" = some (some (.ref f18)))
    (l18 : K.lookup f18 = some ⟨oc18, od18, .func (PySem.W.fnOf "_law_bent_text" "_law_bent_text" (defArgs s_law_bent_text) (defBody s_law_bent_text) (defScope s_law_bent_text) .none kV18 dc18 pm18 an18 cd18 ct18), sl18⟩)
    (c18 : PySem.W.codeIn K cd18 "_law_bent_text" = true)
    (k18 : PySem.W.keepIn K (.ref f18) = true)
    (a19 : PySem.W.nsIn K mainGlobals "_law_asked" = some (some (.ref f19)))
    (l19 : K.lookup f19 = some ⟨oc19, od19, .func (PySem.W.fnOf "_law_asked" "_law_asked" (defArgs s_law_asked) (defBody s_law_asked) (defScope s_law_asked) .none kV19 dc19 pm19 an19 cd19 ct19), sl19⟩)
    (c19 : PySem.W.codeIn K cd19 "_law_asked" = true)
    (k19 : PySem.W.keepIn K (.ref f19) = true)
    (a20 : PySem.W.nsIn K mainGlobals "_law_due" = some (some (.ref f20)))
    (l20 : K.lookup f20 = some ⟨oc20, od20, .func (PySem.W.fnOf "_law_due" "_law_due" (defArgs s_law_due) (defBody s_law_due) (defScope s_law_due) .none kV20 dc20 pm20 an20 cd20 ct20), sl20⟩)
    (c20 : PySem.W.codeIn K cd20 "_law_due" = true)
    (k20 : PySem.W.keepIn K (.ref f20) = true)
    (a21 : PySem.W.nsIn K mainGlobals "law" = some (some (.ref f21)))
    (l21 : K.lookup f21 = some ⟨oc21, od21, .func (PySem.W.fnOf "law" "law" (defArgs slaw) (defBody slaw) (defScope slaw) .none kV21 dc21 pm21 an21 cd21 ct21), sl21⟩)
    (c21 : PySem.W.codeIn K cd21 "law" = true)
    (k21 : PySem.W.keepIn K (.ref f21) = true)
    (aCNoText : PySem.W.nsIn K mainGlobals "NoText" = some (some (.ref CNoText)))
    (xLNoText : K.lookup CNoText = some (excClassObj nmNoText qNoText CNoText NNoText bsNoText [.type "ValueError", .type "Exception", .type "BaseException", .type "object"] true snNoText subNoText abNoText colNoText ddNoText m0NoText m1NoText m2NoText m3NoText m5NoText "ValueError.__new__"))
    (saNoText : PySem.W.findIn K (.ref CNoText) "__setattr__" = some (some (.builtin "object.__setattr__")))
    (gaNoText : PySem.W.findIn K (.ref CNoText) "__getattribute__" = some (some (.builtin "BaseException.__getattribute__")))
    (ggNoText : PySem.W.findIn K (.ref CNoText) "__getattr__" = some none)
    (kCNoText : PySem.W.keepIn K (.ref CNoText) = true)
    (eCNoText : PySem.W.subIn K (.ref CNoText) (.type "BaseException") = some true)
    (tCNoText : PySem.W.typeIn K (.ref CNoText) = some (.type "type"))
    (hCNoText : PySem.W.hasDictIn K CNoText = true)
    (iCNoText : PySem.W.isClsIn K CNoText = true)
    (sCNoText : PySem.W.subIn K (.ref CNoText) (.ref CNoText) = some true)
    (gcNoText : PySem.W.findIn K (.ref CNoText) "__class__" = some (some (.builtin "object.__class__")))
    (hnNoText : PySem.W.specialIn K (.builtin "object.__class__") "__get__" = some (some (.builtin "getset_descriptor.__get__")))
    (htNoText : PySem.W.takesIn K (.builtin "object.__class__") = some true)
    (hmNoText : PySem.W.mroIn K CNoText (.type "object") = some true)
    (svNoText : PySem.W.subIn K (.ref CNoText) (.type "ValueError") = some true)
    (vVENoText : PySem.W.findCls K (.type "ValueError") (.type "type") "__init__" = some (.val (.builtin "ValueError.__init__")))
    (nrowNoText : PySem.W.findIn K (.ref CNoText) "row" = some none)
    (a22 : PySem.W.findIn K (.ref CNoText) "__init__" = some (some (.ref f22)))
    (i22 : PySem.W.typeIn K (.ref f22) = some (.type "function"))
    (l22 : K.lookup f22 = some ⟨oc22, od22, .func (PySem.W.fnOf "__init__" "NoText.__init__" (defArgs s__init__) (defBody s__init__) (defScope s__init__) .none kV22 dc22 pm22 an22 cd22 ct22), sl22⟩)
    (c22 : PySem.W.codeIn K cd22 "NoText.__init__" = true)
    (k22 : PySem.W.keepIn K (.ref f22) = true)
    (zValueError : PySem.W.nsIn K mainGlobals "ValueError" = some none)
    (zall : PySem.W.nsIn K mainGlobals "all" = some none)
    (zbool : PySem.W.nsIn K mainGlobals "bool" = some none)
    (zenumerate : PySem.W.nsIn K mainGlobals "enumerate" = some none)
    (zint : PySem.W.nsIn K mainGlobals "int" = some none)
    (zisinstance : PySem.W.nsIn K mainGlobals "isinstance" = some none)
    (zlen : PySem.W.nsIn K mainGlobals "len" = some none)
    (zrange : PySem.W.nsIn K mainGlobals "range" = some none)
    (zstr : PySem.W.nsIn K mainGlobals "str" = some none)
    (ztuple : PySem.W.nsIn K mainGlobals "tuple" = some none)
    (yFARTHEST : PySem.W.nsIn K mainGlobals "FARTHEST" = some (some (.int 10000 tFARTHEST)))
    (yLAST_MOMENT : PySem.W.nsIn K mainGlobals "LAST_MOMENT" = some (some (.int 1000000000 tLAST_MOMENT)))
    (yLAST_FINGER : PySem.W.nsIn K mainGlobals "LAST_FINGER" = some (some (.int 9 tLAST_FINGER)))
    (yFIGURES : PySem.W.nsIn K mainGlobals "FIGURES" = some (some (.str "0123456789" tFIGURES)))
    (yMOST_FIGURES : PySem.W.nsIn K mainGlobals "MOST_FIGURES" = some (some (.int 10 tMOST_FIGURES)))
    (yTOUCH_WORDS : PySem.W.nsIn K mainGlobals "TOUCH_WORDS" = some (some (.ref aTOUCH_WORDS)))
    (xTOUCH_WORDS : K.lookup aTOUCH_WORDS = some ⟨.type "tuple", dTOUCH_WORDS, .seq #[.str "down" uTOUCH_WORDS0, .str "move" uTOUCH_WORDS1, .str "up" uTOUCH_WORDS2, .str "lost" uTOUCH_WORDS3] nTOUCH_WORDS, sTOUCH_WORDS⟩)
    : ∃ fd : FuncData, (∀ (s : Shared) (v : Value), BindsTo s fd ⟨[v], []⟩ [("_law_script", v)]) ∧ ∀ base : Heap, K.In base → base.Ns mainGlobals mg → FnG l.prog w K mg base 7 fa fd ["_law_script"] (spLaw K) := by
  have e := hfa.symm.trans (PySem.W.mg_of X G a21)
  cases e
  have T : Txt K mg := ⟨PySem.W.mg_none_of X G zValueError, PySem.W.mg_none_of X G zall, PySem.W.mg_none_of X G zbool, PySem.W.mg_none_of X G zenumerate, PySem.W.mg_none_of X G zint, PySem.W.mg_none_of X G zisinstance, PySem.W.mg_none_of X G zlen, PySem.W.mg_none_of X G zrange, PySem.W.mg_none_of X G zstr, PySem.W.mg_none_of X G ztuple, ⟨_, PySem.W.mg_of X G yFARTHEST⟩, ⟨_, PySem.W.mg_of X G yLAST_MOMENT⟩, ⟨_, PySem.W.mg_of X G yLAST_FINGER⟩, ⟨_, PySem.W.mg_of X G yFIGURES⟩, ⟨_, PySem.W.mg_of X G yMOST_FIGURES⟩, ⟨_, PySem.W.mg_of X G yTOUCH_WORDS, fun _ => .inr ⟨_, _, _, xTOUCH_WORDS, rfl, rfl, by show 4 ≤ sizeLine; decide, (.cons ⟨_, rfl⟩ (.cons ⟨_, rfl⟩ (.cons ⟨_, rfl⟩ (.cons ⟨_, rfl⟩ .nil))))⟩⟩⟩
  have TNoText : ExK K mg "NoText" "row" CNoText := ⟨⟨⟨nmNoText, qNoText, NNoText, bsNoText, _, snNoText, subNoText, abNoText, colNoText, ddNoText, m0NoText, m1NoText, m2NoText, m3NoText, m5NoText, xLNoText, by decide +kernel⟩, saNoText, eCNoText, tCNoText, kCNoText⟩, PySem.W.mg_of X G aCNoText, nrowNoText, ⟨gaNoText, ggNoText, eCNoText, hCNoText⟩, ⟨gaNoText, ggNoText, eCNoText, hCNoText, gcNoText, hnNoText, htNoText, hmNoText⟩, iCNoText, exm_self eCNoText iCNoText tCNoText sCNoText⟩
  have VKNoText : PySem.W.kitOne K (.ref CNoText) (.type "ValueError") = some true := kit_VE svNoText
  have F22 := fun_mk (st := s__init__) l22 c22 k22
  have D__init__ : DfE K CNoText "NoText.__init__" s__init__ ["self", "row"] := ⟨⟨_, _, a22, i22, F22, F22.binds (ps := ["self", "row"]) fun _ _ _ _ _ _ us hl => match us, hl with | [_, _], _ => rfl⟩⟩
  have F1 := fun_mk (st := sis_between) l1 c1 k1
  have Dis_between : Df K mg "is_between" sis_between ["thing", "least", "most"] := ⟨⟨_, _, F1, PySem.W.mg_of X G a1, F1.binds (ps := ["thing", "least", "most"]) fun _ _ _ _ _ _ us hl => match us, hl with | [_, _, _], _ => rfl⟩⟩
  have F2 := fun_mk (st := sis_coordinate) l2 c2 k2
  have Dis_coordinate : Df K mg "is_coordinate" sis_coordinate ["thing"] := ⟨⟨_, _, F2, PySem.W.mg_of X G a2, F2.binds (ps := ["thing"]) fun _ _ _ _ _ _ us hl => match us, hl with | [_], _ => rfl⟩⟩
  have F3 := fun_mk (st := sis_row) l3 c3 k3
  have Dis_row : Df K mg "is_row" sis_row ["thing", "many"] := ⟨⟨_, _, F3, PySem.W.mg_of X G a3, F3.binds (ps := ["thing", "many"]) fun _ _ _ _ _ _ us hl => match us, hl with | [_, _], _ => rfl⟩⟩
  have F4 := fun_mk (st := sis_moment) l4 c4 k4
  have Dis_moment : Df K mg "is_moment" sis_moment ["thing"] := ⟨⟨_, _, F4, PySem.W.mg_of X G a4, F4.binds (ps := ["thing"]) fun _ _ _ _ _ _ us hl => match us, hl with | [_], _ => rfl⟩⟩
  have F5 := fun_mk (st := sis_touch) l5 c5 k5
  have Dis_touch : Df K mg "is_touch" sis_touch ["thing"] := ⟨⟨_, _, F5, PySem.W.mg_of X G a5, F5.binds (ps := ["thing"]) fun _ _ _ _ _ _ us hl => match us, hl with | [_], _ => rfl⟩⟩
  have F6 := fun_mk (st := srows_of) l6 c6 k6
  have Drows_of : Df K mg "rows_of" srows_of ["text"] := ⟨⟨_, _, F6, PySem.W.mg_of X G a6, F6.binds (ps := ["text"]) fun _ _ _ _ _ _ us hl => match us, hl with | [_], _ => rfl⟩⟩
  have F7 := fun_mk (st := srow_of) l7 c7 k7
  have Drow_of : Df K mg "row_of" srow_of ["fields"] := ⟨⟨_, _, F7, PySem.W.mg_of X G a7, F7.binds (ps := ["fields"]) fun _ _ _ _ _ _ us hl => match us, hl with | [_], _ => rfl⟩⟩
  have F8 := fun_mk (st := sfields_of) l8 c8 k8
  have Dfields_of : Df K mg "fields_of" sfields_of ["row"] := ⟨⟨_, _, F8, PySem.W.mg_of X G a8, F8.binds (ps := ["row"]) fun _ _ _ _ _ _ us hl => match us, hl with | [_], _ => rfl⟩⟩
  have F9 := fun_mk (st := stouch_of) l9 c9 k9
  have Dtouch_of : Df K mg "touch_of" stouch_of ["row"] := ⟨⟨_, _, F9, PySem.W.mg_of X G a9, F9.binds (ps := ["row"]) fun _ _ _ _ _ _ us hl => match us, hl with | [_], _ => rfl⟩⟩
  have F10 := fun_mk (st := s_is_number) l10 c10 k10
  have D_is_number : Df K mg "_is_number" s_is_number ["field"] := ⟨⟨_, _, F10, PySem.W.mg_of X G a10, F10.binds (ps := ["field"]) fun _ _ _ _ _ _ us hl => match us, hl with | [_], _ => rfl⟩⟩
  have F11 := fun_mk (st := sshow_touches) l11 c11 k11
  have Dshow_touches : Df K mg "show_touches" sshow_touches ["touches"] := ⟨⟨_, _, F11, PySem.W.mg_of X G a11, F11.binds (ps := ["touches"]) fun _ _ _ _ _ _ us hl => match us, hl with | [_], _ => rfl⟩⟩
  have F12 := fun_mk (st := sread_touches) l12 c12 k12
  have Dread_touches : Df K mg "read_touches" sread_touches ["text"] := ⟨⟨_, _, F12, PySem.W.mg_of X G a12, F12.binds (ps := ["text"]) fun _ _ _ _ _ _ us hl => match us, hl with | [_], _ => rfl⟩⟩
  have F13 := fun_mk (st := s_law_tape) l13 c13 k13
  have D_law_tape : Df K mg "_law_tape" s_law_tape ["_law_script"] := ⟨⟨_, _, F13, PySem.W.mg_of X G a13, F13.binds (ps := ["_law_script"]) fun _ _ _ _ _ _ us hl => match us, hl with | [_], _ => rfl⟩⟩
  have F14 := fun_mk (st := s_law_draw) l14 c14 k14
  have D_law_draw : Df K mg "_law_draw" s_law_draw ["_law_tape_here", "_law_many"] := ⟨⟨_, _, F14, PySem.W.mg_of X G a14, F14.binds (ps := ["_law_tape_here", "_law_many"]) fun _ _ _ _ _ _ us hl => match us, hl with | [_, _], _ => rfl⟩⟩
  have F15 := fun_mk (st := s_law_touches) l15 c15 k15
  have D_law_touches : Df K mg "_law_touches" s_law_touches ["_law_tape_here", "_law_many", "_law_wide"] := ⟨⟨_, _, F15, PySem.W.mg_of X G a15, F15.binds (ps := ["_law_tape_here", "_law_many", "_law_wide"]) fun _ _ _ _ _ _ us hl => match us, hl with | [_, _, _], _ => rfl⟩⟩
  have F16 := fun_mk (st := s_law_number) l16 c16 k16
  have D_law_number : Df K mg "_law_number" s_law_number ["_law_word", "_law_least", "_law_most"] := ⟨⟨_, _, F16, PySem.W.mg_of X G a16, F16.binds (ps := ["_law_word", "_law_least", "_law_most"]) fun _ _ _ _ _ _ us hl => match us, hl with | [_, _, _], _ => rfl⟩⟩
  have F17 := fun_mk (st := s_law_touch_in) l17 c17 k17
  have D_law_touch_in : Df K mg "_law_touch_in" s_law_touch_in ["_law_row"] := ⟨⟨_, _, F17, PySem.W.mg_of X G a17, F17.binds (ps := ["_law_row"]) fun _ _ _ _ _ _ us hl => match us, hl with | [_], _ => rfl⟩⟩
  have F18 := fun_mk (st := s_law_bent_text) l18 c18 k18
  have D_law_bent_text : Df K mg "_law_bent_text" s_law_bent_text ["_law_tape_here", "_law_text", "_law_some"] := ⟨⟨_, _, F18, PySem.W.mg_of X G a18, F18.binds (ps := ["_law_tape_here", "_law_text", "_law_some"]) fun _ _ _ _ _ _ us hl => match us, hl with | [_, _, _], _ => rfl⟩⟩
  have F19 := fun_mk (st := s_law_asked) l19 c19 k19
  have D_law_asked : Df K mg "_law_asked" s_law_asked ["_law_asked_here", "_law_text"] := ⟨⟨_, _, F19, PySem.W.mg_of X G a19, F19.binds (ps := ["_law_asked_here", "_law_text"]) fun _ _ _ _ _ _ us hl => match us, hl with | [_, _], _ => rfl⟩⟩
  have F20 := fun_mk (st := s_law_due) l20 c20 k20
  have D_law_due : Df K mg "_law_due" s_law_due ["_law_text"] := ⟨⟨_, _, F20, PySem.W.mg_of X G a20, F20.binds (ps := ["_law_text"]) fun _ _ _ _ _ _ us hl => match us, hl with | [_], _ => rfl⟩⟩
  have F21 := fun_mk (st := slaw) l21 c21 k21
  refine ⟨PySem.W.fnOf "law" "law" (defArgs slaw) (defBody slaw) (defScope slaw) .none kV21 dc21 pm21 an21 cd21 ct21, fun s v => .of_eq rfl, fun base _ _ => ?_⟩
  have Flaw := F21
  have between := ok_between (P := l.prog) (w := w) (base := base) Dis_between T
  have coord := ok_coord Dis_coordinate T between
  have moment := ok_moment Dis_moment T between
  have row := ok_row (P := l.prog) (w := w) (base := base) Dis_row T
  have touch := ok_touch Dis_touch T row between coord moment
  have mk := ok_init (P := l.prog) (w := w) (base := base) D__init__ T TNoText vVENoText
  have num := ok_number (P := l.prog) (w := w) (base := base) D_is_number T
  have rows := ok_rows Drows_of T mk
  have fields := ok_fields Dfields_of T num
  have touchof := ok_touch_of Dtouch_of T fields touch
  have read := ok_read Dread_touches T mk rows touchof
  obtain ⟨ar, mr, xr⟩ := read.at_
  have lnum := ok_lawnumber (P := l.prog) (w := w) (base := base) D_law_number T
  have tin := ok_touch_in D_law_touch_in T lnum
  have due := ok_due D_law_due T tin
  have asked := ok_asked D_law_asked T TNoText xr VKNoText
  have draw := ok_draw (P := l.prog) (w := w) (base := base) D_law_draw T
  exact ok_law Flaw T (ok_tape D_law_tape T) draw (ok_touches D_law_touches T draw) (ok_show Dshow_touches T (ok_row_of Drow_of T)) mr asked due (ok_bent D_law_bent_text T draw)
theorem walk {l : PySem.W.OpenLaw} {q : Program} {loose : List Str} {XP : (Str → Option Value) → Heap → Prop} {YP : World → Heap → Prop} {d : DefRec} {K : Params → PySem.W.Frag} (hn : l.most = some 63) (hdf : d.params.defaults = [])
    (hY : ∀ (w : World) (h : Heap), YP w h → (K w.params).In h)
    (F : ∀ (w : World) (mg : Str → Option Value) (fa : Addr) (h : Heap), (K w.params).In h → h.Ns mainGlobals mg → mg d.name = some (.ref fa) →
      ∃ fd : FuncData, (∀ (s : Shared) (u : Value), BindsTo s fd ⟨[u], []⟩ [("_law_script", u)]) ∧ ∀ base : Heap, (K w.params).In base → base.Ns mainGlobals mg → FnG l.prog w (K w.params) mg base 7 fa fd ["_law_script"] (spLaw (K w.params))) :
    PySem.W.WalkO q loose XP YP l.row.toRowW d [] (fun f vs => PySem.call f vs) :=
  walkG (n := 63) (k := 7) (x := "_law_script") (sp := fun w => spLaw (K w.params)) hn (by decide) hdf ⟨rfl, by decide, by decide⟩ hY F fun _ _ a ns hl _ hS => ⟨a, ns, rfl, hS, hl, fun _ => rfl⟩
end SG
open PySem PySem.W PyProof.Rows
set_option maxRecDepth 100000 in
set_option maxHeartbeats 0 in
theorem PySem.Challenge.cw_strokeguess_k10_touches_as_texts_holds : PySem.Challenge.rw_strokeguess_k10_touches_as_texts.Holds := by
  w_on; o_law; k_head; (case hw => w_witness2)
  k_fill
  refine SG.walk (l := PySem.Challenge.rw_strokeguess_k10_touches_as_texts) rfl rfl (fun w h Y => PySem.W.kIn_of Y) ?F
  case F =>
    intro w mg fa h KX G hmg
    refine' SG.all_mk KX G hmg ?a1 ?l1 ?c1 ?k1 ?a2 ?l2 ?c2 ?k2 ?a3 ?l3 ?c3 ?k3 ?a4 ?l4 ?c4 ?k4 ?a5 ?l5 ?c5 ?k5 ?a6 ?l6 ?c6 ?k6 ?a7 ?l7 ?c7 ?k7 ?a8 ?l8 ?c8 ?k8 ?a9 ?l9 ?c9 ?k9 ?a10 ?l10 ?c10 ?k10 ?a11 ?l11 ?c11 ?k11 ?a12 ?l12 ?c12 ?k12 ?a13 ?l13 ?c13 ?k13 ?a14 ?l14 ?c14 ?k14 ?a15 ?l15 ?c15 ?k15 ?a16 ?l16 ?c16 ?k16 ?a17 ?l17 ?c17 ?k17 ?a18 ?l18 ?c18 ?k18 ?a19 ?l19 ?c19 ?k19 ?a20 ?l20 ?c20 ?k20 ?a21 ?l21 ?c21 ?k21 ?aCNoText ?xLNoText ?saNoText ?gaNoText ?ggNoText ?kCNoText ?eCNoText ?tCNoText ?hCNoText ?iCNoText ?sCNoText ?gcNoText ?hnNoText ?htNoText ?hmNoText ?svNoText ?vVENoText ?nrowNoText ?a22 ?i22 ?l22 ?c22 ?k22 ?zValueError ?zall ?zbool ?zenumerate ?zint ?zisinstance ?zlen ?zrange ?zstr ?ztuple ?yFARTHEST ?yLAST_MOMENT ?yLAST_FINGER ?yFIGURES ?yMOST_FIGURES ?yTOUCH_WORDS ?xTOUCH_WORDS
    (case a1 => k_is)
    (case l1 => k_is)
    (case c1 => k_is)
    (case k1 => k_is)
    (case a2 => k_is)
    (case l2 => k_is)
    (case c2 => k_is)
    (case k2 => k_is)
    (case a3 => k_is)
    (case l3 => k_is)
    (case c3 => k_is)
    (case k3 => k_is)
    (case a4 => k_is)
    (case l4 => k_is)
    (case c4 => k_is)
    (case k4 => k_is)
    (case a5 => k_is)
    (case l5 => k_is)
    (case c5 => k_is)
    (case k5 => k_is)
    (case a6 => k_is)
    (case l6 => k_is)
    (case c6 => k_is)
    (case k6 => k_is)
    (case a7 => k_is)
    (case l7 => k_is)
    (case c7 => k_is)
    (case k7 => k_is)
    (case a8 => k_is)
    (case l8 => k_is)
    (case c8 => k_is)
    (case k8 => k_is)
    (case a9 => k_is)
    (case l9 => k_is)
    (case c9 => k_is)
    (case k9 => k_is)
    (case a10 => k_is)
    (case l10 => k_is)
    (case c10 => k_is)
    (case k10 => k_is)
    (case a11 => k_is)
    (case l11 => k_is)
    (case c11 => k_is)
    (case k11 => k_is)
    (case a12 => k_is)
    (case l12 => k_is)
    (case c12 => k_is)
    (case k12 => k_is)
    (case a13 => k_is)
    (case l13 => k_is)
    (case c13 => k_is)
    (case k13 => k_is)
    (case a14 => k_is)
    (case l14 => k_is)
    (case c14 => k_is)
    (case k14 => k_is)
    (case a15 => k_is)
    (case l15 => k_is)
    (case c15 => k_is)
    (case k15 => k_is)
    (case a16 => k_is)
    (case l16 => k_is)
    (case c16 => k_is)
    (case k16 => k_is)
    (case a17 => k_is)
    (case l17 => k_is)
    (case c17 => k_is)
    (case k17 => k_is)
    (case a18 => k_is)
    (case l18 => k_is)
    (case c18 => k_is)
    (case k18 => k_is)
    (case a19 => k_is)
    (case l19 => k_is)
    (case c19 => k_is)
    (case k19 => k_is)
    (case a20 => k_is)
    (case l20 => k_is)
    (case c20 => k_is)
    (case k20 => k_is)
    (case a21 => k_is)
    (case l21 => k_is)
    (case c21 => k_is)
    (case k21 => k_is)
    (case aCNoText => k_is)
    (case xLNoText => k_is)
    (case saNoText => k_is)
    (case gaNoText => k_is)
    (case ggNoText => k_is)
    (case kCNoText => k_is)
    (case eCNoText => k_is)
    (case tCNoText => k_is)
    (case hCNoText => k_is)
    (case iCNoText => k_is)
    (case sCNoText => first | rfl | k_is)
    (case gcNoText => k_is)
    (case hnNoText => k_is)
    (case htNoText => k_is)
    (case hmNoText => k_is)
    (case svNoText => k_is)
    (case vVENoText => k_is)
    (case nrowNoText => k_is)
    (case a22 => k_is)
    (case i22 => k_is)
    (case l22 => k_is)
    (case c22 => k_is)
    (case k22 => k_is)
    (case zValueError => k_is)
    (case zall => k_is)
    (case zbool => k_is)
    (case zenumerate => k_is)
    (case zint => k_is)
    (case zisinstance => k_is)
    (case zlen => k_is)
    (case zrange => k_is)
    (case zstr => k_is)
    (case ztuple => k_is)
    (case yFARTHEST => k_is)
    (case yLAST_MOMENT => k_is)
    (case yLAST_FINGER => k_is)
    (case yFIGURES => k_is)
    (case yMOST_FIGURES => k_is)
    (case yTOUCH_WORDS => k_is)
    (case xTOUCH_WORDS => k_is)
