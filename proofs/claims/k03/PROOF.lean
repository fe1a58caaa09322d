import PyProof.Rows.All
import Wide.All
import OpenK.AllK
import Wide.FinOn
import HandS.ForMost
import HandS.Flow
import HandS.Conv
import HandS.More
import HandS.Codes
import KE.DataEq
import HandS.IsInst
import PyProof.Rows.SetFrom
import HandS.Strs
import HandS.Set
import PyProof.ReprRoads
import HandS.Ends
import HandS.Words
import KE.DataIsa
import KE.KDictPairs
import HandS.Dict
import HandS.TupAny
import KE.KRevSl
import HandS.Small
import HandS.Iter
import HandS.RaiseMore
import HandS.Rev
import HandS.RevTup
import HandS.Defaults
import HandS.DictComp
import HandS.Walk
import PySem.Challenge.RW_strokeguess_k03_ways_and_corners
set_option Elab.async false
set_option maxRecDepth 100000
set_option linter.all false
/-! Strokeguess: what all our proofs share: a def's contract as one fact (Cl), frames (Fr), new objects. -/
namespace SG
open PySem PySem.Spec PyProof.Rows L2

/-! ### a def of the module, by its contract -/
structure Cl (P : Program) (w : World) (K : PySem.W.Frag) (mg : Str → Option Value) (base : Heap) (k : Nat) (x : Str) (sp : Sp) : Prop where
  ex : ∃ (f : Addr) (fd : FuncData) (ps : List Str), FnOk P w K mg base CX0 k f fd ps sp ∧ mg x = some (.ref f) ∧ PySem.W.keepIn K (.ref f) = true ∧ Binds K fd ps []
/-- a def as the top has left it -/
structure Df (K : PySem.W.Frag) (mg : Str → Option Value) (x : Str) (st : Stmt) (ps : List Str) : Prop where
  ex : ∃ (f : Addr) (fd : FuncData), Fun K x x st f fd ∧ mg x = some (.ref f) ∧ Binds K fd ps []
section
variable {P : Program} {w : World} {K : PySem.W.Frag} {mg : Str → Option Value} {base : Heap}
theorem Cl.mono {j k : Nat} {x : Str} {sp : Sp} (c : Cl P w K mg base j x sp) (h : j ≤ k) : Cl P w K mg base k x sp := by
  obtain ⟨f, fd, ps, F, m, kp, b⟩ := c.ex
  exact ⟨f, fd, ps, F.mono h, m, kp, b⟩
theorem Cl.imp {k : Nat} {x : Str} {sp sp' : Sp} (c : Cl P w K mg base k x sp) (h : ∀ vs H Q E, sp' vs H Q E → sp vs H Q E) : Cl P w K mg base k x sp' := by
  obtain ⟨f, fd, ps, F, m, kp, b⟩ := c.ex
  exact ⟨f, fd, ps, F.imp h, m, kp, b⟩
theorem Df.ok {x : Str} {st : Stmt} {N ps : List Str} {k : Nat} {sp : Sp} (D : Df K mg x st ps) (S : FnScope N ps (defScope st)) (len : ∀ vs H Q E, sp vs H Q E → vs.length = ps.length)
    (hbody : ∀ (f : Addr) (cdv : Value) (A : Around) (outer : List Env) (s : Shared) (H : Hp) (vs : List V) (Q : VK) (E : XK), Room k (A.deeper (envOfC x (defScope st) s.heap.objs.size f cdv)) → sp vs H Q E →
      ∃ t, PSs (cxOf CX0 P w K mg base N x (defScope st) f cdv A outer s H E).nox (defBody st) t ∧ t { nx := fun _ H' => Q .non H', rt := Q } (start N vs) H) : Cl P w K mg base (k + 1) x sp := by
  obtain ⟨f, fd, F, m, b⟩ := D.ex
  exact ⟨f, fd, ps, F.ok S len (fun cdv A outer s H vs Q E hr h => hbody f cdv A outer s H vs Q E hr h), m, F.kp, b⟩
/-- no call left: nothing can be asked -/
theorem Df.none {x : Str} {st : Stmt} {ps : List Str} {sp : Sp} (D : Df K mg x st ps) (no : ∀ vs H Q E, ¬ sp vs H Q E) : Cl P w K mg base 0 x sp := by
  obtain ⟨f, fd, F, m, b⟩ := D.ex
  exact ⟨f, fd, ps, ⟨fun vs H Q E h => absurd h (no vs H Q E), fun A outer s H args us vs Q E _ _ _ _ h => absurd h (no vs H Q E)⟩, m, F.kp, b⟩
end
section
variable {X : Cx} {k : Nat} {x : Str} {sp : Sp} {e : Expr} {es : List Expr} {t : TA} {p pos : Pos}
theorem pe_cl (c : Cl X.prog X.w X.K X.mg X.base k x sp) (hr : Room k X.A) (hg : Gl X x) (ha : PA X (e :: es) t)
    (hdb : (x == ("__debug__" : Str)) = false := by decide) (he : starEach (e :: es) X.env = (false, eval e X.env) :: starEach es X.env := by rfl) (hpl : (backTo pos (starEach es X.env)).any (·.1) = false := by rfl) :
    PE X (.Call (.Name x p) (e :: es) [] pos) (tCall sp [] E0 t) := by
  obtain ⟨f, fd, ps, F, hm, kp, b⟩ := c.ex
  exact pe_call F hr hg hm kp b .nil pass0 ha hdb he hpl
end
/-! ### heaps -/
/-- all but the objects of S are as they were -/
def Fr (S : List Addr) (H H' : Hp) : Prop := ∀ b o, H b = some o → b ∉ S → H' b = some o
/-- tuples never change -/
def Tp (H H' : Hp) : Prop := ∀ b xs, H b = some (.tup xs) → H' b = some (.tup xs)
theorem Fr.refl (S : List Addr) (H : Hp) : Fr S H H := fun _ _ h _ => h
theorem Fr.trans {S : List Addr} {H H1 H2 : Hp} (a : Fr S H H1) (b : Fr S H1 H2) : Fr S H H2 := fun c o h n => b c o (a c o h n) n
theorem Fr.mono {S S' : List Addr} {H H1 : Hp} (a : Fr S H H1) (h : ∀ x ∈ S, x ∈ S') : Fr S' H H1 := fun c o e n => a c o e fun m => n (h c m)
theorem Fr.new {S : List Addr} {H : Hp} {p : Addr} {o : HO} (h : H p = none) : Fr S H (upd H p o) := fun b u e _ => by
  rw [upd_ne (ne_of_none e h)]
  exact e
theorem Fr.put {S : List Addr} {H : Hp} {p : Addr} {o : HO} (h : p ∈ S) : Fr S H (upd H p o) := fun b u e n => by
  rw [upd_ne (fun z => n (by rw [z]; exact h))]
  exact e
theorem Fr.same {H H' : Hp} (h : Same H H') (S : List Addr) : Fr S H H' := fun b o e _ => h b o e
theorem Fr.nil {H H' : Hp} (h : Fr [] H H') : Same H H' := fun b o e => h b o e (by simp)
theorem Tp.refl (H : Hp) : Tp H H := fun _ _ h => h
theorem Tp.trans {H H1 H2 : Hp} (a : Tp H H1) (b : Tp H1 H2) : Tp H H2 := fun c o h => b c o (a c o h)
theorem Tp.new {H : Hp} {p : Addr} {o : HO} (h : H p = none) : Tp H (upd H p o) := fun b u e => by
  rw [upd_ne (ne_of_none e h)]
  exact e
theorem Tp.same {H H' : Hp} (h : Same H H') : Tp H H' := fun b _ e => h b _ e
theorem same_new {H : Hp} {p : Addr} {o : HO} (h : H p = none) : Same H (upd H p o) := fun b u e => by
  rw [upd_ne (ne_of_none e h)]
  exact e
/-- a new object, told by what is known of it -/
theorem alloc {H : Hp} {o : HO} {Q : Addr → Hp → Prop} (k : ∀ p H', H p = none → H' p = some o → Same H H' → (∀ q, q ≠ p → H' q = H q) → Q p H') : ∀ p, H p = none → Q p (upd H p o) :=
  fun p hp => k p _ hp upd_same (same_new hp) fun _ h => upd_ne h
theorem Same.tup {K : PySem.W.Frag} {H H' : Hp} {a : Addr} {xs : List V} (e : Same H H') (h : SqT K H a xs) : SqT K H' a xs := by
  rcases h with (h | ⟨o, h⟩) | h
  · exact .inl (.inl (e _ _ h))
  · exact .inl (.inr ⟨o, e _ _ h⟩)
  · exact .inr h
end SG
namespace SG
open PySem PySem.Spec PyProof.Rows L2
section
variable {X : Cx}
/-- == and != of data without dicts, any texts -/
def rEqP (K : PySem.W.Frag) : R2 := fun x y H Q => ∃ d e, Dp K H x d ∧ Dp K H y e ∧ PyData.plain d = true ∧ PyData.plain e = true ∧ min d.depth e.depth ≤ 64 ∧ Q (.bl (PyData.eqv d e)) H
def rNeP (K : PySem.W.Frag) : R2 := fun x y H Q => ∃ d e, Dp K H x d ∧ Dp K H y e ∧ PyData.plain d = true ∧ PyData.plain e = true ∧ min d.depth e.depth ≤ 64 ∧ Q (.bl (!PyData.eqv d e)) H
theorem op_eqP (hu : X.A.units + 64 < cLine) : OpR X (compareOp .Eq) (rEqP X.K) := by
  intro pins s σ H x y v u Q I rx ry h
  obtain ⟨d, e, hd, he, sd, se, hm, q⟩ := h
  obtain ⟨as, r1⟩ := Dp.reads I d x v hd rx
  obtain ⟨bs, r2⟩ := Dp.reads I e y u he ry
  exact SeqAt.eq_plain r1 r2 sd se (by omega) ⟨.bl _, H, I, rfl, q⟩
theorem op_neP (hu : X.A.units + 64 < cLine) : OpR X (compareOp .NotEq) (rNeP X.K) := by
  intro pins s σ H x y v u Q I rx ry h
  obtain ⟨d, e, hd, he, sd, se, hm, q⟩ := h
  obtain ⟨as, r1⟩ := Dp.reads I d x v hd rx
  obtain ⟨bs, r2⟩ := Dp.reads I e y u he ry
  exact SeqAt.ne_plain r1 r2 sd se (by omega) ⟨.bl _, H, I, rfl, q⟩
end
/-! ### powers of any base -/
def CPowG (i j : Int) : Prop := 0 ≤ j ∧ (Builtin.Int.intBits i : Int) * j ≤ 2 ^ 27
theorem op_powG {X : Cx} : OpR X (binaryOp .Pow) (rI CPowG fun i j => .int (i ^ j.toNat)) := opI fun _ _ _ _ _ _ _ hc q => pow_int hc.1 hc.2 q
/-! ### data made of tuples alone: it never changes -/
mutual
inductive Im (H : Hp) : V → PyData → Prop
  | non : Im H .non .none
  | bl (b : Bool) : Im H (.bl b) (.bool b)
  | int (i : Int) : Im H (.int i) (.int i)
  | str (x : Str) : Im H (.str x) (.str x)
  | tup {a : Addr} {xs : List V} {ds : List PyData} : H a = some (.tup xs) → ImAll H xs ds → Im H (.ref a) (.tuple ds)
inductive ImAll (H : Hp) : List V → List PyData → Prop
  | nil : ImAll H [] []
  | cons {v : V} {vs : List V} {d : PyData} {ds : List PyData} : Im H v d → ImAll H vs ds → ImAll H (v :: vs) (d :: ds)
end
mutual
theorem Im.dp {K : PySem.W.Frag} {H : Hp} : ∀ {d : PyData} {v : V}, Im H v d → Dp K H v d
  | .none, _, h => by cases h; exact .non
  | .bool _, _, h => by cases h; exact .bl _
  | .int _, _, h => by cases h; exact .int _
  | .str _, _, h => by cases h; exact .str _
  | .tuple _, _, h => by
    cases h with
    | tup a b => exact .tup (SqT.of a) (ImAll.dp b)
  | .list _, _, h => by cases h
  | .dict _, _, h => by cases h
theorem ImAll.dp {K : PySem.W.Frag} {H : Hp} : ∀ {ds : List PyData} {vs : List V}, ImAll H vs ds → DpAll K H vs ds
  | [], _, h => by cases h; exact .nil
  | _ :: _, _, h => by
    cases h with
    | cons a b => exact .cons (Im.dp a) (ImAll.dp b)
end
mutual
theorem Im.tp {H H' : Hp} (t : Tp H H') : ∀ {d : PyData} {v : V}, Im H v d → Im H' v d
  | .none, _, h => by cases h; exact .non
  | .bool _, _, h => by cases h; exact .bl _
  | .int _, _, h => by cases h; exact .int _
  | .str _, _, h => by cases h; exact .str _
  | .tuple _, _, h => by
    cases h with
    | tup a b => exact .tup (t _ _ a) (ImAll.tp t b)
  | .list _, _, h => by cases h
  | .dict _, _, h => by cases h
theorem ImAll.tp {H H' : Hp} (t : Tp H H') : ∀ {ds : List PyData} {vs : List V}, ImAll H vs ds → ImAll H' vs ds
  | [], _, h => by cases h; exact .nil
  | _ :: _, _, h => by
    cases h with
    | cons a b => exact .cons (Im.tp t a) (ImAll.tp t b)
end
theorem Im.plain {H : Hp} : ∀ {d : PyData} {v : V}, Im H v d → d.plain = true := by
  intro d v h
  induction h using Im.rec (motive_2 := fun vs ds _ => PyData.plainAll ds = true) with
  | non => rfl
  | bl => rfl
  | int => rfl
  | str => rfl
  | tup _ _ ih => exact ih
  | nil => rfl
  | cons _ _ a b =>
    show (PyData.plain _ && PyData.plainAll _) = true
    rw [a, b]; rfl
end SG
namespace SG
open PySem PySem.Spec PyProof.Rows L2
theorem upd_is {H H' : Hp} {p : Addr} {o : HO} (e : upd H p o = H') : H' p = some o := by
  rw [← e]
  exact upd_same
theorem same_is {H H' : Hp} {p : Addr} {o : HO} (e : upd H p o = H') (h : H p = none) : Same H H' := by
  rw [← e]
  exact same_new h
end SG
namespace SG
open PySem PySem.Spec PyProof.Rows L2
section
variable {X : Cx}
/-- != of any list and an empty one -/
def rNeNil (K : PySem.W.Frag) : R2 := fun x y H Q => ∃ (a b : Addr) (xs : List V), x = .ref a ∧ y = .ref b ∧ SqL K H a xs ∧ SqL K H b [] ∧ Q (.bl (!xs.isEmpty)) H
theorem op_neNil (hu : X.A.units + 64 < cLine) : OpR X (compareOp .NotEq) (rNeNil X.K) := by
  intro pins s σ H x y v u Q I rx ry h
  obtain ⟨a, b, xs, rfl, rfl, ha, hb, q⟩ := h
  cases (show v = Value.ref a from rx)
  cases (show u = Value.ref b from ry)
  obtain ⟨us, r1, p1, _⟩ := I.list ha
  obtain ⟨ws, r2, p2, _⟩ := I.list hb
  have e2 : ws = [] := by cases r2; rfl
  subst e2
  have hu' : X.A.units < cLine := by omega
  cases xs with
  | nil =>
    have e1 : us = [] := by cases r1; rfl
    subst e1
    have z := SeqAt.RcNeAt.lists (A := X.A) (s := s) (e := fun _ => true) p1.isList p2.isList rfl hu' (fun j j1 _ => absurd j1 (Nat.not_lt_zero j))
    exact z X.prog X.w _ _ ⟨.bl false, H, I, rfl, q⟩
  | cons x r =>
    have hsz : ¬ us.toArray.size = ([] : List Value).toArray.size := by
      cases r1 with
      | cons => simp
    have z := SeqAt.RcNeAt.lists_lengths (A := X.A) (s := s) p1.isList p2.isList (by simpa using hsz) hu'
    exact z X.prog X.w _ _ ⟨.bl true, H, I, rfl, q⟩
end
end SG
namespace SG
open PySem PySem.Spec PyProof.Rows L2
/-! ### sets of texts: how many -/
/-- the first i of xs, each once -/
def seen (xs : List Str) (i : Nat) : List Str := (xs.take i).foldl step_dedup []
theorem seen_succ {xs : List Str} {i : Nat} {x : Str} (h : xs[i]? = some x) : seen xs (i + 1) = step_dedup (seen xs i) x := by
  obtain ⟨hi, e⟩ := List.getElem?_eq_some_iff.mp h
  unfold seen
  rw [List.take_succ_eq_append_getElem hi, List.foldl_append, e]
  rfl
theorem dedup_any (σ : List Str) (v k : Str) : (step_dedup σ v).any (· == k) = (σ.any (· == k) || decide (k = v)) := by
  unfold step_dedup
  by_cases hv : σ.any (· == v) = true
  · rw [if_pos hv]
    by_cases e : k = v
    · subst e; simp [hv]
    · simp [e]
  · rw [if_neg hv, List.any_append]
    by_cases e : k = v
    · subst e; simp
    · simp [e, Ne.symm e]
theorem dedup_len (σ : List Str) (v : Str) : (step_dedup σ v).length = if σ.any (· == v) = true then σ.length else σ.length + 1 := by
  unfold step_dedup
  split <;> simp
theorem seen_le (xs : List Str) (i : Nat) : (seen xs i).length ≤ i := Nat.le_trans (foldl_step_dedup_nil_length_le _) (by rw [List.length_take]; omega)
section
variable {prog : Program} {w : World} {A : Around}
/-- the walk of set.update over texts: after i of them the set is that of the first i -/
theorem strs_into {R : Result → Shared → Prop} {I : Addr} {fp wr : List Addr} {G : Array GenState → Array GenState → Prop} {n : Nat} {P : Nat → Value → Prop} {St : Nat → Shared → Prop}
    (W : WalksS prog w A.in1 I fp wr G n P St) (S : Addr) (out : S ∉ fp) (xs : List Str) (hn : xs.length = n) (few : n + 1 < scanBound) (val : ∀ (i : Nat) (v : Value), P i v → ∃ x t, xs[i]? = some x ∧ v = Value.str x t) :
    ∀ (left i : Nat) (s : Shared), i + left = n → St i s → s.heap.SetOf (PySem.strKind prog w) S (fun k => (seen xs i).any (· == k)) (seen xs i).length →
      (∀ s2, Moved (S :: wr) G s s2 → s2.heap.SetOf (PySem.strKind prog w) S (fun k => (seen xs n).any (· == k)) (seen xs n).length → R (.ok (.ret .none)) s2) →
      codeAny (model prog w) A (.builtin "set.update.loop" ⟨[.ref S, .ref I], []⟩) R s
  | 0, i, s, e, st, hS, fin => by
    obtain rfl : i = n := by omega
    refine codeAny_builtin PyProof.Rows.F.entry_set_update_loop ?_
    rw [Around.under_plainId PyProof.Rows.F.plain_set_update_loop _]
    refine wpAny_bind (W.done s _ _ st fun s2 mv => wpAny_pure (fin s2 (mv.mono fun b hb => List.mem_cons_of_mem _ hb) ?_))
    obtain ⟨o, es, ep, tb, ho, more⟩ := hS
    exact ⟨o, es, ep, tb, mv.heap S _ (fun z => out (W.sub _ z)) ho, more⟩
  | left + 1, i, s, e, st, hS, fin => by
    refine codeAny_builtin PyProof.Rows.F.entry_set_update_loop ?_
    rw [Around.under_plainId PyProof.Rows.F.plain_set_update_loop _]
    refine wpAny_bind (W.item i s _ _ (by omega) st fun v s2 hv st2 mv => ?_)
    obtain ⟨x, t, hx, rfl⟩ := val i v hv
    have hS2 : s2.heap.SetOf (PySem.strKind prog w) S (fun k => (seen xs i).any (· == k)) (seen xs i).length := by
      obtain ⟨o, es, ep, tb, ho, more⟩ := hS
      exact ⟨o, es, ep, tb, mv.heap S _ (fun z => out (W.sub _ z)) ho, more⟩
    refine wpAny_bind (wpAny_holding ?_)
    unfold setAdd
    refine wpAny_holding (wpAny_bind ((PySem.strKind prog w).pyHash (k := x) (strKind_is _ _ _ _) ?_))
    have room := seen_le xs i
    refine wpAny_setAddHashed_of (knd := PySem.strKind prog w) (s := { s2 with toks := s2.toks + 1 }) (strKind_is _ _ _ _) rfl hS2 (by omega) fun h3 but hS3 => ?_
    have hS4 : h3.SetOf (PySem.strKind prog w) S (fun k => (seen xs (i + 1)).any (· == k)) (seen xs (i + 1)).length :=
      PyProof.Rows.SetOf_congr hS3 (fun k => by rw [seen_succ hx, dedup_any]) (by rw [seen_succ hx, dedup_len])
    refine wpAny_pure ⟨plainId_quiet PyProof.Rows.F.plain_set_update_loop _, strs_into W S out xs hn few val left (i + 1) _ (by omega) (W.frame _ s2 _ _ st2 (Nat.le_succ _) fun b hb o q => ?_) hS4 fun s5 mv5 hS5 => fin s5 (Moved.trans W.gtrans ((mv.mono fun b hb => List.mem_cons_of_mem _ hb).then_heap (Nat.le_succ _) fun b o hb q => ?_) mv5) hS5⟩
    · rw [but.2 b (fun z : b = S => out (by rw [← z]; exact hb))]
      exact q
    · rw [but.2 b (fun z : b = S => hb (by rw [z]; exact List.mem_cons_self))]
      exact q
set_option maxHeartbeats 3200000 in
/-- set(xs), xs a list of texts -/
theorem set_of_strs {E : Value → Shared → Prop} {s : Shared} {l : Addr} {items : Array Value} {xs : List Str} {Q : Value → Shared → Prop} (calm : A.handled = none) (hl : s.heap.IsList l items) (hi : PyProof.Rows.StrsAre items.toList xs) (few : xs.length + 1 < scanBound)
    (k : ∀ (h2 : Heap) (tk : Nat), h2.SetOf (PySem.strKind prog w) s.heap.objs.size (fun j => (seen xs xs.length).any (· == j)) (seen xs xs.length).length →
      (∀ b o, b < s.heap.objs.size → s.heap.get? b = some o → h2.get? b = some o) → Q (.ref s.heap.objs.size) { s with heap := h2, toks := tk }) : wpAny (model prog w) A (call (.type "set") [.ref l]) Q E s := by
  have nx : xs.length = items.size := by rw [← StrsAre.len_eq hi, Array.length_toList]
  obtain ⟨_, _, hmro⟩ := PySem.F.called_set.mro
  have hmade := PySem.F.called_set.made; have hsub := PySem.F.called_set.sub
  refine wpAny_call (codeAny_of_tree (show wpAny _ _ (callAny (.type "set") _) _ _ _ from wpAny_pure ⟨Code.quiet_builtin _ (by decide +kernel), codeAny_builtin PySem.F.entry_type_call ?_⟩))
  rw [Around.under_plain (weight_type_call_type "set" [.ref l] []) rfl]
  have h1 := PySem.F.called_set.notType; have h2 := PySem.F.called_set.canCreate; have h3 := PySem.F.typeCall_set_1 (.ref l)
  repeat (any_goals (first | assumption | wp_step))
  refine codeAny_mono (code_set_new_1 (.ref l) (E := E) (Q₁ := fun ob s2 => ∃ led : Bool, ob = .ref s.heap.objs.size ∧ s2 = { s with heap := s.heap.push { cls := .type "set", dict := none, data := .set #[] 0 (.fresh 0 0 led) } }) fun led => ⟨led, rfl, rfl⟩) fun r s2 hr => ?_
  match r, hr with
  | .error e, hr => exact hr
  | .ok .next, hr => exact hr.elim
  | .ok .brk, hr => exact hr.elim
  | .ok .cont, hr => exact hr.elim
  | .ok (.ret ob), ⟨led, e1, e2⟩ =>
  subst e1; subst e2
  have hS : (s.heap.push { cls := .type "set", dict := none, data := .set #[] 0 (.fresh 0 0 led) }).get? s.heap.objs.size = some { cls := .type "set", dict := none, data := .set #[] 0 (.fresh 0 0 led) } := Heap.get?_push_size _ rfl
  have hT : Shared.TypeIs { s with heap := s.heap.push { cls := .type "set", dict := none, data := .set #[] 0 (.fresh 0 0 led) } } (.ref s.heap.objs.size) "set" := ⟨_, hS, rfl⟩
  have h4 := PySem.F.called_set.init.lookup; have h5 := PySem.F.called_set.init.bind (.ref s.heap.objs.size)
  repeat (any_goals (first | assumption | wp_step))
  refine codeAny_mono (codeAny_call_builtin (R := wants (fun r s3 => r = .none ∧ ∃ h2 tk, s3 = { s with heap := h2, toks := tk } ∧ h2.SetOf (PySem.strKind prog w) s.heap.objs.size (fun j => (seen xs xs.length).any (· == j)) (seen xs xs.length).length ∧
    (∀ b o, b < s.heap.objs.size → s.heap.get? b = some o → h2.get? b = some o)) E) PySem.F.called_set.init.plain PySem.F.entry_set_init (check_set_init_1 hT ?_)) fun r s3 hr => ?_
  · obtain ⟨⟨ocls, odict, odata, oslots⟩, hol, hcl, nl, hdl⟩ := hl
    simp only at hcl hdl
    subst hcl; subst hdl
    have hol2 : (s.heap.push { cls := .type "set", dict := none, data := .set #[] 0 (.fresh 0 0 led) }).get? l = some { cls := .type "list", dict := odict, data := .seq items nl, slots := oslots } := Heap.get?_push_of_some _ hol
    have a1 := PySem.F.sub_list_set; have a2 := PySem.F.sub_list_frozenset; have a3 : (Value.type "list" == Value.type "dict") = false := by decide
    have hl2 : (s.heap.push { cls := .type "set", dict := none, data := .set #[] 0 (.fresh 0 0 led) }).IsList l items := ⟨_, hol2, rfl, nl, rfl⟩
    unfold Builtin.«set.__init__» noKeywords Builtin.Frozenset.updateFrom
    generalize hPI : pyIter = PI
    wp_walk
    subst hPI
    refine wpAny_pyIter_list hl2 (wpAny_bind (wpAny_runValue ?_))
    have lS : l < s.heap.objs.size := Heap.lt_size hol
    have calm3 : A.in1.in1.in1.handled = none := by simp [calm]
    have ne1 : l ≠ (s.heap.push { cls := .type "set", dict := none, data := .set #[] 0 (.fresh 0 0 led) }).objs.size := by
      rw [Heap.size_push]; exact Nat.ne_of_lt (Nat.lt_succ_of_lt lS)
    have ne2 : s.heap.objs.size ∉ [(s.heap.push { cls := .type "set", dict := none, data := .set #[] 0 (.fresh 0 0 led) }).objs.size, l] := by
      rw [Heap.size_push]
      simp only [List.mem_cons, List.not_mem_nil, or_false, not_or]
      exact ⟨Nat.ne_of_lt (Nat.lt_succ_self _), Nat.ne_of_gt lS⟩
    refine strs_into ((Walks.list calm3 _ l ne1 items).toS) s.heap.objs.size ne2 xs nx (by omega) (fun i v hv => ?_) items.size 0 _ (by omega) ⟨⟨_, Heap.get?_push_size _ rfl, rfl, rfl⟩, (hl2.push _)⟩ ?first ?last
    · have hv' : items[i]? = some v := hv
      obtain ⟨t, e⟩ := SS.strs_at hi i v (by rw [Array.getElem?_toList]; exact hv')
      have il : i < xs.length := by rw [nx]; exact (Array.getElem?_eq_some_iff.mp hv').1
      exact ⟨xs[i], t, List.getElem?_eq_getElem il, by rw [e]; simp [List.getD, List.getElem?_eq_getElem il]⟩
    case first =>
      have g : ((s.heap.push { cls := .type "set", dict := none, data := .set #[] 0 (.fresh 0 0 led) }).push { cls := .type "list_iterator", data := .fields #[.ref l, .int 0 0] }).get? s.heap.objs.size = some { cls := .type "set", dict := none, data := .set #[] 0 (.fresh 0 0 led) } := Heap.get?_push_of_some _ hS
      exact PyProof.Rows.SetOf_congr ((PyProof.Rows.setObjOf_fresh (knd := PySem.strKind prog w) led).setOf g (by unfold scanBound; omega)) (fun _ => rfl) rfl
    case last =>
      intro s4 mv hS4
      obtain ⟨h6, g6, d6, tk6, os6⟩ := s4
      obtain rfl : g6 = s.gens := mv.gens
      obtain rfl : d6 = s.drawn := mv.drawn
      obtain rfl : os6 = s.os := mv.os
      refine wpAny_pure (show wpAny _ _ (ret Value.none) _ _ _ from wpAny_pure ⟨rfl, h6, tk6, rfl, by rw [nx]; exact hS4, fun b o hb q => ?_⟩)
      refine mv.heap b o ?_ (Heap.get?_push_of_some _ (Heap.get?_push_of_some _ q))
      rw [Heap.size_push]
      simp only [List.mem_cons, List.not_mem_nil, or_false, not_or]
      exact ⟨Nat.ne_of_lt hb, Nat.ne_of_lt (Nat.lt_succ_of_lt hb)⟩
  · match r, hr with
    | .error e, hr => exact hr
    | .ok .next, hr => exact hr.elim
    | .ok .brk, hr => exact hr.elim
    | .ok .cont, hr => exact hr.elim
    | .ok (.ret r), ⟨e1, h6, tk6, e2, hS6, hk6⟩ =>
    subst e1; subst e2
    repeat (any_goals (first | assumption | wp_step))
    exact k _ _ hS6 hk6
end
section
variable {X : Cx}
/-- len(set(xs)), xs a list of texts -/
def tLenSetT (K : PySem.W.Frag) (ta : TE) : TE := fun σ H Q => ta σ H fun x H1 => ∃ (l : Addr) (xs : List Str), x = .ref l ∧ SqL K H1 l (xs.map V.str) ∧ xs.length ≤ 4000 ∧ Q (.int ((seen xs xs.length).length : Nat)) H1
theorem pe_lenSetT {a : Expr} {ta : TE} {p p2 q pos : Pos} (calm : X.calm = true) (g1 : Gl X "len") (m1 : X.mg "len" = none) (g2 : Gl X "set") (m2 : X.mg "set" = none) (ha : PE X a ta)
    (na : starEach [a] X.env = (false, eval a X.env) :: starEach [] X.env := by rfl) : PE X (.Call (.Name "len" p) [.Call (.Name "set" p2) [a] [] q] [] pos) (tLenSetT X.K ta) := by
  refine ⟨fun pins s σ H Q I h => Call_ (ld_blt I g1 m1 boot_len (PyProof.Rows.callWith_builtin1 (PyProof.Rows.args_cons ?_ rfl) rfl rfl))⟩
  refine Call_ (ld_blt I g2 m2 boot_set (PyProof.Rows.callWith_type1 (PyProof.Rows.args_cons (thn (ha.run pins s σ H _ I h) fun v s1 ⟨x, H1, I1, r1, l, xs, ex, hq, few, q1⟩ => PyProof.Rows.args_nil ?_) na) na rfl))
  subst ex
  cases r1
  obtain ⟨its, r, pl, _⟩ := I1.list hq
  have lx : its.length = xs.length := by rw [← r.length, List.length_map]
  refine set_of_strs (I1.ok.hd calm) pl.isList (by simpa using strsAre_of r) (by unfold scanBound; omega) fun h2 tk hS hk => PyProof.Rows.args_nil ?_
  obtain ⟨o, es, ep, t, ho, hex, hd, _, _, _, hf, hn⟩ := hS
  have I2 : Inv X pins σ H1 { s1 with heap := h2, toks := tk } := I1.kept fun b o e => hk b o (Heap.lt_size e) e
  have bd := seen_le xs xs.length
  exact call_len_set ho hex hd hf (by rw [hn]; omega) ⟨.int _, H1, I2.tok _, ⟨_, by rw [hn]⟩, q1⟩
end
end SG
/-! functions that are called while nothing is being shown: repr of data can be called in them -/
namespace SG
open PySem PySem.Spec PyProof.Rows L2
/-- FnOk, where no repr is under way -/
structure FnG (P : Program) (w : World) (K : PySem.W.Frag) (mg : Str → Option Value) (base : Heap) (k : Nat) (f : Addr) (fd : FuncData) (ps : List Str) (sp : Sp) : Prop where
  cnt : ∀ vs H Q E, sp vs H Q E → vs.length = ps.length
  go : ∀ (A : Around) (up : List Env) (s : Shared) (H : Hp) (ar : Args) (us : List Value) (vs : List V) (Q : VK) (E : XK),
    Room k A → A.guards = some [] → Env0 P w K mg base A up s H → BindsTo s fd ar (ps.zip us) → Vals vs us → sp vs H Q E →
    codeAny (model P w) A (.call (.ref f) ar) (CR CX0 up P w H s Q E) s
structure ClG (P : Program) (w : World) (K : PySem.W.Frag) (mg : Str → Option Value) (base : Heap) (k : Nat) (x : Str) (sp : Sp) : Prop where
  ex : ∃ (f : Addr) (fd : FuncData) (ps : List Str), FnG P w K mg base k f fd ps sp ∧ mg x = some (.ref f) ∧ PySem.W.keepIn K (.ref f) = true ∧ Binds K fd ps []
section
variable {P : Program} {w : World} {K : PySem.W.Frag} {mg : Str → Option Value} {base : Heap}
theorem ClG.mono {j k : Nat} {x : Str} {sp : Sp} (c : ClG P w K mg base j x sp) (h : j ≤ k) : ClG P w K mg base k x sp := by
  obtain ⟨f, fd, ps, F, m, kp, b⟩ := c.ex
  exact ⟨f, fd, ps, ⟨F.cnt, fun A up s H ar us vs Q E hr => F.go A up s H ar us vs Q E (hr.mono h)⟩, m, kp, b⟩
theorem fun_okG {x qual : Str} {st : Stmt} {f : Addr} {fd : FuncData} {N ps : List Str} {k : Nat} {sp : Sp} (F : Fun K x qual st f fd) (S : FnScope N ps (defScope st)) (len : ∀ vs H Q E, sp vs H Q E → vs.length = ps.length)
    (hb : ∀ (cdv : Value) (A : Around) (up : List Env) (s : Shared) (H : Hp) (vs : List V) (Q : VK) (E : XK), Room k (A.deeper (envOfC qual (defScope st) s.heap.objs.size f cdv)) → A.guards = some [] → sp vs H Q E →
      ∃ t, PSs (cxOf CX0 P w K mg base N qual (defScope st) f cdv A up s H E).nox (defBody st) t ∧ t { nx := fun _ H' => Q .non H', rt := Q } (start N vs) H) : FnG P w K mg base (k + 1) f fd ps sp := by
  obtain ⟨oc, od, kV, doc, pm, an, cdv, ct, osl, rfl, lk, hcd⟩ := F.ex
  constructor
  · exact len
  intro A up s H ar us vs Q E hr hg e0 bd rv hsp
  have inK : K.In s.heap := e0.mod.kin.keeps fun b o e => (e0.bs b o e).1
  have free : s.heap.NoLimit := e0.mod.nolimit.keeps fun b o e => (e0.bs b o e).1
  have kinds : ∀ y ∈ ps.zip us, (defScope st).names.lookup y.1 = some .local ∨
      ((defScope st).names.lookup y.1 = some .cell ∧ ((cellsFrom (s.heap.objs.size + 1) (defScope st).names []).lookup y.1).isSome = true) := by
    rintro ⟨n, v⟩ hy
    cases S.par n (List.of_mem_zip hy).1 with
    | inl q => exact Or.inl q
    | inr q => exact Or.inr ⟨q, PySem.W.cellsFrom_some _ _ _ (Or.inl q)⟩
  apply codeAny_call_function hr.depth (inK _ _ lk) rfl S.co S.gen rfl (PySem.W.codeRec_of inK hcd) (bd _ _ _ _ ?_)
  apply wpAny_newFunctionEnv_cells S.kind kinds
  intro env he s1 ic
  subst he
  refine ⟨free.keeps ic.toInCall.keep, codeAny_func ?_⟩
  obtain ⟨t, ht0, hq⟩ := hb cdv A up s H vs Q E (hr.deeper _) hg hsp
  have ht := ht0.nox
  have J0 := inv_start (CX := CX0) (E := E) S hr.hd e0 (len _ _ _ _ hsp) rv ic
  refine wpAny_mono (ht.run [] s1 (start N vs) H _ J0 hq) ?_ ?_
  · intro fl s' hs
    cases fl with
    | ret u =>
      obtain ⟨v, σ', H', J, rv', q⟩ := hs
      exact ⟨v, H', J.os, J.bare, J.base, J.hok, rv', q⟩
    | next =>
      obtain ⟨σ', H', J, q⟩ := hs
      exact ⟨V.non, H', J.os, J.bare, J.base, J.hok, rfl, q⟩
    | brk => obtain ⟨_, _, _, q⟩ := hs; exact q.elim
    | cont => obtain ⟨_, _, _, q⟩ := hs; exact q.elim
  · intro e s' hs
    exact hs
theorem Df.okG {x : Str} {st : Stmt} {N ps : List Str} {k : Nat} {sp : Sp} (D : Df K mg x st ps) (S : FnScope N ps (defScope st)) (len : ∀ vs H Q E, sp vs H Q E → vs.length = ps.length)
    (hb : ∀ (f : Addr) (cdv : Value) (A : Around) (up : List Env) (s : Shared) (H : Hp) (vs : List V) (Q : VK) (E : XK), Room k (A.deeper (envOfC x (defScope st) s.heap.objs.size f cdv)) → A.guards = some [] → sp vs H Q E →
      ∃ t, PSs (cxOf CX0 P w K mg base N x (defScope st) f cdv A up s H E).nox (defBody st) t ∧ t { nx := fun _ H' => Q .non H', rt := Q } (start N vs) H) : ClG P w K mg base (k + 1) x sp := by
  obtain ⟨f, fd, F, m, b⟩ := D.ex
  exact ⟨f, fd, ps, fun_okG F S len (fun cdv A up s H vs Q E hr hg h => hb f cdv A up s H vs Q E hr hg h), m, F.kp, b⟩
end
theorem guards_in {A : Around} {q : Str} {sc : Scope} {n : Addr} {f : Addr} {c : Value} (h : A.guards = some []) : (A.deeper (envOfC q sc n f c)).guards = some [] := by
  simpa [Around.deeper] using h
section
variable {X : Cx} {k : Nat} {x : Str} {sp : Sp} {e : Expr} {es : List Expr} {t : TA} {p pos : Pos}
theorem pe_clG (c : ClG X.prog X.w X.K X.mg X.base k x sp) (hr : Room k X.A) (hg : X.A.guards = some []) (gl : Gl X x) (ha : PA X (e :: es) t)
    (hdb : (x == ("__debug__" : Str)) = false := by decide) (he : starEach (e :: es) X.env = (false, eval e X.env) :: starEach es X.env := by rfl) (hpl : (backTo pos (starEach es X.env)).any (·.1) = false := by rfl) :
    PE X (.Call (.Name x p) (e :: es) [] pos) (tCall sp [] E0 t) := by
  obtain ⟨f, fd, ps, F, hm, kp, b⟩ := c.ex
  constructor
  intro pins s σ H Q I h
  apply wpAny_Call_Name_kw (ld_glob I gl hm ?_ hdb)
  apply PySem.W.callWith_K (h₀ := X.base) I.ok.mod.kin kp (thn (ha.run pos pins s σ H _ I h) ?_) he hpl
  rintro us s1 ⟨vs, H1, J, rv, q⟩
  refine ⟨J.kIn, ?_⟩
  have q' : sp (vs ++ []) H1 Q E0 := q
  rw [List.append_nil] at q'
  have cnt : us.length = ps.length := by rw [← rv.length]; exact F.cnt _ _ _ _ q'
  have bd := b s1 us J.kIn (by rw [List.append_nil]; exact cnt)
  rw [List.append_nil] at bd
  refine wpAny_call (codeAny_mono (F.go X.A X.stack s1 H1 ⟨us, []⟩ us vs Q E0 hr hg J.env0 bd rv q') ?_)
  rintro (er | fl) s' hq
  · exact False.elim hq
  · cases fl with
    | ret u => exact J.after hq
    | next => exact hq.elim
    | brk => exact hq.elim
    | cont => exact hq.elim
end
/-- the law's own call, nothing being shown around it -/
theorem law_callG {P : Program} {w : World} {K : PySem.W.Frag} {mg mb : Str → Option Value} {k : Nat} {fa a : Addr} {fd : FuncData} {x : Str} {sp : Sp} {s : Shared} {vs : List Value} {ns : List Int}
    (KX : K.In s.heap) (hns : s.heap.Ns mainGlobals mg) (hb : s.heap.Ns builtinsNs mb) (hbb : ∀ x : Str, x ≠ "__name__" → mb x = bootBuiltins x) (hlim : s.heap.NoLimit) (hg : s.gens = #[])
    (ha : s.heap.get? a = some { cls := .type "list", data := .seq vs.toArray }) (hi : IntsAre vs ns) (hl : ns.length ≤ sizeLine) (hr : Room k callerA)
    (F : ∀ base : Heap, K.In base → base.Ns mainGlobals mg → FnG P w K mg base k fa fd [x] sp) (bd : ∀ (s : Shared) (u : Value), BindsTo s fd ⟨[u], []⟩ [(x, u)])
    (ask : ∀ H : Hp, Only H → SqL K H a (ns.map V.int) → sp [.ref a] H (fun v _ => v = .bl true) fun _ _ _ => False) :
    codeAny (model P w) callerA (.call (.ref fa) ⟨[.ref a], []⟩) (fun r s' => r = .ok (.ret (.bool true)) ∧ OldK s.heap s'.heap ∧ s'.os = s.os ∧ AllBare s'.gens) s := by
  have vals := vals_ints hi
  have many := hi.length
  have main : ∀ H : Hp, Only H → SqL K H a (ns.map V.int) → HOk P w H s.heap → (∀ b, H b ≠ none → b = a) → (H a ≠ none → K.lookup a = none) →
      codeAny (model P w) callerA (.call (.ref fa) ⟨[.ref a], []⟩) (fun r s' => r = .ok (.ret (.bool true)) ∧ OldK s.heap s'.heap ∧ s'.os = s.os ∧ AllBare s'.gens) s := by
    intro H only sq hok at_a hK
    have rest : ∀ {b : Addr} {o : Obj}, s.heap.get? b = some o → H b = none → (hidT s.heap H).get? b = some o := fun e n => hidT_get e n
    have dicts : ∀ {b : Addr} {o : Obj} {es : Array DictEntry} {ep : Nat}, s.heap.get? b = some o → o.data = .dict es ep → H b = none := by
      intro b o es ep e d
      rcases q : H b with _ | u
      · rfl
      · have e' : b = a := at_a b (by rw [q]; exact Option.some_ne_none _)
        rw [e', ha] at e
        cases e
        have d' : Data.seq vs.toArray _ = Data.dict es ep := d
        cases d'
    have spaces : ∀ {b : Addr} {m : Str → Option Value}, s.heap.Ns b m → (hidT s.heap H).Ns b m := by
      rintro b m ⟨o, es, ep, e, d, r⟩
      exact ⟨o, es, ep, rest e (dicts e d), d, r⟩
    have inB : K.In (hidT s.heap H) := by
      intro b o e
      refine rest (KX b o e) ?_
      rcases q : H b with _ | u
      · rfl
      · have nn : H b ≠ none := by rw [q]; exact Option.some_ne_none _
        have e' : b = a := at_a b nn
        rw [e'] at nn e
        rw [hK nn] at e
        cases e
    have md : Mod K mg (hidT s.heap H) := by
      obtain ⟨mc, h1, h2⟩ := hlim
      exact ⟨inB, spaces hns, ⟨mb, spaces hb, hbb⟩, mc, spaces h1, h2⟩
    have e0 : Env0 P w K mg (hidT s.heap H) callerA [] s H := by
      refine ⟨rfl, md, fun b o e => of_hidT e, Nat.le_of_eq (hidT_size _ _), trivial, ?_, hok, .of_eq hg⟩
      intro b hb
      have z : b ∈ ([] : List Addr) := hb
      cases z
    refine codeAny_mono ((F _ inB (spaces hns)).go callerA [] s H ⟨[.ref a], []⟩ [.ref a] [.ref a] _ _ hr rfl e0 (bd s (.ref a)) (.cons rfl .nil) (ask H only sq)) ?_
    rintro (e | fl) s' h
    · exact False.elim h
    · cases fl with
      | next => exact h.elim
      | brk => exact h.elim
      | cont => exact h.elim
      | ret u =>
        obtain ⟨v, H', os, bare, un, hok', r', q⟩ := h
        have q' : v = .bl true := q
        rw [q'] at r'
        obtain rfl : u = Value.bool true := r'
        refine ⟨rfl, OldK.of_keep ?_, os, bare⟩
        intro b o e
        rcases qb : H b with _ | u
        · refine un.keep b o e qb ?_ (by simp)
          intro z
          have z' : b ∈ ([] : List Addr) := z
          cases z'
        · rcases only b with z | ⟨ob, xs, z⟩
          · rw [qb] at z; cases z
          · obtain ⟨e1, _⟩ := hok b _ z
            obtain ⟨e2, _⟩ := hok' b _ (un.frzs b ob _ z)
            rw [e] at e1
            cases e1
            exact e2
  rcases hk : K.lookup a with _ | o
  · have yes : ∀ b, b = a → (fun b => if b = a then some (HO.frz { cls := .type "list", data := .seq vs.toArray } (.lst (ns.map V.int))) else none) b = some (HO.frz { cls := .type "list", data := .seq vs.toArray } (.lst (ns.map V.int))) := fun b e => if_pos e
    refine main (fun b => if b = a then some (.frz { cls := .type "list", data := .seq vs.toArray } (.lst (ns.map V.int))) else none) ?_ (.inl (.inr ⟨_, yes a rfl⟩)) ?_ ?_ fun _ => hk
    · intro b
      by_cases e : b = a
      · exact Or.inr ⟨_, _, yes b e⟩
      · exact Or.inl (if_neg e)
    · intro b u z
      by_cases e : b = a
      · rw [yes b e] at z
        cases z
        rw [e]
        exact ⟨ha, by rw [List.length_map]; exact hl, vs, _, vals, ha⟩
      · have z' := (if_neg e).symm.trans z
        cases z'
    · intro b z
      by_cases e : b = a
      · exact e
      · exact (z (if_neg e)).elim
  · have e := KX a o hk
    rw [ha] at e
    cases e
    refine main (fun _ => none) (fun _ => .inl rfl) (.inr ⟨_, vs.toArray, _, hk, rfl, rfl, rfl, by rw [List.size_toArray, many]; exact hl, by simpa using vals⟩) ?_ (fun b z => absurd rfl z) fun z => absurd rfl z
    intro b u z
    have z' : (none : Option HO) = some u := z
    cases z'
/-- the end, from the promise of the law's def -/
theorem walkG {l : PySem.W.OpenLaw} {n k : Nat} {q : Program} {loose : List Str} {XP : (Str → Option Value) → Heap → Prop} {YP : World → Heap → Prop} {d : DefRec} {K : Params → PySem.W.Frag} {sp : World → Sp} {x : Str}
    (hn : l.most = some n) (hn2 : n ≤ sizeLine) (hdf : d.params.defaults = []) (hr : Room k callerA) (hY : ∀ (w : World) (h : Heap), YP w h → (K w.params).In h)
    (F : ∀ (w : World) (mg : Str → Option Value) (fa : Addr) (h : Heap), (K w.params).In h → h.Ns mainGlobals mg → mg d.name = some (.ref fa) →
      ∃ fd : FuncData, (∀ (s : Shared) (u : Value), BindsTo s fd ⟨[u], []⟩ [(x, u)]) ∧ ∀ base : Heap, (K w.params).In base → base.Ns mainGlobals mg → FnG l.prog w (K w.params) mg base k fa fd [x] (sp w))
    (ask : ∀ (w : World) (H : Hp) (a : Addr) (ns : List Int), ns.length ≤ n → Only H → SqL (K w.params) H a (ns.map V.int) → sp w [.ref a] H (fun v _ => v = .bl true) fun _ _ _ => False) :
    PySem.W.WalkO q loose XP YP l.row.toRowW d [] (fun f vs => PySem.call f vs) := by
  apply Att.attach_call hn hdf
  intro w s₀ s₁ mg mb fa o pm cd doc a vs ns G Y ho hd hcd hmg hobj hints hlen hg
  obtain ⟨fd, hb, hF⟩ := F w mg fa _ (hY w _ Y) G.T.g hmg
  exact law_callG (hY w _ Y) G.T.g G.T.b G.T.builtins G.T.nolimit hg hobj hints (Nat.le_trans hlen hn2) hr hF hb fun H only sq => ask w H a ns hlen only sq
mutual
theorem Dp.noDict {K : PySem.W.Frag} {H : Hp} : ∀ {d : PyData} {v : V}, Dp K H v d → d.hasDict = false
  | _, _, .non => rfl
  | _, _, .bl _ => rfl
  | _, _, .int _ => rfl
  | _, _, .str _ => rfl
  | _, _, .lst _ a => DpAll.noDict a
  | _, _, .tup _ a => DpAll.noDict a
theorem DpAll.noDict {K : PySem.W.Frag} {H : Hp} : ∀ {ds : List PyData} {vs : List V}, DpAll K H vs ds → PyData.hasDictAll ds = false
  | _, _, .nil => rfl
  | _, _, .cons h t => by simp only [PyData.hasDictAll, Dp.noDict h, DpAll.noDict t, Bool.or_self]
end
section
variable {X : Cx}
def rRepr (K : PySem.W.Frag) : List V → Hp → VK → Prop := fun xs H Q => ∃ x d, xs = [x] ∧ Dp K H x d ∧ d.showable = true ∧ d.shown.length ≤ sizeLine ∧ d.depth ≤ 200 ∧ Q (.str d.shown) H
theorem call_reprD (hg : X.A.guards = some []) (hu : X.A.units + 220 < cLine) : CallR X (.builtin "repr") (rRepr X.K) := by
  intro pins s σ H xs us Q I r h
  obtain ⟨x, d, rfl, D, hs, hz, dd, q⟩ := h
  obtain ⟨u, rfl, rv⟩ := vals1 r
  have nd := Dp.noDict D
  cases D with
  | non => obtain rfl : u = Value.none := rv
           exact PySem.P.repr_of_none ⟨.str _, H, I.tok _, ⟨_, rfl⟩, q⟩
  | bl b => obtain rfl : u = Value.bool b := rv
            exact PySem.P.repr_of_bool ⟨.str _, H, I.tok _, ⟨_, rfl⟩, q⟩
  | int i => obtain ⟨t, rfl⟩ := rv
             exact PySem.P.repr_of_int (by simpa [PyData.showable] using hs) ⟨.str _, H, I.tok _, ⟨_, rfl⟩, q⟩
  | str z => obtain ⟨t, rfl⟩ := rv
             exact PySem.P.repr_of_str ⟨.str _, H, I.tok _, ⟨_, rfl⟩, q⟩ hz
  | lst sq al =>
    obtain ⟨as, rd⟩ := Dp.reads I _ _ _ (.lst sq al) rv
    obtain rfl := rv
    refine repr_of_reads' rd hs (fun z => by rw [nd] at z; cases z) hg (by omega) (fun _ _ e => e) ?_ hz
    intro h' u tk hk
    exact ⟨.str _, H, I.kept hk, ⟨_, rfl⟩, q⟩
  | tup sq al =>
    obtain ⟨as, rd⟩ := Dp.reads I _ _ _ (.tup sq al) rv
    obtain rfl := rv
    refine repr_of_reads' rd hs (fun z => by rw [nd] at z; cases z) hg (by omega) (fun _ _ e => e) ?_ hz
    intro h' u tk hk
    exact ⟨.str _, H, I.kept hk, ⟨_, rfl⟩, q⟩
end
end SG
/-! isinstance, in and not in, dict(a tuple of pairs), over data -/
namespace SG
open PySem PySem.Spec PyProof.Rows L2
section
variable {X : Cx}
/-- isinstance(x, T), x data -/
def rIsD (K : PySem.W.Frag) (T : String) (p : PyData → Bool) : List V → Hp → VK → Prop := fun xs H Q => ∃ x d, xs = [x, .ty T] ∧ Dp K H x d ∧ Q (.bl (p d)) H
theorem call_isInt : CallR X (.builtin "isinstance") (rIsD X.K "int" PyData.isInt) := by
  intro pins s σ H xs us Q I r h
  obtain ⟨x, d, rfl, D, q⟩ := h
  obtain ⟨u, c, rfl, rv, rc⟩ := vals2 r
  obtain rfl : c = Value.type "int" := rc
  obtain ⟨as, rd⟩ := Dp.reads I _ _ _ D rv
  exact PySem.W.isinstance_int_data rd fun tk _ => ⟨.bl _, H, I.tok tk, rfl, q⟩
theorem call_isBool : CallR X (.builtin "isinstance") (rIsD X.K "bool" PyData.isBool) := by
  intro pins s σ H xs us Q I r h
  obtain ⟨x, d, rfl, D, q⟩ := h
  obtain ⟨u, c, rfl, rv, rc⟩ := vals2 r
  obtain rfl : c = Value.type "bool" := rc
  obtain ⟨as, rd⟩ := Dp.reads I _ _ _ D rv
  exact PySem.W.isinstance_bool_data rd fun tk _ => ⟨.bl _, H, I.tok tk, rfl, q⟩
theorem call_isStr : CallR X (.builtin "isinstance") (rIsD X.K "str" PyData.isStr) := by
  intro pins s σ H xs us Q I r h
  obtain ⟨x, d, rfl, D, q⟩ := h
  obtain ⟨u, c, rfl, rv, rc⟩ := vals2 r
  obtain rfl : c = Value.type "str" := rc
  obtain ⟨as, rd⟩ := Dp.reads I _ _ _ D rv
  exact PySem.W.isinstance_str_data rd fun tk _ => ⟨.bl _, H, I.tok tk, rfl, q⟩
theorem call_isTup : CallR X (.builtin "isinstance") (rIsD X.K "tuple" PyData.isTuple) := by
  intro pins s σ H xs us Q I r h
  obtain ⟨x, d, rfl, D, q⟩ := h
  obtain ⟨u, c, rfl, rv, rc⟩ := vals2 r
  obtain rfl : c = Value.type "tuple" := rc
  obtain ⟨as, rd⟩ := Dp.reads I _ _ _ D rv
  exact PySem.W.isinstance_tuple_data rd fun tk _ => ⟨.bl _, H, I.tok tk, rfl, q⟩
/-- x in t, t a tuple of data -/
def rInT (K : PySem.W.Frag) (neg : Bool) : R2 := fun x y H Q => ∃ d es, Dp K H x d ∧ Dp K H y (.tuple es) ∧ d.plain = true ∧ PyData.plainAll es = true ∧ min (PyData.depthAll es) d.depth ≤ 64 ∧ Q (.bl (xor neg (es.any fun e => PyData.eqv e d))) H
theorem op_inT (hu : X.A.units + 70 < cLine) : OpR X (compareOp .In) (rInT X.K false) := by
  intro pins s σ H x y ux uy Q I rx ry h
  obtain ⟨d, es, D, T, pd, pe, de, q⟩ := h
  obtain ⟨as, r1⟩ := Dp.reads I _ _ _ D rx
  obtain ⟨bs, r2⟩ := Dp.reads I _ _ _ T ry
  rw [Bool.false_xor] at q
  exact PySem.SeqAt.in_tuple_data r2 r1 pe pd (by omega) ⟨.bl _, H, I, rfl, q⟩
theorem op_ninT (hu : X.A.units + 70 < cLine) : OpR X (compareOp .NotIn) (rInT X.K true) := by
  intro pins s σ H x y ux uy Q I rx ry h
  obtain ⟨d, es, D, T, pd, pe, de, q⟩ := h
  obtain ⟨as, r1⟩ := Dp.reads I _ _ _ D rx
  obtain ⟨bs, r2⟩ := Dp.reads I _ _ _ T ry
  rw [Bool.true_xor] at q
  exact PySem.SeqAt.notIn_tuple_data r2 r1 pe pd (by omega) ⟨.bl _, H, I, rfl, q⟩
end
end SG
/-! tuples of which it is known that they have no attributes of their own (dict(t) looks for them): the rules that make tuples, telling that -/
namespace SG
open PySem PySem.Spec PyProof.Rows L2 HT
theorem hin_of {A : Around} {k : Nat} (hr : Room k A) : A.units + 70 < cLine := by have := hr.un; omega
theorem hrep_of {A : Around} {k : Nat} (hr : Room (k + 2) A) : A.units + 220 < cLine := by have := hr.un; omega
def Tz (H : Hp) (a : Addr) (xs : List V) : Prop := ∃ o, H a = some (.frz o (.tup xs)) ∧ o.dict = none
theorem Tz.sq {K : PySem.W.Frag} {H : Hp} {a : Addr} {xs : List V} (h : Tz H a xs) : SqT K H a xs := by
  obtain ⟨o, e, _⟩ := h
  exact .inl (.inr ⟨o, e⟩)
/-- a new such tuple -/
def NewT (H : Hp) (xs : List V) (Q : VK) : Prop := ∀ (p : Addr) (o : Obj), H p = none → o.dict = none → Q (.ref p) (upd H p (.frz o (.tup xs)))
section
variable {X : Cx}
theorem put_tup {pins : List (Addr × Obj)} {σ : L2.St} {H : Hp} {s : Shared} {Q : VK} {xs : List V} {its : List Value} (I : L2.Inv X pins σ H s) (r : Vals xs its) (z : xs.length ≤ sizeLine) (q : NewT H xs Q) :
    EP X pins σ Q (.ref s.heap.objs.size) { s with heap := s.heap.push { cls := .type "tuple", data := .seq its.toArray } } := by
  have free : H s.heap.objs.size = none := I.hok.fresh (Nat.le_refl _)
  have kept : ∀ b u, s.heap.get? b = some u → (s.heap.push { cls := .type "tuple", data := .seq its.toArray }).get? b = some u := fun b u e => Heap.get?_push_of_some _ e
  have got : (s.heap.push { cls := .type "tuple", data := .seq its.toArray }).get? s.heap.objs.size = some { cls := .type "tuple", data := .seq its.toArray } := Heap.get?_push_size _ rfl
  refine ⟨.ref s.heap.objs.size, upd H s.heap.objs.size (.frz { cls := .type "tuple", data := .seq its.toArray } (.tup xs)), I.laid (t' := s.toks) kept (Nat.le_refl _) ?_, rfl, q _ _ free rfl⟩
  exact ⟨got, z, its, r, IsTup.new _ _⟩
/-- len(x), x a list or a tuple -/
def rLenSq (K : PySem.W.Frag) : List V → Hp → VK → Prop := fun xs H Q => ∃ p ys, xs = [.ref p] ∧ (SqL K H p ys ∨ SqT K H p ys) ∧ Q (.int ys.length) H
/-- (a, b, ..) -/
def tTupF (t : TA) : TE := fun σ H Q => t σ H fun xs H1 => xs.length ≤ sizeLine ∧ NewT H1 xs Q
theorem pe_tupF {es : List Expr} {t : TA} {pos : Pos} {x1} (h : PA X es t) : PE X (.Tuple es x1 pos) (tTupF t) := by
  constructor
  intro pins s σ H Q I hq
  apply wpAny_Tuple_spliced (thn (h.run pos pins s σ H _ I hq) ?_)
  rintro us s1 ⟨xs, H1, J, r, z, q⟩
  exact ⟨by rw [← r.length]; exact z, put_tup J r z q⟩
/-- tuple(x), x a list or a tuple -/
def kTupF (K : PySem.W.Frag) (x : V) (H : Hp) (Q : VK) : Prop :=
  (∃ p xs, x = .ref p ∧ SqL K H p xs ∧ NewT H xs Q) ∨ (∃ p xs, x = .ref p ∧ SqT K H p xs ∧ Q (.ref p) H)
theorem pe_tupleOfF {a : Expr} {ta : TE} {p pos : Pos} (hg : Gl X "tuple") (hm : X.mg "tuple" = none) (ha : PE X a ta) (na : starEach [a] X.env = (false, eval a X.env) :: starEach [] X.env := by rfl) :
    PE X (.Call (.Name "tuple" p) [a] [] pos) (tThen ta (kTupF X.K)) := by
  constructor
  intro pins s σ H Q I h
  refine Call_ (ld_blt I hg hm boot_tuple (PyProof.Rows.callWith_type1 (one_arg ha I h ?_ na) na))
  intro v s2 x H2 J r q
  rcases q with ⟨p, xs, rfl, hs, q⟩ | ⟨p, xs, rfl, hs, q⟩
  · obtain rfl : v = .ref p := r
    obtain ⟨its, rv, pl, hz⟩ := J.list hs
    refine call_tuple_list pl.isList ?_ (by rw [List.size_toArray, ← rv.length]; exact hz)
    intro h' hk
    exact put_tup (J.kept (t' := s2.toks) hk) rv hz q
  · obtain rfl : v = .ref p := r
    obtain ⟨its, rv, pl, hz⟩ := J.tuple hs
    exact call_tuple_tup pl ⟨.ref p, H2, J, rfl, q⟩
/-- t[lo:hi] -/
def rSlF (K : PySem.W.Frag) : V → Option Int → Option Int → Hp → VK → Prop := fun x lo hi H Q => ∃ a xs, x = .ref a ∧ SqT K H a xs ∧
  (HT.sIx xs.length 0 lo = 0 ∧ HT.sIx xs.length xs.length hi = xs.length → Q (.ref a) H) ∧ (¬ (HT.sIx xs.length 0 lo = 0 ∧ HT.sIx xs.length xs.length hi = xs.length) → NewT H (cutV xs lo hi) Q)
theorem sl_tupF : SlR X (rSlF X.K) := by
  intro pins s σ H x v vl vu lo hi sl Q I rx hs pl pu h
  obtain ⟨a, xs, rfl, hx, q1, q2⟩ := h
  obtain rfl : v = .ref a := rx
  obtain ⟨its, r, ht, hz⟩ := I.tuple hx
  have many : its.toArray.size = xs.length := by rw [List.size_toArray]; exact r.length.symm
  refine ⟨"tuple", _, PyProof.Rows.slot_tuple_getitem.lookup, ht.typeIs, ?_⟩
  by_cases hw : HT.sIx xs.length 0 lo = 0 ∧ HT.sIx xs.length xs.length hi = xs.length
  · exact getItem_tuple_whole ht hs pl pu (by rw [many]; exact hw) ⟨.ref a, H, I, rfl, q1 hw⟩
  · refine HT.getItem_tuple_cut ht hs pl pu (by rw [many]; exact hw) ?_ (by rw [many]; exact hz)
    rw [many]
    exact put_tup I ((r.drop (HT.sIx xs.length 0 lo)).take (HT.sIx xs.length xs.length hi - HT.sIx xs.length 0 lo)) (Nat.le_trans (cutV_length xs lo hi) hz) (q2 hw)
/-- t + u -/
def rCatF (K : PySem.W.Frag) : R2 := fun x y H Q => ∃ a b xs ys, x = .ref a ∧ y = .ref b ∧ SqT K H a xs ∧ SqT K H b ys ∧ xs.length + ys.length ≤ sizeLine ∧
  (xs = [] → Q (.ref b) H) ∧ (xs ≠ [] → ys = [] → Q (.ref a) H) ∧ (xs ≠ [] → ys ≠ [] → NewT H (xs ++ ys) Q)
theorem op_catF : OpR X (binaryOp .Add) (rCatF X.K) := by
  intro pins s σ H x y v u Q I rx ry h
  obtain ⟨a, b, xs, ys, rfl, rfl, ha, hb, hz, q0, q1, q2⟩ := h
  obtain rfl : v = .ref a := rx
  obtain rfl : u = .ref b := ry
  obtain ⟨its, r1, p1, _⟩ := I.tuple ha
  obtain ⟨its2, r2, p2, _⟩ := I.tuple hb
  by_cases hx : xs = []
  · subst hx
    cases r1
    exact cat_tup0 p1 p2 ⟨.ref b, H, I, rfl, q0 rfl⟩
  · refine HT.cat_tup p1 p2 (fun z => hx (r1.nil_iff.mp z)) (fun z => ⟨.ref a, H, I, rfl, q1 hx (r2.nil_iff.mp z)⟩) (fun z => ?_) (by rw [← r1.length, ← r2.length]; exact hz)
    exact put_tup I (r1.append r2) (by rw [List.length_append]; exact hz) (q2 hx fun w => z (r2.nil_iff.mpr w))
/-- t[::-1] -/
def tRevF (K : PySem.W.Frag) (te : TE) : TE := fun σ H Q => te σ H fun x H1 => ∃ a xs, x = .ref a ∧ SqT K H1 a xs ∧ NewT H1 xs.reverse Q
theorem places_back (n : Nat) : Builtin.Slice.slicePlaces ((n : Int) - 1) (-1) (-1) = n := by
  unfold Builtin.Slice.slicePlaces
  have h1 : ¬ ((-1 : Int) > 0) := by decide
  simp only [h1, if_false]
  split
  · have e : ((n : Int) - 1 - -1 - 1) / (- -1) = (n : Int) - 1 := by
      rw [show (- -1 : Int) = 1 by decide, Int.ediv_one]; omega
    rw [e]; omega
  · omega
theorem fm_congr {α β : Type} {f g : α → Option β} : ∀ {l : List α}, (∀ x ∈ l, f x = g x) → l.filterMap f = l.filterMap g
  | [], _ => rfl
  | x :: l, h => by
    rw [List.filterMap_cons, List.filterMap_cons, h x (by simp), fm_congr fun y hy => h y (by simp [hy])]
theorem pick_back (xs : Array Value) : ((List.range xs.size).filterMap fun (m : Nat) => xs[(((xs.size : Int) - 1) + (m : Int) * -1).toNat]?).toArray = xs.toList.reverse.toArray := by
  have e : ((List.range xs.size).filterMap fun (m : Nat) => xs[(((xs.size : Int) - 1) + (m : Int) * -1).toNat]?) = ((List.range xs.size).map fun k => xs.size - 1 - k).filterMap (xs[·]?) := by
    rw [List.filterMap_map]
    apply fm_congr
    intro m hm
    have := List.mem_range.mp hm
    show xs[_]? = xs[xs.size - 1 - m]?
    congr 1
    omega
  rw [e, PySem.W.krv_range, List.filterMap_reverse, PySem.W.krv_all]
theorem getItem_tuple_back {prog : Program} {w : World} {A : Around} {E : Value → Shared → Prop} {s : Shared} {t sl : Addr} {items : Array Value} {tk : Tok} {Q : Value → Shared → Prop} (ht : IsTup s.heap t items) (hs : s.heap.IsSliceOf sl .none .none (.int (-1) tk))
    (h : Q (.ref s.heap.objs.size) { s with heap := s.heap.push { cls := .type "tuple", data := .seq items.toList.reverse.toArray } })
    (hsz : items.size ≤ sizeLine) : wpAny (model prog w) A (getItem (.ref t) (.ref sl)) Q E s := by
  obtain ⟨os, hos, hcs, hds⟩ := id hs
  have hTs : s.TypeIs (.ref sl) "slice" := ⟨os, hos, hcs⟩
  unfold getItem
  try with_reducible refine wpAny_holding ?_
  first | refine wpAny_bind (wpAny_pure ?_) | skip
  apply wpAny_bind
  apply wpAny_sequenceKey ht.typeIs (by decide)
  apply wpAny_bind
  apply wpAny_callSpecial?_slot (name := Str.ofString "__getitem__") ht.typeIs PyProof.Rows.slot_tuple_getitem
  apply wpAny_call_entry PyProof.Rows.slot_tuple_getitem ht.typeIs entry_tuple_getitem ?_ (args_tuple_getitem _ _)
  show wpAny _ _ (Builtin.Tuple.tupleItemsOf (.ref t) >>= _) _ _ s
  apply wpAny_bind
  apply tupleItemsOf_ ht
  apply wpAny_bind
  apply wpAny_typeOf hTs
  rw [if_pos (by decide)]
  apply wpAny_bind
  unfold Builtin.Slice.sliceApplied Builtin.Slice.sliceFields
  refine wpAny_bind (wpAny_bind (wpAny_field hos hds (x := .none) rfl (wpAny_bind (wpAny_field hos hds (x := .none) rfl (wpAny_bind (wpAny_field hos hds (x := .int (-1) tk) rfl (wpAny_pure ?_)))))))
  refine wpAny_bind (slicePart_int ?_)
  show wpAny _ _ (if ((-1 : Int) == 0) = true then _ else _) _ _ s
  rw [if_neg (by decide)]
  refine wpAny_bind (slicePart_none (wpAny_bind (slicePart_none (wpAny_bind (wpAny_pure ?_)))))
  show wpAny _ _ (pure (((items.size : Int) - 1), (-1 : Int), Builtin.Slice.slicePlaces ((items.size : Int) - 1) (-1) (-1))) _ _ s
  rw [places_back]
  apply wpAny_pure
  have no : ¬ (((((items.size : Int) - 1) == 0 && (-1 : Int) == 1) && items.size == items.size) = true) := by simp
  show wpAny _ _ (if ((((items.size : Int) - 1) == 0 && (-1 : Int) == 1) && items.size == items.size) = true then _ else _) _ _ s
  rw [if_neg no, pick_back]
  have ok : sizeOk (.seq items.toList.reverse.toArray) := by
    show items.toList.reverse.toArray.size ≤ sizeLine
    rw [List.size_toArray, List.length_reverse, Array.length_toList]; exact hsz
  first
    | exact wpAny_bind (m := Builtin.Tuple.tupleExact _) (wpAny_newObj_type (wpAny_pure ⟨_, rfl, wpAny_pure h⟩) ok)
    | exact wpAny_bind (m := Builtin.Tuple.tupleExact _) (wpAny_newObj_type (wpAny_bind (wpAny_pure (wpAny_pure ⟨_, rfl, wpAny_pure h⟩))) ok)
theorem pe_revF {e : Expr} {te : TE} {j : Nat} {p0 p1 p2 pos : Pos} (he : PE X e te) : PE X (.Subscript e (.Slice none none (some (.UnaryOp .USub (.Constant (.int 1) j p0) p1)) p2) pos) (tRevF X.K te) := by
  have hs : PO X (some (.UnaryOp .USub (.Constant (.int 1) j p0) p1)) _ := po_some (pe_un un_neg pe_int)
  constructor
  intro pins s σ H Q I h
  refine Subscript_ (thn (he.run pins s σ H _ I h) ?_)
  rintro v s1 ⟨x, H1, I1, r1, a, xs, rfl, sq, q⟩
  obtain rfl : v = .ref a := r1
  refine wpAny_Slice ?_
  rw [evalPart_none]
  refine wpAny_pure ?_
  refine wpAny_pure ?_
  refine thn (hs.run pins s1 σ H1 (fun o H2 => o = some (-1) ∧ H2 = H1) I1 ?_) ?_
  · exact ⟨_, rfl, _, rfl, rfl, rfl⟩
  rintro vk s3 ⟨u, H3, I3, pu, rfl, rfl⟩
  obtain ⟨tk, rfl⟩ : ∃ tk, vk = .int (-1) tk := by
    cases pu with
    | int i t => exact ⟨t, rfl⟩
  have I4 : L2.Inv X pins σ H3 { s3 with heap := s3.heap.push { cls := .type "slice", data := .fields #[.none, .none, .int (-1) tk] } } := I3.kept (t' := s3.toks) fun b ob q => Heap.get?_push_of_some _ q
  obtain ⟨its, r, ht, hz⟩ := I4.tuple sq
  have many : its.toArray.size = xs.length := by rw [List.size_toArray]; exact r.length.symm
  have done := getItem_tuple_back (prog := X.prog) (w := X.w) (A := X.A) (E := X.xe) (Q := EP X pins σ Q) ht (Heap.IsSliceOf.new ..) (put_tup I4 (by simpa using r.reverse) (by rw [List.length_reverse]; exact hz) q) (by rw [many]; exact hz)
  exact tail_any (ops := [.ref a, .ref s3.heap.objs.size]) ht.typeIs PyProof.Rows.slot_tuple_getitem.lookup done (by with_unfolding_all rfl)
/-- a target x, y -/
theorem pg_two {K : PySem.W.Frag} {i j k : Nat} {x y : Str} {p1 p2 pos : Pos} (hK : X.K = K) (hc : X.calm = true) (hN : X.N.Nodup) (hi : X.N[i]? = some x) (hj : X.N[j]? = some y) (hx : Loc X.env.scope x) (hy : Loc X.env.scope y)
    (fx : X.fn x = true ∨ X.env.scope.names.lookup x = some .local := by first | exact .inl rfl | exact .inr rfl) (fy : X.fn y = true ∨ X.env.scope.names.lookup y = some .local := by first | exact .inl rfl | exact .inr rfl) :
    PG X (.Tuple [.Name x p1, .Name y p2] k pos) (gTup K 2 (gCons (gName i) (gCons (gName j) gNil))) := by
  subst hK
  exact pg_tup hc (pgs_cons (pg_name hN hi hx fx) (pgs_cons (pg_name hN hj hy fy) pgs_nil))
/-- the pairs as they lie -/
theorem pairs_raw {pins : List (Addr × Obj)} {σ : L2.St} {H : Hp} {s : Shared} (I : L2.Inv X pins σ H s) : ∀ {ps : List Addr} {kvs : List (Key × V)}, Paired (fun p kv => SqT X.K H p [kV kv.1, kv.2]) ps kvs →
    ∃ (raw : List (Value × Value)) (prs : List (Key × Value)), KV kvs prs ∧ raw.length = ps.length ∧ prs.length = ps.length ∧
      ∀ (j : Nat) (k v : Value), raw[j]? = some (k, v) → (∃ b, ps[j]? = some b ∧ IsTup s.heap b #[k, v]) ∧ ∃ key, prs[j]? = some (key, v) ∧ keyIs key k = true
  | _, _, .nil => ⟨[], [], .nil, rfl, rfl, fun j k v e => by simp at e⟩
  | _, _, .cons (a := p) (b := kv) h t => by
    obtain ⟨raw, prs, r, h1, h2, hp⟩ := pairs_raw I t
    obtain ⟨its, rv, ht, _⟩ := I.tuple h
    obtain ⟨u, y, ei, ru, ry⟩ := vals2 rv
    subst ei
    refine ⟨(u, y) :: raw, (kv.1, y) :: prs, .cons ⟨rfl, ry⟩ r, by simp [h1], by simp [h2], ?_⟩
    intro j k v e
    cases j with
    | zero =>
      cases e
      exact ⟨⟨p, rfl, ht⟩, kv.1, rfl, kV_is (P := X.prog) (w := X.w) ru⟩
    | succ j => simpa using hp j k v (by simpa using e)
/-- dict(t), t a tuple of pairs -/
theorem call_dictT (hcalm : X.calm = true) : CallR X (.type "dict") (fun xs H Q => ∃ (a : Addr) (ps : List Addr) (kvs : List (Key × V)), xs = [.ref a] ∧ Tz H a (ps.map V.ref) ∧ Paired (fun p kv => SqT X.K H p [kV kv.1, kv.2]) ps kvs ∧
    ∀ p, H p = none → Q (.ref p) (upd H p (.dK (mergeK [] kvs)))) := by
  intro pins s σ H xs us Q I r q
  obtain ⟨a, ps, kvs, rfl, hq, hp, q⟩ := q
  obtain ⟨u, rfl, rx⟩ := vals1 r
  obtain rfl : u = Value.ref a := rx
  obtain ⟨o, ea, hd⟩ := hq
  obtain ⟨ho0, hz, its, rv, o1, ho, hc, n, hdat⟩ := (show ObjOk X.prog X.w H s.heap a (.frz o (.tup (ps.map V.ref))) from I.hok a _ ea)
  rw [ho0] at ho
  cases ho
  obtain rfl := refs_at rv
  rw [List.length_map] at hz
  obtain ⟨raw, prs, rel, l1, l2, hpr⟩ := pairs_raw I hp
  have P := PairArg.tuple (prog := X.prog) (w := X.w) a (ps.map Value.ref).toArray (fun j => ps.getD j 0) raw
  refine PySem.call_dict_pairs (knd := mixKind X.prog X.w) (kvs := prs) P (I.ok.hd hcalm) ⟨⟨o, n, ho0, hc, hd, hdat⟩, by simp [l1], ?_⟩ ⟨by rw [l1, l2], ?_⟩ (by rw [l1]; exact hz) ?_
  · intro j k v e
    obtain ⟨⟨b, hb, ht⟩, _⟩ := hpr j k v e
    have eb : ps.getD j 0 = b := by simp [List.getD, hb]
    exact ⟨by simp [eb, hb], .inl (by show s.heap.IsTuple (ps.getD j 0) _; rw [eb]; exact ht)⟩
  · intro j k v e
    obtain ⟨_, key, e1, e2⟩ := hpr j k v e
    exact ⟨key, e1, e2⟩
  · intro h' tk hd' k
    have k' : ∀ b o, s.heap.get? b = some o → h'.get? b = some o := fun b o e => k b o (by simp) e
    have hm : (s.heap.objs.size == sysModules) = false := beq_eq_false_iff_ne.mpr (Nat.ne_of_gt I.big)
    have hlen : (mergeK [] kvs).length ≤ sizeLine := by
      have := length_mergeK kvs []
      rw [List.length_nil, Nat.zero_add, rel.length, l2] at this
      omega
    exact ⟨.ref s.heap.objs.size, upd H s.heap.objs.size (.dK (mergeK [] kvs)), I.laid (t' := tk) k' (Nat.le_refl _) (show ObjOk X.prog X.w _ _ _ (.dK (mergeK [] kvs)) from ⟨hlen, hm, merged [] prs, KV.merge rel .nil, hd'⟩), rfl, q _ (I.hok.fresh (Nat.le_refl _))⟩
end
end SG
namespace SG
open PySem PySem.Spec PyProof.Rows L2
/-! ### discard from a set of numbers -/
theorem erase_list {α : Type} (xs : Array α) (i : Nat) : (SetTable.eraseAt xs i).toList = xs.toList.take i ++ xs.toList.drop (i + 1) := by
  unfold SetTable.eraseAt
  rw [Array.toList_append, Array.toList_extract, Array.toList_extract]
  simp [List.extract_eq_drop_take]
  rw [List.take_of_length_le (by rw [List.length_drop, Array.length_toList]; omega)]
theorem split_at {α : Type} : ∀ {l : List α} {i : Nat} {x : α}, l[i]? = some x → l = l.take i ++ x :: l.drop (i + 1)
  | [], i, x, h => by simp at h
  | y :: r, 0, x, h => by
    simp at h
    subst h
    simp
  | y :: r, i + 1, x, h => by
    have h' : r[i]? = some x := by simpa using h
    show y :: r = y :: (r.take i ++ x :: r.drop (i + 1))
    rw [← split_at h']
theorem insert_size {α : Type} (xs : Array α) (i : Nat) (x : α) : (SetTable.insertAt xs i x).size = xs.size + 1 := by
  unfold SetTable.insertAt
  simp only [Array.size_append, Array.size_push, Array.size_extract]
  omega
theorem erase_size {α : Type} (xs : Array α) (i : Nat) (h : i < xs.size) : (SetTable.eraseAt xs i).size + 1 = xs.size := by
  unfold SetTable.eraseAt
  simp only [Array.size_append, Array.size_extract]
  omega
section
variable {P : Program} {w : World} {A : Around} {E : Value → Shared → Prop} {s : Shared} {a : Addr} {S : Int → Bool} {n : Nat}
/-- found.discard(k) -/
theorem setR_discard_hashed {k : Int} {tk : Tok} {Q : Bool → Shared → Prop} (R : SetR w s.heap a S n)
    (hQ : ∀ h' b, Heap.SameBut a s.heap h' → SetR w h' a (fun j => S j && !decide (j = k)) (if S k = true then n - 1 else n) → Q b { s with heap := h' }) :
    wpAny (model P w) A (setDiscardHashed a (.int k tk) ((intKind P w).hash k)) Q E s := by
  obtain ⟨o, es, ep, t, ho, hex, hd, g, nd, hm, hb, hf, hn, hr, hl⟩ := R
  have hkey : (intKind P w).is k (.int k tk) = true := intKind_is P w k tk
  have hsc : (Value.int k tk).scannable = true := rfl
  have hel : ElemsOf (intKind P w) es.toList := good_elems g
  unfold setDiscardHashed setFind setFindIn
  refine wpAny_bind (wpAny_bind (wpAny_setState_of ho hd hf ?_))
  dsimp only
  rw [byScan_of hsc hb hel]
  simp only [↓reduceIte]
  refine wpAny_bind (wpAny_rule ?_)
  refine wpAny_bind (wpAny_setScan_of hkey ho hd hf hel ?_)
  cases hfi : List.findIdx? (fun e => (intKind P w).is k e.2) es.toList with
  | none =>
    dsimp only
    have hnk : k ∉ es.toList.map keyOf := fun z => by
      obtain ⟨e, he, q⟩ := (good_mem (P := P) (w := w) g k).1 z
      have c := List.findIdx?_eq_none_iff.mp hfi e he
      rw [q] at c
      cases c
    have hSk : S k = false := by
      cases q : S k with
      | false => rfl
      | true => exact absurd ((hm k).1 q) hnk
    refine wpAny_pure (wpAny_pure ?_)
    have q := hQ s.heap false (Heap.SameBut.refl a s.heap) ⟨o, es, ep, t, ho, hex, hd, g, nd, fun i => by
      rw [Bool.and_eq_true, hm i]
      constructor
      · exact fun z => z.1
      · intro z
        refine ⟨z, ?_⟩
        have : ¬ i = k := fun e => hnk (e ▸ z)
        simp [this], hb, hf, by rw [hSk]; simpa using hn, hr, hl⟩
    exact q
  | some j =>
    dsimp only
    obtain ⟨hj, pj, _⟩ := List.findIdx?_eq_some_iff_getElem.mp hfi
    have hj' : j < es.size := by rw [← Array.length_toList]; exact hj
    have kj : keyOf es.toList[j] = k := (good_is (P := P) (w := w) (g _ (List.getElem_mem hj)) k).1 pj
    have hSk : S k = true := (hm k).2 ((good_mem (P := P) (w := w) g k).2 ⟨es.toList[j], List.getElem_mem hj, pj⟩)
    have hfs : t.place.size = es.size ∧ t.fill ≤ t.mask := by
      simpa [SetTable.fits, Bool.and_eq_true, beq_iff_eq, decide_eq_true_eq] using hf
    obtain ⟨pl, hpl⟩ : ∃ q, t.place[j]? = some q := ⟨_, Array.getElem?_eq_getElem (by omega)⟩
    have hdrop : t.drop j = { t with place := SetTable.eraseAt t.place j, dummies := SetTable.insertAt t.dummies (SetTable.below t.dummies pl) pl } := by
      unfold SetTable.drop
      rw [hpl]
    have sp := split_at (List.getElem?_eq_getElem hj)
    have el := erase_list es j
    have perm : es.toList.Perm (es.toList[j] :: (SetTable.eraseAt es j).toList) := by
      rw [el]
      conv => lhs; rw [sp]
      exact List.perm_middle
    have pk : (es.toList.map keyOf).Perm (k :: (SetTable.eraseAt es j).toList.map keyOf) := by
      have := perm.map keyOf
      rw [List.map_cons, kj] at this
      exact this
    have nd2 := pk.nodup_iff.mp nd
    obtain ⟨nk, nd3⟩ := List.nodup_cons.mp nd2
    have sz := erase_size es j hj'
    have hf2 : (t.drop j).fits (SetTable.eraseAt es j).size = true := by
      rw [hdrop]
      have z1 := erase_size t.place j (by omega)
      have z2 := insert_size t.dummies (SetTable.below t.dummies pl) pl
      have z3 : t.place.size + t.dummies.size ≤ t.mask := hfs.2
      show ((SetTable.eraseAt t.place j).size == (SetTable.eraseAt es j).size && decide ((SetTable.eraseAt t.place j).size + (SetTable.insertAt t.dummies (SetTable.below t.dummies pl) pl).size ≤ t.mask)) = true
      have hp := hfs.1
      rw [Bool.and_eq_true, beq_iff_eq, decide_eq_true_eq]
      omega
    have hr2 : Ris (t.drop j).place.toList := by
      rw [hdrop]
      show Ris (SetTable.eraseAt t.place j).toList
      rw [erase_list]
      have sub : (t.place.toList.take j ++ t.place.toList.drop (j + 1)).Sublist t.place.toList := by
        have q : t.place.toList[j]? = some pl := by rw [Array.getElem?_toList]; exact hpl
        conv => rhs; rw [split_at q]
        exact List.Sublist.append (List.Sublist.refl _) (List.sublist_cons_self _ _)
      exact List.Pairwise.sublist sub hr
    have hl2 : w.params.followText "set-order" = true ∨ (t.drop j).led = true := by
      rw [hdrop]
      exact hl
    have hb2 : (SetTable.eraseAt es j).size < scanBound := by omega
    refine wpAny_pure ?_
    dsimp only
    refine wpAny_bind (wpAny_setState_of ho hd hf ?_)
    dsimp only
    rw [Nat.zero_add]
    refine wpAny_bind (wpAny_storeSet_of ho hd ?_ (fits_of_scanBound hb2))
    refine wpAny_bind (wpAny_point ?_)
    refine wpAny_pure (hQ _ true (Heap.SameBut.update s.heap a _) ?_)
    have ho1 := store_at (es' := SetTable.eraseAt es j) (t' := t.drop j) ho hd
    refine ⟨_, _, _, _, ho1, hex, rfl, fun e he => g e (perm.mem_iff.mpr (List.mem_cons_of_mem _ he)), nd3, fun i => ?_, hb2, hf2, ?_, hr2, hl2⟩
    · rw [Bool.and_eq_true, hm i, pk.mem_iff, List.mem_cons]
      constructor
      · rintro ⟨e | e, q⟩
        · simp [e] at q
        · exact e
      · intro z
        have : ¬ i = k := fun e => nk (e ▸ z)
        exact ⟨.inr z, by simp [this]⟩
    · rw [if_pos hSk]
      omega
theorem setR_discard {k : Int} {tk : Tok} {Q : Value → Shared → Prop} (R : SetR w s.heap a S n)
    (hQ : ∀ h', Heap.SameBut a s.heap h' → SetR w h' a (fun j => S j && !decide (j = k)) (if S k = true then n - 1 else n) → Q .none { s with heap := h', toks := s.toks + 1 }) :
    wpAny (model P w) A (call (.builtin "set.discard") [.ref a, .int k tk]) Q E s := by
  have hS : s.heap.SetOf (intKind P w) a S n := R.setOf
  refine wpAny_call_entry PySem.F.slot_set_discard hS.typeIs PySem.F.entry_set_discard ?_ (PySem.F.args_set_discard_2 _ _)
  unfold Builtin.«set.discard» Builtin.Frozenset.oneOther
  simp only [List.isEmpty_nil, bind_assoc]
  unfold Builtin.Frozenset.addrOf Builtin.Frozenset.withSetAsKey setDiscard
  refine wpAny_bind (wpAny_pure ?_)
  try dsimp only
  refine wpAny_bind (wpAny_pure ?_)
  try dsimp only
  refine wpAny_bind (wpAny_tryCatch ?_)
  refine wpAny_holding ?_
  refine wpAny_bind ((intKind P w).pyHash (intKind_is P w k tk) ?_)
  refine setR_discard_hashed (s := { s with toks := s.toks + 1 }) R fun h' b sb r => ?_
  show wpAny _ _ (ret Value.none) _ _ _
  exact wpAny_pure ⟨_, rfl, hQ h' sb r⟩
end
section
variable {X : Cx}
/-- found.discard(k) -/
def rSDis (w : World) : V → List V → Hp → VK → Prop := fun x xs H Q => ∃ (a : Addr) (k : Int) (S : Int → Bool) (n : Nat), x = V.ref a ∧ xs = [V.int k] ∧ H a = some (SetO w a S n) ∧
  Q .non (upd H a (SetO w a (fun j => S j && !decide (j = k)) (if S k = true then n - 1 else n)))
theorem mt_sdis : MtR X "set.discard" (rSDis X.w) := by
  intro pins s σ H x xs v us Q I rx rxs h
  obtain ⟨a, k, S, n, rfl, rfl, ha, q⟩ := h
  cases rx
  cases rxs with
  | cons ry rt =>
    cases rt
    obtain ⟨tk, rfl⟩ := ry
    have R := setO_get I ha
    refine setR_discard R fun h' sb new => ?_
    have he : ∃ u, h'.get? a = some u := by
      have ⟨o, _, _, _, ho, _⟩ := new
      exact ⟨o, ho⟩
    exact ⟨.non, upd H a (SetO X.w a (fun j => S j && !decide (j = k)) (if S k = true then n - 1 else n)), I.write (e := a) (t' := s.toks + 1) (by rw [ha]; trivial) (.inl rfl) (fun b u hb hu => (sb.2 b hb).trans hu) he (setO_new new), rfl, q⟩
def tSDis (w : World) (to : TE) (t : TA) : TE := fun σ H Q => to σ H fun x H1 => (∃ a S n, x = V.ref a ∧ H1 a = some (SetO w a S n)) ∧ t σ H1 fun xs H2 => rSDis w x xs H2 Q
variable {o e : Expr} {es : List Expr} {to : TE} {t : TA} {apos cpos : Pos}
theorem pe_sdis (ho : PE X o to) (ha : PA X (e :: es) t)
    (hbase : attributeBase o "discard" X.env (eval o X.env) = eval o X.env := by rfl)
    (hfew : ((backTo cpos (starEach (e :: es) X.env)).all (fun x => !x.1) && (backToKw cpos (keywordEach [] X.env)).all (fun x => x.1.isSome)
      && decide ((e :: es).length + ([] : List Keyword).length + (if ([] : List Keyword).isEmpty then 0 else 1) < 30)) = true := by rfl)
    (hline : (apos.endLine == cpos.line) = true := by rfl) (hs : starEach (e :: es) X.env = (false, eval e X.env) :: starEach es X.env := by rfl) (hplain : (backTo cpos (starEach es X.env)).any (·.1) = false := by rfl) :
    PE X (.Call (.Attribute o "discard" apos) (e :: es) [] cpos) (tSDis X.w to t) := by
  refine ⟨fun pins s σ H Q I h => ?_⟩
  refine wpAny_Call_method_late hbase hfew hline rfl (thn (ho.run pins s σ H _ I h) fun v s1 ⟨x, H1, I1, r1, ty, q1⟩ => ?_)
  obtain ⟨a, S, n, rfl, hka⟩ := ty
  have R := setO_get I1 hka
  cases r1
  have hS : s1.heap.SetOf (intKind X.prog X.w) a S n := R.setOf
  refine ⟨"set", "set.discard", PySem.F.plainAttrs_set, PySem.F.slot_set_discard, PySem.F.type_set_discard, hS.typeIs, hS.noDict, ?_⟩
  have hA := ha.run cpos pins s1 σ H1 _ I1 q1
  rw [hs] at hA ⊢
  refine Calls.callWith_builtin (by show (false || (backTo cpos (starEach es X.env)).any (·.1)) = false; rw [hplain] <;> rfl) (Calls.evalArgs_plain ?_)
  exact thn hA fun us s2 ⟨vs, H2, I2, r2, q2⟩ => mt_sdis pins s2 σ H2 (.ref a) vs (.ref a) us Q I2 rfl r2 q2
end
end SG
namespace SG
open PySem PySem.Spec PyProof.Rows L2
section
variable {X : Cx} {e : Expr} {te : TE}
/-- a bound of a slice that may be None -/
def tPartO (t : TE) : TO := fun σ H Q => t σ H fun x H1 => (x = .non ∧ Q none H1) ∨ ∃ i, x = .int i ∧ Q (some i) H1
theorem po_opt (h : PE X e te) : PO X (some e) (tPartO te) := by
  refine ⟨fun pins s σ H Q I hw => ?_⟩
  rw [evalPart_some]
  refine thn (h.run pins s σ H _ I hw) fun u s1 ⟨x, H1, I1, r1, q1⟩ => ?_
  rcases q1 with ⟨rfl, q⟩ | ⟨i, rfl, q⟩
  · obtain rfl : u = Value.none := r1
    exact ⟨none, H1, I1, .none, q⟩
  · obtain ⟨t, rfl⟩ := r1
    exact ⟨some i, H1, I1, .int i t, q⟩
/-- str(x), x a number or a text -/
def rStrIS : List V → Hp → VK → Prop := fun xs H Q => (∃ i, xs = [.int i] ∧ i.natAbs.log2 < 1920 ∧ Q (.str (toString i)) H) ∨ ∃ a, xs = [.str a] ∧ Q (.str a) H
theorem call_strIS : CallR X (.type "str") rStrIS := by
  intro pins s σ H xs us Q I r h
  rcases h with h | h
  · exact call_str_int pins s σ H xs us Q I r h
  · exact SkE.call_str_str pins s σ H xs us Q I r h
end
end SG
namespace SG
open PySem PySem.Spec PyProof.Rows L2
/-! ### data in a heap that grows -/
theorem same_sqT {K : PySem.W.Frag} {H H' : Hp} {a : Addr} {xs : List V} (e : Same H H') (h : SqT K H a xs) : SqT K H' a xs := Same.tup e h
theorem same_sqL {K : PySem.W.Frag} {H H' : Hp} {a : Addr} {xs : List V} (e : Same H H') (h : SqL K H a xs) : SqL K H' a xs := by
  rcases h with (h | ⟨o, h⟩) | h
  · exact .inl (.inl (e _ _ h))
  · exact .inl (.inr ⟨o, e _ _ h⟩)
  · exact .inr h
mutual
theorem Dp.same {K : PySem.W.Frag} {H H' : Hp} (e : Same H H') : ∀ {d : PyData} {v : V}, Dp K H v d → Dp K H' v d
  | _, _, .non => .non
  | _, _, .bl b => .bl b
  | _, _, .int i => .int i
  | _, _, .str x => .str x
  | _, _, .lst a b => .lst (same_sqL e a) (DpAll.same e b)
  | _, _, .tup a b => .tup (same_sqT e a) (DpAll.same e b)
theorem DpAll.same {K : PySem.W.Frag} {H H' : Hp} (e : Same H H') : ∀ {ds : List PyData} {vs : List V}, DpAll K H vs ds → DpAll K H' vs ds
  | _, _, .nil => .nil
  | _, _, .cons h t => .cons (Dp.same e h) (DpAll.same e t)
end
mutual
theorem Dp.plain {K : PySem.W.Frag} {H : Hp} : ∀ {d : PyData} {v : V}, Dp K H v d → d.plain = true
  | _, _, .non => rfl
  | _, _, .bl _ => rfl
  | _, _, .int _ => rfl
  | _, _, .str _ => rfl
  | _, _, .lst _ a => DpAll.plain a
  | _, _, .tup _ a => DpAll.plain a
theorem DpAll.plain {K : PySem.W.Frag} {H : Hp} : ∀ {ds : List PyData} {vs : List V}, DpAll K H vs ds → PyData.plainAll ds = true
  | _, _, .nil => rfl
  | _, _, .cons h t => by
    show (PyData.plain _ && PyData.plainAll _) = true
    rw [Dp.plain h, DpAll.plain t]; rfl
end
theorem DpAll.len {K : PySem.W.Frag} {H : Hp} : ∀ {ds : List PyData} {vs : List V}, DpAll K H vs ds → vs.length = ds.length
  | _, _, .nil => rfl
  | _, _, .cons _ t => by simp [DpAll.len t]
theorem DpAll.get {K : PySem.W.Frag} {H : Hp} : ∀ {ds : List PyData} {vs : List V}, DpAll K H vs ds → ∀ {i : Nat} {d : PyData}, ds[i]? = some d → ∃ v, vs[i]? = some v ∧ Dp K H v d
  | _, _, .nil, i, d, h => by simp at h
  | _, _, .cons a t, 0, d, h => by
    simp only [List.getElem?_cons_zero, Option.some.injEq] at h
    subst h
    exact ⟨_, rfl, a⟩
  | _, _, .cons a t, i + 1, d, h => by
    simp only [List.getElem?_cons_succ] at h
    obtain ⟨v, e, q⟩ := DpAll.get t h
    exact ⟨v, by simpa using e, q⟩
theorem dp_strs {K : PySem.W.Frag} {H : Hp} : ∀ ss : List Str, DpAll K H (ss.map V.str) (ss.map PyData.str)
  | [] => .nil
  | s :: ss => .cons (.str s) (dp_strs ss)
def bet (d : PyData) (lo hi : Int) : Bool := match d with | .int i => decide (lo ≤ i) && decide (i ≤ hi) | _ => false
def inL (ss : List Str) (d : PyData) : Bool := (ss.map PyData.str).any fun e => PyData.eqv e d
theorem eqv_str {a : Str} {d : PyData} (h : PyData.eqv (.str a) d = true) : d = .str a := by
  cases d <;> simp [PyData.eqv] at h
  · rw [h]
theorem inL_str {ss : List Str} {d : PyData} (h : inL ss d = true) : ∃ s, s ∈ ss ∧ d = .str s := by
  unfold inL at h
  rw [List.any_map, List.any_eq_true] at h
  obtain ⟨s, hs, e⟩ := h
  exact ⟨s, hs, eqv_str e⟩
theorem inL_of {ss : List Str} {s : Str} (h : s ∈ ss) : inL ss (.str s) = true := by
  unfold inL
  rw [List.any_map, List.any_eq_true]
  exact ⟨s, h, by simp [PyData.eqv]⟩
def rowN (n : Nat) : PyData → Bool
  | .tuple ds => decide (ds.length = n)
  | _ => false
theorem Dp.tupOf {K : PySem.W.Frag} {H : Hp} {x : V} {ds : List PyData} (h : Dp K H x (.tuple ds)) : ∃ a xs, x = .ref a ∧ SqT K H a xs ∧ DpAll K H xs ds := by
  cases h with
  | tup a b => exact ⟨_, _, rfl, a, b⟩
theorem inV_strs (s : Str) (ss : List Str) : inV (.str s) (ss.map V.str) = ss.any (· == s) := by
  unfold inV
  rw [List.any_map]
  rfl
theorem inL_strs (ss : List Str) (z : Str) : inL ss (.str z) = ss.any (· == z) := by
  unfold inL
  rw [List.any_map]
  induction ss with
  | nil => rfl
  | cons s r ih =>
    rw [List.any_cons, List.any_cons, ih]
    rfl
end SG
namespace SG
open PySem PySem.Spec PyProof.Rows L2
/-- a def with keyword-only parameters, called without them -/
structure ClD (P : Program) (w : World) (K : PySem.W.Frag) (mg : Str → Option Value) (base : Heap) (k : Nat) (x : Str) (dv : List V) (sp : Sp) : Prop where
  ex : ∃ (f : Addr) (fd : FuncData) (ps : List Str) (ds : List Value), FnOk P w K mg base CX0 k f fd ps sp ∧ mg x = some (.ref f) ∧ PySem.W.keepIn K (.ref f) = true ∧ Binds K fd ps ds ∧ Vals dv ds
/-- with them -/
structure ClK (P : Program) (w : World) (K : PySem.W.Frag) (mg : Str → Option Value) (base : Heap) (k : Nat) (x : Str) (n : Nat) (ks : List Str) (sp : Sp) : Prop where
  ex : ∃ (f : Addr) (fd : FuncData) (ps : List Str), FnOk P w K mg base CX0 k f fd ps sp ∧ mg x = some (.ref f) ∧ PySem.W.keepIn K (.ref f) = true ∧ KBn K fd ps n ks (fun us ws => us ++ ws) (fun vs zs => vs ++ zs)
structure DfK (K : PySem.W.Frag) (mg : Str → Option Value) (x : Str) (st : Stmt) (ps : List Str) (n : Nat) (ks : List Str) (dv : List V) : Prop where
  ex : ∃ (f : Addr) (fd : FuncData) (ds : List Value), Fun K x x st f fd ∧ mg x = some (.ref f) ∧ Binds K fd ps ds ∧ Vals dv ds ∧ KBn K fd ps n ks (fun us ws => us ++ ws) (fun vs zs => vs ++ zs)
theorem DfK.ok {P : Program} {w : World} {K : PySem.W.Frag} {mg : Str → Option Value} {base : Heap} {x : Str} {st : Stmt} {N ps ks : List Str} {n k : Nat} {dv : List V} {sp : Sp} (D : DfK K mg x st ps n ks dv) (S : FnScope N ps (defScope st)) (len : ∀ vs H Q E, sp vs H Q E → vs.length = ps.length)
    (hbody : ∀ (f : Addr) (cdv : Value) (A : Around) (outer : List Env) (s : Shared) (H : Hp) (vs : List V) (Q : VK) (E : XK), Room k (A.deeper (envOfC x (defScope st) s.heap.objs.size f cdv)) → sp vs H Q E →
      ∃ t, PSs (cxOf CX0 P w K mg base N x (defScope st) f cdv A outer s H E).nox (defBody st) t ∧ t { nx := fun _ H' => Q .non H', rt := Q } (start N vs) H) : ClK P w K mg base (k + 1) x n ks sp ∧ ClD P w K mg base (k + 1) x dv sp := by
  obtain ⟨f, fd, ds, F, m, b, vd, kb⟩ := D.ex
  have ok := F.ok S len (fun cdv A outer s H vs Q E hr h => hbody f cdv A outer s H vs Q E hr h)
  exact ⟨⟨f, fd, ps, ok, m, F.kp, kb⟩, ⟨f, fd, ps, ds, ok, m, F.kp, b, vd⟩⟩
theorem kbn_of {K : PySem.W.Frag} {fd : FuncData} {ps ks : List Str} {n : Nat} (h : ∀ us ws : List Value, us.length = n → ws.length = ks.length → bindArgs fd ⟨us, ks.zip ws⟩ = pure (ps.zip (us ++ ws))) : KBn K fd ps n ks (fun us ws => us ++ ws) (fun vs zs => vs ++ zs) :=
  ⟨fun s us ws _ l1 l2 => .of_eq (h us ws l1 l2), fun r1 r2 => r1.append r2⟩
section
variable {X : Cx} {k n : Nat} {x : Str} {sp : Sp} {e : Expr} {es : List Expr} {kws : List Keyword} {ks : List Str} {t tk : TA} {p pos : Pos} {dv : List V}
theorem pe_clD (c : ClD X.prog X.w X.K X.mg X.base k x dv sp) (hr : Room k X.A) (hg : Gl X x) (ha : PA X (e :: es) t)
    (hdb : (x == ("__debug__" : Str)) = false := by decide) (he : starEach (e :: es) X.env = (false, eval e X.env) :: starEach es X.env := by rfl) (hpl : (backTo pos (starEach es X.env)).any (·.1) = false := by rfl) :
    PE X (.Call (.Name x p) (e :: es) [] pos) (tCall sp dv E0 t) := by
  obtain ⟨f, fd, ps, ds, F, hm, kp, b, vd⟩ := c.ex
  exact pe_call F hr hg hm kp b vd pass0 ha hdb he hpl
theorem pe_clK (c : ClK X.prog X.w X.K X.mg X.base k x n ks sp) (hr : Room k X.A) (hg : Gl X x) (ha : PA X (e :: es) t) (hkw : PK X kws tk)
    (hall : (backToKw pos (keywordEach kws X.env)).all (·.1.isSome) = true := by rfl) (hks : (backToKw pos (keywordEach kws X.env)).filterMap (·.1) = ks := by rfl)
    (hdb : (x == ("__debug__" : Str)) = false := by decide) (he : starEach (e :: es) X.env = (false, eval e X.env) :: starEach es X.env := by rfl)
    (hpl : ((backTo pos (starEach (e :: es) X.env)).any (·.1) || (backToKw pos (keywordEach kws X.env)).any (·.1.isNone)) = false := by rfl) :
    PE X (.Call (.Name x p) (e :: es) kws pos) (tCallN n ks.length sp (fun vs zs => vs ++ zs) E0 t tk) := by
  obtain ⟨f, fd, ps, F, hm, kp, b⟩ := c.ex
  exact pe_callN F hr hg hm kp b pass0 ha hkw hall hks hdb he hpl
end
/-- a target of four names -/
theorem pg_four {X : Cx} {K : PySem.W.Frag} {i j l m k : Nat} {x y z u : Str} {p1 p2 p3 p4 pos : Pos} (hK : X.K = K) (hc : X.calm = true) (hN : X.N.Nodup) (hi : X.N[i]? = some x) (hj : X.N[j]? = some y) (hl : X.N[l]? = some z) (hm : X.N[m]? = some u)
    (hx : Loc X.env.scope x) (hy : Loc X.env.scope y) (hz : Loc X.env.scope z) (hu : Loc X.env.scope u)
    (fx : X.fn x = true ∨ X.env.scope.names.lookup x = some .local := by first | exact .inl rfl | exact .inr rfl) (fy : X.fn y = true ∨ X.env.scope.names.lookup y = some .local := by first | exact .inl rfl | exact .inr rfl)
    (fz : X.fn z = true ∨ X.env.scope.names.lookup z = some .local := by first | exact .inl rfl | exact .inr rfl) (fu : X.fn u = true ∨ X.env.scope.names.lookup u = some .local := by first | exact .inl rfl | exact .inr rfl) :
    PG X (.Tuple [.Name x p1, .Name y p2, .Name z p3, .Name u p4] k pos) (gTup K 4 (gCons (gName i) (gCons (gName j) (gCons (gName l) (gCons (gName m) gNil))))) := by
  subst hK
  exact pg_tup hc (pgs_cons (pg_name hN hi hx fx) (pgs_cons (pg_name hN hj hy fy) (pgs_cons (pg_name hN hl hz fz) (pgs_cons (pg_name hN hm hu fu) pgs_nil))))
section
variable {X : Cx}
theorem fin_bl' {pins : List (Addr × Obj)} {σ : L2.St} {H : Hp} {s : Shared} {Q : VK} {b : Bool} (I : L2.Inv X pins σ H s) (q : Q (.bl b) H) : EP X pins σ Q (.bool b) s := ⟨.bl b, H, I, rfl, q⟩
theorem hits_dp {A : Around} {s : Shared} {H : Hp} {pins : List (Addr × Obj)} {σ : L2.St} (I : L2.Inv X pins σ H s) (hu : A.units + 64 < cLine) {kvs : List (Key × V)} {vb : List (Key × Value)} (rb : KV kvs vb) {ks : List (Key × V)} {va : List (Key × Value)} (ra : KV ks va) :
    (∀ p ∈ ks, ∃ y d, valV kvs p.1 = some y ∧ Dp X.K H p.2 d ∧ Dp X.K H y d ∧ PyData.plain d = true ∧ PyData.depth d ≤ 64) → PySem.W.KeqHits A s vb va true := by
  unfold KV at ra
  induction ra with
  | nil => intro _; exact .nil
  | @cons p q ps qs h t ih =>
    intro hp
    obtain ⟨h1, h2⟩ := h
    obtain ⟨y, d, e, dp, dy, pl, dep⟩ := hp p List.mem_cons_self
    have rr : RelO (some y) (valueAt vb p.1) := by rw [← e]; exact rb.val p.1
    obtain ⟨y', hy, ry⟩ := rr.some_of
    obtain ⟨k, v⟩ := q
    have h1' : p.1 = k := h1
    rw [h1'] at hy
    obtain ⟨as, r1⟩ := Dp.reads I d _ _ dp h2
    obtain ⟨bs, r2⟩ := Dp.reads I d _ _ dy ry
    have eq := SeqAt.eqAt_plain d d A s v y' as bs r1 r2 pl pl (by omega)
    rw [SeqAt.eqv_refl_plain _ pl] at eq
    show PySem.W.KeqHits A s vb ((k, v) :: qs) (true && true)
    exact .hit hy eq (ih fun p' hm => hp p' (List.mem_cons_of_mem _ hm))
/-- != of dicts that are alike, their values data -/
def rNeDP (K : PySem.W.Frag) : R2 := fun x y H Q => ∃ a b ks ls, x = .ref a ∧ y = .ref b ∧ H a = some (.dK ks) ∧ H b = some (.dK ls) ∧ ks.length = ls.length ∧
  (∀ p ∈ ks, ∃ y d, valV ls p.1 = some y ∧ Dp K H p.2 d ∧ Dp K H y d ∧ PyData.plain d = true ∧ PyData.depth d ≤ 64) ∧ Q (.bl false) H
theorem op_neDP (hu : X.A.units + 70 < cLine) : OpR X (compareOp .NotEq) (rNeDP X.K) := by
  intro pins s σ H x y v u Q I rx ry h
  obtain ⟨a, b, ks, ls, rfl, rfl, ea, eb, hlen, hp, q⟩ := h
  obtain rfl : v = Value.ref a := rx
  obtain rfl : u = Value.ref b := ry
  obtain ⟨_, ya, va, ra, da⟩ := (show ObjOk X.prog X.w H s.heap a (.dK ks) from I.hok a _ ea)
  obtain ⟨_, yb, vb, rb, db⟩ := (show ObjOk X.prog X.w H s.heap b (.dK ls) from I.hok b _ eb)
  have hl : va.length = vb.length := by rw [← ra.length, ← rb.length]; exact hlen
  refine PySem.W.keq_ne (knd := mixKind X.prog X.w) (r := true) ya yb da db (by omega) (fun _ => hits_dp I (by first | (show X.A.units + 64 < cLine; omega) | (show X.A.units + 1 + 64 < cLine; omega)) rb ra hp) ?_
  have e : (!(va.length == vb.length && true)) = false := by simp [hl]
  rw [e]
  exact fin_bl' I q
/-- d.update(e) -/
def rUpd : V → List V → Hp → VK → Prop := fun x xs H Q => ∃ (a b : Addr) (ks ls : List (Key × V)), x = .ref a ∧ xs = [.ref b] ∧ a ≠ b ∧ H a = some (.dK ks) ∧ H b = some (.dK ls) ∧ ks.length + ls.length ≤ sizeLine ∧ Q .non (upd H a (.dK (mergeK ks ls)))
theorem mt_upd : MtR X "dict.update" rUpd := by
  intro pins s σ H x xs v us Q I rx rxs h
  obtain ⟨a, b, ks, ls, rfl, rfl, ne, ea, eb, z, q⟩ := h
  obtain rfl : v = Value.ref a := rx
  obtain ⟨u, rfl, ru⟩ := vals1 rxs
  obtain rfl : u = Value.ref b := ru
  obtain ⟨z1, ya, va, ra, da⟩ := (show ObjOk X.prog X.w H s.heap a (.dK ks) from I.hok a _ ea)
  obtain ⟨z2, yb, vb, rb, db⟩ := (show ObjOk X.prog X.w H s.heap b (.dK ls) from I.hok b _ eb)
  refine call_meetsIn PySem.F.slot_dict_update da.typeIs PySem.F.entry_dict_update (PySem.F.args_dict_update_2 _ _) (meets_dict_update (mixKind X.prog X.w) a b ne yb) ⟨va, vb, da, db, by rw [← ra.length, ← rb.length]; exact z, fun h' da' db' hs => ?_⟩
  have he : ∃ q, h'.get? a = some q := let ⟨q, _, _, hq, _⟩ := da'; ⟨q, hq⟩
  have hl : (mergeK ks ls).length ≤ sizeLine := Nat.le_trans (length_mergeK ls ks) z
  exact ⟨.non, upd H a (.dK (mergeK ks ls)), d_write I (by rw [ea]; exact True.intro) hs he (dk_new hl ya (KV.merge rb ra) da'), rfl, q⟩
end
end SG
namespace SG
open PySem PySem.Spec PyProof.Rows L2
def top (i : Nat) : Stmt := PySem.Challenge.pw_strokeguess_k03_ways_and_corners.main.body.getD i (.Pass ⟨0, 0, 0, 0⟩)

structure Txt (K : PySem.W.Frag) (mg : Str → Option Value) : Prop where
  m_dict : mg "dict" = none
  m_len : mg "len" = none
  m_list : mg "list" = none
  m_range : mg "range" = none
  m_reversed : mg "reversed" = none
  m_tuple : mg "tuple" = none
  mNAMEx : ∃ t, mg "NAME" = some (.int 0 t)
  mPARTSx : ∃ t, mg "PARTS" = some (.int 5 t)
abbrev sway_at : Stmt := top 3
abbrev Nway_at : List Str := ["scene", "x", "y", "places"]
theorem scway_at : FnScope Nway_at ["scene", "x", "y", "places"] (defScope sway_at) := ⟨rfl, rfl, rfl, by decide +kernel, rfl, by decide +kernel, by decide +kernel⟩

abbrev sway_around : Stmt := top 4
abbrev Nway_around : List Str := ["scene", "x", "y", "places", "missing", "way", "part", "left", "top"]
theorem scway_around : FnScope Nway_around ["scene", "x", "y", "places", "missing"] (defScope sway_around) := ⟨rfl, rfl, rfl, by decide +kernel, rfl, by decide +kernel, by decide +kernel⟩

abbrev scorners : Stmt := top 5
abbrev Ncorners : List Str := ["scene", "places", "found"]
theorem sccorners : FnScope Ncorners ["scene", "places"] (defScope scorners) := ⟨rfl, rfl, rfl, by decide +kernel, rfl, by decide +kernel, by decide +kernel⟩

abbrev s_last_at : Stmt := top 6
abbrev N_last_at : List Str := ["parts", "x", "y", "missing", "part", "name", "left", "top", "wide", "high", "_"]
theorem sc_last_at : FnScope N_last_at ["parts", "x", "y", "missing"] (defScope s_last_at) := ⟨rfl, rfl, rfl, by decide +kernel, rfl, by decide +kernel, by decide +kernel⟩

abbrev s_start_of_inner : Stmt := top 7
abbrev N_start_of_inner : List Str := ["part", "places", "name", "left", "top", "_", "shelf", "place"]
theorem sc_start_of_inner : FnScope N_start_of_inner ["part", "places"] (defScope s_start_of_inner) := ⟨rfl, rfl, rfl, by decide +kernel, rfl, by decide +kernel, by decide +kernel⟩

abbrev s_put_corners : Stmt := top 8
abbrev N_put_corners : List Str := ["found", "part", "start", "places", "name", "left", "top", "_", "parts", "x", "y", "across", "along", "inner"]
theorem sc_put_corners : FnScope N_put_corners ["found", "part", "start", "places"] (defScope s_put_corners) := ⟨rfl, rfl, rfl, by decide +kernel, rfl, by decide +kernel, by decide +kernel⟩

abbrev s_law_tape : Stmt := top 10
abbrev N_law_tape : List Str := ["_law_script"]
theorem sc_law_tape : FnScope N_law_tape ["_law_script"] (defScope s_law_tape) := ⟨rfl, rfl, rfl, by decide +kernel, rfl, by decide +kernel, by decide +kernel⟩

abbrev s_law_draw : Stmt := top 11
abbrev N_law_draw : List Str := ["_law_tape_here", "_law_many", "_law_found", "_law_spot", "_law_cells", "_law_cell", "_law_great", "_law_primes", "_law_prime", "_law_seed"]
theorem sc_law_draw : FnScope N_law_draw ["_law_tape_here", "_law_many"] (defScope s_law_draw) := ⟨rfl, rfl, rfl, by decide +kernel, rfl, by decide +kernel, by decide +kernel⟩

abbrev s_law_words : Stmt := top 12
abbrev N_law_words : List Str := ["_law_tape_here", "_law_many", "_law_letters", "_law_own", "_law_k", "_law_base", "_law_found", "_law_letter", "_law_some", "_law_word", "_law_more"]
theorem sc_law_words : FnScope N_law_words ["_law_tape_here", "_law_many"] (defScope s_law_words) := ⟨rfl, rfl, rfl, by decide +kernel, rfl, by decide +kernel, by decide +kernel⟩

abbrev s_law_machine : Stmt := top 13
abbrev N_law_machine : List Str := ["_law_tape_here", "_law_many", "_law_states", "_law_k", "_law_ends", "_law_steps", "_law_word", "_law_wait", "_law_later"]
theorem sc_law_machine : FnScope N_law_machine ["_law_tape_here"] (defScope s_law_machine) := ⟨rfl, rfl, rfl, by decide +kernel, rfl, by decide +kernel, by decide +kernel⟩

abbrev s_law_wish : Stmt := top 14
abbrev N_law_wish : List Str := ["_law_tape_here", "_law_label", "_law_wait", "_law_some", "_law_kind"]
theorem sc_law_wish : FnScope N_law_wish ["_law_tape_here", "_law_label"] (defScope s_law_wish) := ⟨rfl, rfl, rfl, by decide +kernel, rfl, by decide +kernel, by decide +kernel⟩

abbrev s_law_part : Stmt := top 15
abbrev N_law_part : List Str := ["_law_tape_here", "_law_box", "_law_room", "_law_name", "_law_ear", "_law_shelf", "_law_wishes", "_law_k", "_law_parts", "_law_left", "_law_top"]
theorem sc_law_part : FnScope N_law_part ["_law_tape_here", "_law_box", "_law_room"] (defScope s_law_part) := ⟨rfl, rfl, rfl, by decide +kernel, rfl, by decide +kernel, by decide +kernel⟩

abbrev s_law_pairs : Stmt := top 16
abbrev N_law_pairs : List Str := ["_law_tape_here", "_law_labels", "_law_turn", "_law_order", "_law_beside", "_law_heeds", "_law_k", "_law_other", "_law_way_here"]
theorem sc_law_pairs : FnScope N_law_pairs ["_law_tape_here", "_law_labels"] (defScope s_law_pairs) := ⟨rfl, rfl, rfl, by decide +kernel, rfl, by decide +kernel, by decide +kernel⟩

abbrev s_law_scene : Stmt := top 17
abbrev N_law_scene : List Str := ["_law_tape_here", "_law_many", "_law_labels", "_law_words_here", "_law_room", "_law_wide", "_law_part_here", "_law_used", "_law_beside", "_law_heeds", "_law_label"]
theorem sc_law_scene : FnScope N_law_scene ["_law_tape_here", "_law_many", "_law_labels"] (defScope s_law_scene) := ⟨rfl, rfl, rfl, by decide +kernel, rfl, by decide +kernel, by decide +kernel⟩

abbrev s_law_flat : Stmt := top 18
abbrev N_law_flat : List Str := ["_law_scene_here", "_law_spots_here", "_law_left", "_law_found", "_law_part_here", "_law_x", "_law_y", "_law_about", "_law_one"]
theorem sc_law_flat : FnScope N_law_flat ["_law_scene_here", "_law_spots_here"] (defScope s_law_flat) := ⟨rfl, rfl, rfl, by decide +kernel, rfl, by decide +kernel, by decide +kernel⟩

abbrev s_law_way : Stmt := top 19
abbrev N_law_way : List Str := ["_law_flat_here", "_law_x", "_law_y", "_law_there", "_law_part_here", "_law_left", "_law_top", "_law_about", "_law_way_here", "_law_more", "_law_name"]
theorem sc_law_way : FnScope N_law_way ["_law_flat_here", "_law_x", "_law_y"] (defScope s_law_way) := ⟨rfl, rfl, rfl, by decide +kernel, rfl, by decide +kernel, by decide +kernel⟩

abbrev s_law_spots : Stmt := top 20
abbrev N_law_spots : List Str := ["_law_tape_here", "_law_scene_here", "_law_found", "_law_part_here", "_law_left", "_law_top", "_law_about", "_law_way_here", "_law_least", "_law_most", "_law_spot"]
theorem sc_law_spots : FnScope N_law_spots ["_law_tape_here", "_law_scene_here"] (defScope s_law_spots) := ⟨rfl, rfl, rfl, by decide +kernel, rfl, by decide +kernel, by decide +kernel⟩

abbrev slaw : Stmt := top 21
abbrev Nlaw : List Str := ["_law_script", "_law_tape_here", "_law_turn", "_law_scene_here", "_law_spots_here", "_law_flat_here", "_law_kept", "_law_part_here", "_law_left", "_law_top", "_law_about", "_law_due", "_law_found", "_law_k", "_law_x", "_law_y"]
theorem sclaw : FnScope Nlaw ["_law_script"] (defScope slaw) := ⟨rfl, rfl, rfl, by decide +kernel, rfl, by decide +kernel, by decide +kernel⟩

end SG
namespace SG
open PySem PySem.Spec PyProof.Rows L2
/-! ### words unlike those that are there -/
theorem nodup_len {α : Type} [DecidableEq α] : ∀ {l W : List α}, l.Nodup → (∀ x ∈ l, x ∈ W) → l.length ≤ W.length
  | [], _, _, _ => Nat.zero_le _
  | x :: r, W, hn, hs => by
    rw [List.nodup_cons] at hn
    have hx := hs x List.mem_cons_self
    have ih := nodup_len (l := r) (W := W.erase x) hn.2 fun y hy => (List.mem_erase_of_ne (fun e => hn.1 (by rw [← e]; exact hy))).mpr (hs y (List.mem_cons_of_mem _ hy))
    rw [List.length_erase_of_mem hx] at ih
    have : 0 < W.length := List.length_pos_of_mem hx
    rw [List.length_cons]
    omega
section
variable {α : Type} [DecidableEq α]
def runW (f : Nat → α → α) (W : List α) : List Nat → α → α
  | [], z => z
  | c :: r, z => runW f W r (if z ∈ W then f c z else z)
def chain (f : Nat → α → α) : List Nat → α → List α
  | [], _ => []
  | c :: r, z => f c z :: chain f r (f c z)
def lastC (f : Nat → α → α) : List Nat → α → α
  | [], z => z
  | c :: r, z => lastC f r (f c z)
theorem run_stay {f : Nat → α → α} {W : List α} : ∀ {cs : List Nat} {z : α}, z ∉ W → runW f W cs z = z
  | [], _, _ => rfl
  | c :: r, z, h => by
    show runW f W r (if z ∈ W then f c z else z) = z
    rw [if_neg h]
    exact run_stay h
theorem run_in {f : Nat → α → α} {W : List α} : ∀ {cs : List Nat} {z : α}, runW f W cs z ∈ W → z ∈ W ∧ (∀ y ∈ chain f cs z, y ∈ W) ∧ runW f W cs z = lastC f cs z
  | [], z, h => ⟨h, (fun y hy => nomatch hy), rfl⟩
  | c :: r, z, h => by
    by_cases hz : z ∈ W
    · have h' : runW f W r (if z ∈ W then f c z else z) ∈ W := h
      rw [if_pos hz] at h'
      obtain ⟨a, b, e⟩ := run_in h'
      refine ⟨hz, fun y hy => ?_, ?_⟩
      · rcases List.mem_cons.mp hy with rfl | hy
        · exact a
        · exact b y hy
      · show runW f W r (if z ∈ W then f c z else z) = _
        rw [if_pos hz]
        exact e
    · rw [run_stay hz] at h
      exact absurd h hz
theorem run_append (f : Nat → α → α) (W : List α) : ∀ (a b : List Nat) (z : α), runW f W (a ++ b) z = runW f W b (runW f W a z)
  | [], _, _ => rfl
  | c :: r, b, z => run_append f W r b _
theorem run_step {f : Nat → α → α} {W : List α} {cs : List Nat} {z : α} {j c : Nat} (h : cs[j]? = some c) : runW f W (cs.take (j + 1)) z = if runW f W (cs.take j) z ∈ W then f c (runW f W (cs.take j) z) else runW f W (cs.take j) z := by
  obtain ⟨hj, e⟩ := List.getElem?_eq_some_iff.mp h
  rw [List.take_succ_eq_append_getElem hj, e, run_append]
  rfl
theorem chain_append (f : Nat → α → α) : ∀ (a b : List Nat) (z : α), chain f (a ++ b) z = chain f a z ++ chain f b (lastC f a z)
  | [], _, _ => rfl
  | c :: r, b, z => by
    show f c z :: chain f (r ++ b) (f c z) = _
    rw [chain_append f r b]
    rfl
theorem chain_len (f : Nat → α → α) : ∀ (a : List Nat) (z : α), (chain f a z).length = a.length
  | [], _ => rfl
  | c :: r, z => by
    show (chain f r (f c z)).length + 1 = _
    rw [chain_len f r]
    rfl
theorem lastC_append (f : Nat → α → α) : ∀ (a b : List Nat) (z : α), lastC f (a ++ b) z = lastC f b (lastC f a z)
  | [], _, _ => rfl
  | c :: r, b, z => lastC_append f r b (f c z)
end
def f1 (c : Nat) (z : List Nat) : List Nat := z.take 7 ++ [c]
def f2 (c : Nat) (z : List Nat) : List Nat := c :: z.drop 1
theorem chain1_last : ∀ (cs : List Nat) (z : List Nat), (chain f1 cs z).map List.getLast? = cs.map some
  | [], _ => rfl
  | c :: r, z => by
    show (f1 c z).getLast? :: (chain f1 r (f1 c z)).map List.getLast? = some c :: r.map some
    rw [chain1_last r]
    unfold f1
    rw [List.getLast?_append]
    rfl
theorem chain2_head : ∀ (cs : List Nat) (z : List Nat), (chain f2 cs z).map List.head? = cs.map some
  | [], _ => rfl
  | c :: r, z => by
    show (f2 c z).head? :: (chain f2 r (f2 c z)).map List.head? = some c :: r.map some
    rw [chain2_head r]
    rfl
theorem chain2_last : ∀ (cs : List Nat) (z : List Nat), 2 ≤ z.length → ∀ y ∈ chain f2 cs z, y.getLast? = z.getLast?
  | [], _, _, y, hy => nomatch hy
  | c :: r, z, h, y, hy => by
    have e : (f2 c z).getLast? = z.getLast? := by
      match z, h with
      | a :: b :: t, _ => show (c :: b :: t).getLast? = (a :: b :: t).getLast?; rw [List.getLast?_cons_cons, List.getLast?_cons_cons]
    have l : 2 ≤ (f2 c z).length := by
      unfold f2
      rw [List.length_cons, List.length_drop]
      omega
    rcases List.mem_cons.mp hy with rfl | hy
    · exact e
    · rw [chain2_last r (f2 c z) l y hy, e]
theorem nodup_of_map {α β : Type} (g : α → β) : ∀ {l : List α}, (l.map g).Nodup → l.Nodup
  | [], _ => List.nodup_nil
  | x :: r, h => by
    rw [List.map_cons, List.nodup_cons] at h
    exact List.nodup_cons.mpr ⟨fun m => h.1 (List.mem_map.mpr ⟨x, m, rfl⟩), nodup_of_map g h.2⟩
theorem some_nodup {l : List Nat} (h : l.Nodup) : (l.map some).Nodup := by
  induction l with
  | nil => exact List.nodup_nil
  | cons x r ih =>
    rw [List.nodup_cons] at h
    rw [List.map_cons, List.nodup_cons]
    refine ⟨fun m => ?_, ih h.2⟩
    obtain ⟨y, hy, e⟩ := List.mem_map.mp m
    exact h.1 (by injection e with e; rw [← e]; exact hy)
theorem last1_len : ∀ (cs : List Nat) (z : List Nat), z ≠ [] → cs ≠ [] → 2 ≤ (lastC f1 cs z).length
  | [], _, _, h => absurd rfl h
  | c :: r, z, hz, _ => by
    have l : 2 ≤ (f1 c z).length := by
      unfold f1
      rw [List.length_append, List.length_take]
      have : 0 < z.length := List.length_pos_iff.mpr hz
      show 2 ≤ min 7 z.length + 1
      omega
    cases r with
    | nil => exact l
    | cons d r => exact last1_len (d :: r) (f1 c z) (fun e => by rw [e] at l; simp at l) (by simp)
/-- 26 other ends, then 26 other beginnings: one of them isn't there -/
theorem unlike {W : List (List Nat)} {cs : List Nat} {zz : Nat} {z : List Nat} (hc : (cs ++ [zz]).Nodup) (hl : cs.length = 25) (hW : W.length ≤ 50) : runW f2 W (cs ++ [zz]) (runW f1 W (cs ++ [zz]) z) ∉ W := by
  intro h
  obtain ⟨h1, b2, _⟩ := run_in h
  obtain ⟨_, b1, e1⟩ := run_in h1
  rw [chain_append] at b1
  have l1 : 2 ≤ (runW f1 W (cs ++ [zz]) z).length := by
    rw [e1]
    match cs, hl with
    | c :: r, _ => exact last1_len (r ++ [zz]) (f1 c z) (by unfold f1; simp) (by simp)
  have z1 : (runW f1 W (cs ++ [zz]) z).getLast? = some zz := by
    rw [e1, lastC_append]
    show (f1 zz _).getLast? = _
    unfold f1
    rw [List.getLast?_append]
    rfl
  generalize runW f1 W (cs ++ [zz]) z = y at *
  have n1 : (chain f1 cs z).Nodup := nodup_of_map List.getLast? (by rw [chain1_last]; exact some_nodup (List.nodup_append.mp hc).1)
  have n2 : (chain f2 (cs ++ [zz]) y).Nodup := nodup_of_map List.head? (by rw [chain2_head]; exact some_nodup hc)
  have dis : ∀ a ∈ chain f1 cs z, ∀ b ∈ chain f2 (cs ++ [zz]) y, a ≠ b := by
    intro a ha b hb e
    have la : a.getLast? ∈ (chain f1 cs z).map List.getLast? := List.mem_map.mpr ⟨a, ha, rfl⟩
    rw [chain1_last, e, chain2_last _ _ l1 b hb, z1] at la
    obtain ⟨q, hq, e2⟩ := List.mem_map.mp la
    injection e2 with e2
    exact (List.nodup_append.mp hc).2.2 q hq zz (by simp) e2
  have n : (chain f1 cs z ++ chain f2 (cs ++ [zz]) y).Nodup := List.nodup_append.mpr ⟨n1, n2, dis⟩
  have := nodup_len (W := W) n fun x hx => by
    rcases List.mem_append.mp hx with hx | hx
    · exact b1 x (List.mem_append_left _ hx)
    · exact b2 x hx
  rw [List.length_append, chain_len, chain_len, List.length_append, hl] at this
  simp at this
  omega
/-- texts as lists of signs -/
def sl (z : Str) : List Nat := z.cps.toList
theorem sl_inj {a b : Str} (h : sl a = sl b) : a = b := by
  cases a; cases b
  unfold sl at h
  simp only at h
  rw [Array.toList_inj.mp h]
theorem sl_mem {z : Str} {ws : List Str} : sl z ∈ ws.map sl ↔ z ∈ ws := by
  rw [List.mem_map]
  exact ⟨fun ⟨y, hy, e⟩ => by rw [← sl_inj e]; exact hy, fun h => ⟨z, h, rfl⟩⟩
theorem sl_app (a b : Str) : sl (a ++ b) = sl a ++ sl b := by
  show (a.cps ++ b.cps).toList = _
  exact Array.toList_append
theorem sl_cut7 (z : Str) (c : Nat) : sl (cutS z none (some 7) ++ ⟨#[c]⟩) = f1 c (sl z) := by
  rw [sl_app]
  unfold f1 cutS sl
  have e : HT.sIx z.length z.length (some 7) = min 7 z.length := HT.sIx_nat _ _ 7
  have hz : z.cps.toList.length = z.length := by simp [Str.length]
  rw [HT.sIx_none, e, List.drop_zero, Nat.sub_zero]
  show z.cps.toList.take (min 7 z.length) ++ [c] = _
  by_cases h : 7 ≤ z.length
  · rw [Nat.min_eq_left h]
  · rw [Nat.min_eq_right (by omega), List.take_of_length_le (by omega), List.take_of_length_le (by omega)]
theorem sl_cut1 (z : Str) (c : Nat) : sl (⟨#[c]⟩ ++ cutS z (some 1) none) = f2 c (sl z) := by
  rw [sl_app]
  unfold f2 cutS sl
  have e : HT.sIx z.length 0 (some 1) = min 1 z.length := HT.sIx_nat _ _ 1
  have hz : z.cps.toList.length = z.length := by simp [Str.length]
  rw [HT.sIx_none, e]
  show [c] ++ (z.cps.toList.drop (min 1 z.length)).take (z.length - min 1 z.length) = _
  rw [List.take_of_length_le (by rw [List.length_drop]; omega)]
  by_cases h : 1 ≤ z.length
  · rw [Nat.min_eq_left h]
    rfl
  · rw [Nat.min_eq_right (by omega), List.drop_of_length_le (by omega), List.drop_of_length_le (by omega)]
    rfl
theorem inV_word {z : Str} {ws : List Str} : (inV (.str z) (ws.map V.str) = true) ↔ sl z ∈ ws.map sl := by
  rw [sl_mem]
  unfold inV
  rw [List.any_map, List.any_eq_true]
  constructor
  · rintro ⟨y, hy, e⟩
    have e' : (y == z) = true := e
    rw [← (beq_iff_eq.mp e')]
    exact hy
  · intro h
    exact ⟨z, h, beq_self_eq_true z⟩
theorem cps_at {z : Str} {j c : Nat} (h : z.cps[j]? = some c) : (sl z)[j]? = some c := by
  unfold sl
  rw [Array.getElem?_toList]
  exact h
abbrev abc : Str := "abcdefghijklmnopqrstuvwxyz"
theorem abc_is : sl abc = (sl abc).take 25 ++ [122] := by decide +kernel
theorem abc_nd : ((sl abc).take 25 ++ [122]).Nodup := by decide +kernel
theorem abc_len : ((sl abc).take 25).length = 25 := by decide +kernel
theorem abc_take : (sl abc).take abc.cps.size = sl abc := by
  unfold sl
  rw [← Array.length_toList, List.take_length]
theorem word_new {ws : List Str} {z : List Nat} (h : ws.length ≤ 49) : runW f2 (ws.map sl) (sl abc) (runW f1 (ws.map sl) (sl abc) z) ∉ ws.map sl := by
  rw [abc_is]
  exact unlike abc_nd abc_len (by rw [List.length_map]; omega)
end SG
namespace SG
open PySem PySem.Spec PyProof.Rows L2
/-! ### the tape -/
def tapeD (c : Addr) (s l : Int) : List (Key × V) := [(Sum.inr "cells", .ref c), (Sum.inr "spot", .int s), (Sum.inr "left", .int l)]
theorem k12 : ¬ (Sum.inr ("cells" : Str) : Key) = Sum.inr ("spot" : Str) := by decide +kernel
theorem k13 : ¬ (Sum.inr ("cells" : Str) : Key) = Sum.inr ("left" : Str) := by decide +kernel
theorem k23 : ¬ (Sum.inr ("spot" : Str) : Key) = Sum.inr ("left" : Str) := by decide +kernel
theorem k32 : ¬ (Sum.inr ("left" : Str) : Key) = Sum.inr ("spot" : Str) := by decide +kernel
theorem n12 : ¬ ("cells" : Str) = ("spot" : Str) := by decide +kernel
theorem n13 : ¬ ("cells" : Str) = ("left" : Str) := by decide +kernel
theorem n23 : ¬ ("spot" : Str) = ("left" : Str) := by decide +kernel
theorem n32 : ¬ ("left" : Str) = ("spot" : Str) := by decide +kernel
theorem len3 {c : Addr} {s l : Int} : (tapeD c s l).length < sizeLine := by show 3 < sizeLine; decide
/-- a tape stands at t, of which at most n cells were taken -/
def TapeAt (H : Hp) (t c : Addr) (n : Nat) : Prop :=
  ∃ (cs : List Int) (s l : Int), H t = some (.dK (tapeD c s l)) ∧ H c = some (.lst (cs.map V.int)) ∧ 0 ≤ s ∧ s ≤ (n : Int) ∧ 0 ≤ l ∧ cs.length ≤ 63
section
variable {K : PySem.W.Frag} {H H' : Hp} {t c : Addr} {s l v : Int} {n m : Nat}
theorem tape_cells (h : H t = some (.dK (tapeD c s l))) : DGet H t (.str "cells") (some (.ref c)) := DGet.k (k := Sum.inr "cells") h
theorem tape_spot (h : H t = some (.dK (tapeD c s l))) : DGet H t (.str "spot") (some (.int s)) := by
  have e : valV (tapeD c s l) (Sum.inr ("spot" : Str) : Key) = some (.int s) := by
    unfold tapeD
    rw [valV_neg k12, valV_pos rfl]
  have q := DGet.k (k := Sum.inr "spot") h
  rw [e] at q
  exact q
theorem tape_left (h : H t = some (.dK (tapeD c s l))) : DGet H t (.str "left") (some (.int l)) := by
  have e : valV (tapeD c s l) (Sum.inr ("left" : Str) : Key) = some (.int l) := by
    unfold tapeD
    rw [valV_neg k13, valV_neg k23, valV_pos rfl]
  have q := DGet.k (k := Sum.inr "left") h
  rw [e] at q
  exact q
theorem key_ne {a b : Str} (h : ¬ a = b) : ¬ (Sum.inr a : Key) = Sum.inr b := fun e => h (Sum.inr.inj e)
theorem tape_put_left (h : H t = some (.dK (tapeD c s l))) : DPut H t (.str "left") (.int v) (upd H t (.dK (tapeD c s v))) := by
  have e : putK (tapeD c s l) (Sum.inr ("left" : Str) : Key) (.int v) = tapeD c s v := by
    simp [putK, tapeD, n13, n23]
  have q := DPut.k (k := Sum.inr "left") (v := .int v) h len3
  rw [e] at q
  exact q
theorem tape_put_spot (h : H t = some (.dK (tapeD c s l))) : DPut H t (.str "spot") (.int v) (upd H t (.dK (tapeD c v l))) := by
  have e : putK (tapeD c s l) (Sum.inr ("spot" : Str) : Key) (.int v) = tapeD c v l := by
    simp [putK, tapeD, n12, n32]
  have q := DPut.k (k := Sum.inr "spot") (v := .int v) h len3
  rw [e] at q
  exact q
/-- a list is no dict: it stays where only a dict changes -/
theorem sq_ne {xs : List V} {kvs : List (Key × V)} (hc : SqL K H c xs) (ht : H t = some (.dK kvs)) (f : Fr [t] H H') : SqL K H' c xs := by
  rcases hc with (h | ⟨o, h⟩) | h
  · exact .inl (.inl (f _ _ h (by simp only [List.mem_singleton]; exact ne_of h ht (by intro z; cases z))))
  · exact .inl (.inr ⟨o, f _ _ h (by simp only [List.mem_singleton]; exact ne_of h ht (by intro z; cases z))⟩)
  · exact .inr h
theorem TapeAt.mono (h : TapeAt H t c n) (q : n ≤ m) : TapeAt H t c m := by
  obtain ⟨cs, s, l, h1, h2, h3, h4, h5, h6⟩ := h
  exact ⟨cs, s, l, h1, h2, h3, by omega, h5, h6⟩
theorem TapeAt.same (h : TapeAt H t c n) (q : Same H H') : TapeAt H' t c n := by
  obtain ⟨cs, s, l, h1, h2, h3, h4, h5, h6⟩ := h
  exact ⟨cs, s, l, q _ _ h1, q _ _ h2, h3, h4, h5, h6⟩
theorem TapeAt.tp (h : TapeAt H t c n) (q : Fr [t] H H') : Tp H H' := fun b xs e => by
  obtain ⟨cs, s, l, h1, h2, h3, h4, h5, h6⟩ := h
  exact q _ _ e (by simp only [List.mem_singleton]; exact ne_of e h1 (by intro z; cases z))
theorem TapeAt.is (h : TapeAt H t c n) : ∃ kvs, H t = some (.dK kvs) := by
  obtain ⟨cs, s, l, h1, _⟩ := h
  exact ⟨_, h1⟩
theorem at_of' {α : Type} {xs : List α} {z : Int} {j : Nat} {v : α} (e : z = (j : Int)) (h : xs[j]? = some v) : atI xs z = some v := by
  rw [e]
  exact atI_nat h
theorem at_in {α : Type} {xs : List α} {i : Int} (h0 : 0 ≤ i) (h1 : i < xs.length) : ∃ x, x ∈ xs ∧ atI xs i = some x := by
  have hk : i.toNat < xs.length := by omega
  refine ⟨xs[i.toNat], List.getElem_mem hk, ?_⟩
  exact at_of' (j := i.toNat) (by omega) (List.getElem?_eq_getElem hk)
theorem at_ints {cs : List Int} {i : Int} (h0 : 0 ≤ i) (h1 : i < cs.length) : ∃ z, atI (cs.map V.int) i = some (.int z) := by
  obtain ⟨x, hx, e⟩ := at_in (xs := cs.map V.int) h0 (by rw [List.length_map]; exact h1)
  obtain ⟨z, _, rfl⟩ := List.mem_map.mp hx
  exact ⟨z, e⟩
/-- cells or [0] -/
theorem or_new {σ : L2.St} {Q : VK} {cs : List Int} (hS : SqL K H c (cs.map V.int)) (hl : cs.length ≤ 63)
    (k : ∀ c' cs' H', Same H H' → 0 < cs'.length → cs'.length ≤ 63 → SqL K H' c' (List.map V.int cs') → Q (.ref c') H') :
    ∃ b, TruV K (.ref c) H b ∧ if b = true then Q (.ref c) H else tLst (tCons (tC (.int 0)) tNil) σ H Q := by
  refine ⟨_, Or.inl ⟨_, hS, rfl⟩, ?_⟩
  cases cs with
  | nil =>
    refine iteF ?_
    refine ⟨(by show 1 ≤ sizeLine; decide), fun p hp => ?_⟩
    exact k p [0] _ (same_new hp) (by decide) (by decide) (SqL.of upd_same)
  | cons z r =>
    refine iteT ?_
    exact k c (z :: r) H (Same.refl H) (by simp) hl hS
end
/-! ### a draw -/
def spDraw : Sp := fun vs H Q _ => ∃ (t c : Addr) (m : Int) (n : Nat), vs = [.ref t, .int m] ∧ TapeAt H t c n ∧ (1 ≤ m ∧ m ≤ 1000000) ∧ n ≤ 1000000000 ∧
  ∀ (r : Int) (H' : Hp), (0 ≤ r ∧ r < m) → TapeAt H' t c (n + 1) → Fr [t] H H' → Q (.int r) H'
def spNone : Sp := fun _ _ _ _ => False
theorem pw18 : CPowG 10 18 := ⟨by decide, by decide +kernel⟩
theorem pw6e : (10 : Int) ^ (6 : Int).toNat = 1000000 := by decide
theorem pw6 : CPowG 10 6 := ⟨by decide, by decide +kernel⟩
theorem pw50 : CPowG 10 50 := ⟨by decide, by decide +kernel⟩
theorem pw60 : CPowG (10 ^ (50 : Int).toNat) 60 := ⟨by decide, by decide +kernel⟩
theorem pw10 : CPowG ((10 ^ (50 : Int).toNat) ^ (60 : Int).toNat) 10 := ⟨by decide, by decide +kernel⟩
def primes : List Int := [2147483647, 2147483629, 2147483587, 2147483579, 2147483563, 2147483549, 2147483543]
theorem prime_at {i : Int} (h0 : 0 ≤ i) (h1 : i < 7) : ∃ q : Int, atI (primes.map V.int) i = some (.int q) ∧ 1000000000 ≤ q ∧ q ≤ 2147483647 := by
  have hk : i.toNat < 7 := by omega
  have e : i = ((i.toNat : Nat) : Int) := by omega
  rw [e]
  generalize i.toNat = j at *
  match j, hk with
  | 0, _ => exact ⟨_, atI_nat rfl, by decide, by decide⟩
  | 1, _ => exact ⟨_, atI_nat rfl, by decide, by decide⟩
  | 2, _ => exact ⟨_, atI_nat rfl, by decide, by decide⟩
  | 3, _ => exact ⟨_, atI_nat rfl, by decide, by decide⟩
  | 4, _ => exact ⟨_, atI_nat rfl, by decide, by decide⟩
  | 5, _ => exact ⟨_, atI_nat rfl, by decide, by decide⟩
  | 6, _ => exact ⟨_, atI_nat rfl, by decide, by decide⟩
  | j + 7, h => exact absurd h (by omega)
theorem big_pos : (0 : Int) < ((10 ^ (50 : Int).toNat) ^ (60 : Int).toNat) ^ (10 : Int).toNat := Int.pow_pos (Int.pow_pos (Int.pow_pos (by decide)))
section
variable {P : Program} {w : World} {K : PySem.W.Frag} {mg : Str → Option Value} {base : Heap}
theorem ok_draw (D : Df K mg "_law_draw" s_law_draw ["_law_tape_here", "_law_many"]) (T : Txt K mg) : Cl P w K mg base 1 "_law_draw" spDraw := by
  have c_law_draw : Cl P w K mg base 0 "_law_draw" spNone := D.none fun _ _ _ _ h => h
  refine D.ok sc_law_draw (fun vs H Q E h => ?_) (fun f cdv A outer s H vs Q E hr h => ?_)
  · obtain ⟨t, c, m, n, rfl, _⟩ := h
    rfl
  obtain ⟨t, c, m, n, rfl, ⟨cs, s, l, ht, hcl, s0, sn, l0, h63⟩, ⟨m1, m6⟩, hn, k⟩ := h
  have hu := hu_of hr
  have hc : SqL K H c (cs.map V.int) := SqL.of hcl
  have ctn : c ∉ [t] := by simp only [List.mem_singleton]; exact ne_of hcl ht (by intro z; cases z)
  refine ⟨_, -- if _law_tape_here['left'] > 0:
    (pss_cons (ps_if (pt_cmpR op_gt (pe_dget hu (pv 0) pe_str (fun _ _ => rfl)) pe_int (nomark _))
      (pss_cons (ps_set (i := 2) sc_law_draw.nd rfl (Or.inl rfl) (pe_op op_mod (pe_dget hu (pv 0) pe_str (fun _ _ => rfl)) (pv 1)))
      (pss_cons (ps_dput hu (pv 0) pe_str (pe_op op_fdiv (pe_dget hu (pv 0) pe_str (fun _ _ => rfl)) (pv 1)) rfl)
      (pss_one (ps_ret (pv 2)))))
      pss_nil)
    (pss_cons (ps_set (i := 3) sc_law_draw.nd rfl (Or.inl rfl) (pe_dget hu (pv 0) pe_str (fun _ _ => rfl)))
    (pss_cons (ps_dput hu (pv 0) pe_str (pe_op op_add (pv 3) pe_int) rfl)
    (pss_cons (ps_set (i := 4) sc_law_draw.nd rfl (Or.inl rfl) (pe_orT (pe_dget hu (pv 0) pe_str (fun _ _ => rfl)) (pe_one (pe_lst (pa_cons pe_int pa_nil)))))
    (pss_cons (ps_set (i := 5) sc_law_draw.nd rfl (Or.inl rfl) (pe_ix ix_list (pv 4) (pe_op op_mod (pv 3) (pe_callB call_len_seq (by rfl) T.m_len PySem.boot_len (pa_cons (pv 4) pa_nil))) (fun _ _ => rfl)))
    (C8.pss_cut (ps_if (PW.pt (pw_and (pt_cmpR op_ge (pv 5) (pe_op op_powG pe_int pe_int) (nomark _)) (pw_and1 (pt_cmpR op_lt (pv 3) (pe_callB call_len_seq (by rfl) T.m_len PySem.boot_len (pa_cons (pv 4) pa_nil)) (nomark _)))))
      (pss_cons (ps_set (i := 6) sc_law_draw.nd rfl (Or.inl rfl) (pe_op op_mod (pe_op op_sub (pv 5) (pe_op op_powG pe_int pe_int)) (pe_op op_powG (pe_op op_powG (pe_op op_powG pe_int pe_int) pe_int) pe_int)))
      (pss_cons (ps_dput hu (pv 0) pe_str (pe_op op_fdiv (pv 6) (pv 1)) rfl)
      (pss_one (ps_ret (pe_op op_mod (pv 6) (pv 1))))))
      pss_nil)
    (pss_cons (ps_set (i := 7) sc_law_draw.nd rfl (Or.inl rfl) (pe_lst (pa_cons pe_int (pa_cons pe_int (pa_cons pe_int (pa_cons pe_int (pa_cons pe_int (pa_cons pe_int (pa_cons pe_int pa_nil)))))))))
    (pss_cons (ps_set (i := 8) sc_law_draw.nd rfl (Or.inl rfl) (pe_ix ix_list (pv 7) (pe_op op_mod (pv 3) pe_int) (fun _ _ => rfl)))
    (pss_cons (ps_set (i := 9) sc_law_draw.nd rfl (Or.inl rfl) (pe_op op_mod (pe_op op_add (pe_op op_add (pe_op op_add (pe_op op_mul (pe_op op_mod (pv 5) (pv 8)) pe_int) (pe_op op_mul (pe_op op_mul pe_int (pv 3)) (pv 3))) (pe_op op_mul pe_int (pv 3))) pe_int) (pv 8)))
    (pss_cons (ps_set (i := 9) sc_law_draw.nd rfl (Or.inl rfl) (pe_op op_mod (pe_op op_mul (pv 9) (pe_op op_add (pv 9) pe_int)) (pe_ix ix_list (pv 7) (pe_op op_mod (pe_op op_add (pv 3) pe_int) pe_int) (fun _ _ => rfl))))
    (pss_cons (ps_set (i := 2) sc_law_draw.nd rfl (Or.inl rfl) (pe_op op_fdiv (pe_op op_mod (pe_op op_mul (pv 9) (pv 9)) (pv 8)) pe_int))
    (pss_cons (ps_if (pt_cmpR op_gt (pv 1) (pe_op op_powG pe_int pe_int) (nomark _))
      (pss_one (ps_set (i := 2) sc_law_draw.nd rfl (Or.inl rfl) (pe_op op_add (pe_op op_mod (pv 2) (pe_op op_powG pe_int pe_int)) (pe_op op_mul (pe_op op_powG pe_int pe_int) (pe_cl c_law_draw (hr.mono (by first | decide | omega)) rfl (pa_cons (pv 0) (pa_cons (pe_op op_add (pe_op op_fdiv (pv 1) (pe_op op_powG pe_int pe_int)) pe_int) pa_nil)))))))
      pss_nil)
    (pss_one (ps_ret (pe_op op_mod (pv 2) (pv 1)))))))))))))))), ?_⟩
  refine ⟨_, rfl, t, _, rfl, tape_left ht, _, _, rfl, rfl, _, rfl, ?_⟩
  refine ite2 (fun p => ?_) (fun p => ?_)
  · have lp : 0 < l := of_decide_eq_true p
    refine ⟨_, rfl, t, _, rfl, tape_left ht, _, rfl, _, _, rfl, rfl, (by omega), ?_⟩
    refine ⟨_, rfl, t, _, rfl, tape_left ht, _, rfl, _, _, rfl, rfl, ⟨by omega, by omega⟩, _, rfl, t, _, rfl, tape_put_left ht, ?_⟩
    refine ⟨_, rfl, ?_⟩
    have f1 : Fr [t] H (upd H t (.dK (tapeD c s (l / m)))) := Fr.put (by simp)
    exact k _ _ ⟨Int.emod_nonneg _ (by omega), Int.emod_lt_of_pos _ (by omega)⟩ ⟨cs, s, l / m, upd_same, f1 _ _ hcl ctn, s0, by omega, Int.ediv_nonneg l0 (by omega), h63⟩ f1
  · -- spot
    refine ⟨_, rfl, t, _, rfl, tape_spot ht, ?_⟩
    refine ⟨_, rfl, _, _, rfl, rfl, _, rfl, t, _, rfl, tape_put_spot ht, ?_⟩
    have f1 : Fr [t] H (upd H t (.dK (tapeD c (s + 1) l))) := Fr.put (by simp)
    have ht1 : (upd H t (.dK (tapeD c (s + 1) l))) t = some (.dK (tapeD c (s + 1) l)) := upd_same
    have hc1 := sq_ne hc ht f1
    generalize (upd H t (.dK (tapeD c (s + 1) l))) = H1 at *
    refine ⟨_, rfl, t, _, rfl, tape_cells ht1, or_new hc1 h63 fun c2 cs2 H2 sm2 p2 l2 hc2 => ?_⟩
    have ht2 := sm2 _ _ ht1
    have hc12 := sm2.seq hc1
    have f2 := f1.trans (Fr.same sm2 _)
    have hl2 : (cs2.map V.int).length = cs2.length := List.length_map _
    have i0 : 0 ≤ s % (((cs2.map V.int).length : Nat) : Int) := Int.emod_nonneg _ (by omega)
    have i1 : s % (((cs2.map V.int).length : Nat) : Int) < (cs2.length : Int) := by
      rw [hl2]
      exact Int.emod_lt_of_pos _ (by omega)
    obtain ⟨cell, hcell⟩ := at_ints i0 i1
    refine ⟨_, rfl, _, rfl, _, rfl, c2, _, rfl, .inl hc2, _, _, rfl, rfl, (by rw [hl2]; omega), c2, _, _, _, rfl, rfl, hc2, hcell, ?_⟩
    refine ⟨fun σ' H' => σ' = [some (.ref t), some (.int m), none, some (.int s), some (.ref c2), some (.int cell), none, none, none, none] ∧ H' = H2, ?_, ?_⟩
    · refine ⟨_, rfl, _, _, rfl, rfl, pw18, _, _, rfl, rfl, _, rfl, ?_⟩
      refine ite2 (fun p3 => ?_) (fun p3 => ⟨rfl, rfl⟩)
      refine ⟨_, rfl, _, rfl, c2, _, rfl, .inl hc2, _, _, rfl, rfl, _, rfl, ?_⟩
      refine ite2 (fun p4 => ?_) (fun p4 => ⟨rfl, rfl⟩)
      refine ⟨_, rfl, _, _, rfl, rfl, pw18, _, _, rfl, rfl, _, _, rfl, rfl, pw50, _, _, rfl, rfl, pw60, _, _, rfl, rfl, pw10, _, _, rfl, rfl, big_pos, ?_⟩
      have g0 : 0 ≤ (cell - 10 ^ (18 : Int).toNat) % ((10 ^ (50 : Int).toNat) ^ (60 : Int).toNat) ^ (10 : Int).toNat := Int.emod_nonneg _ (Int.ne_of_gt big_pos)
      dsimp only
      generalize (cell - 10 ^ (18 : Int).toNat) % ((10 ^ (50 : Int).toNat) ^ (60 : Int).toNat) ^ (10 : Int).toNat = gr at *
      refine ⟨_, rfl, _, rfl, _, _, rfl, rfl, ⟨by omega, by omega⟩, _, rfl, t, _, rfl, tape_put_left ht2, ?_⟩
      refine ⟨_, rfl, _, rfl, _, _, rfl, rfl, (by omega), ?_⟩
      have f3 : Fr [t] H2 (upd H2 t (.dK (tapeD c (s + 1) (gr / m)))) := Fr.put (by simp)
      exact k _ _ ⟨Int.emod_nonneg _ (by omega), Int.emod_lt_of_pos _ (by omega)⟩ ⟨cs, s + 1, gr / m, upd_same, (f2.trans f3) _ _ hcl ctn, by omega, by omega, Int.ediv_nonneg g0 (by omega), h63⟩ (f2.trans f3)
    · rintro σ' H' ⟨rfl, rfl⟩
      refine ⟨(by show 7 ≤ sizeLine; decide), fun pr hpr => ?_⟩
      have sm3 := same_new (o := .lst [V.int 2147483647, .int 2147483629, .int 2147483587, .int 2147483579, .int 2147483563, .int 2147483549, .int 2147483543]) hpr
      have hP : SqL K (upd H' pr (.lst [V.int 2147483647, .int 2147483629, .int 2147483587, .int 2147483579, .int 2147483563, .int 2147483549, .int 2147483543])) pr (primes.map V.int) := SqL.of upd_same
      have ht3 := sm3 _ _ ht2
      have hc3 := sm3.seq hc12
      have f3 := f2.trans (Fr.same sm3 _)
      generalize (upd H' pr (.lst [V.int 2147483647, .int 2147483629, .int 2147483587, .int 2147483579, .int 2147483563, .int 2147483549, .int 2147483543])) = H3 at *
      obtain ⟨q1, a1, b1, c1⟩ := prime_at (i := s % 7) (Int.emod_nonneg _ (by decide)) (Int.emod_lt_of_pos _ (by decide))
      refine ⟨_, rfl, _, rfl, _, _, rfl, rfl, (by show (0 : Int) < 7; decide), pr, _, _, _, rfl, rfl, hP, a1, ?_⟩
      have e0 : 0 ≤ cell % q1 := Int.emod_nonneg _ (by omega)
      have e1 : cell % q1 < q1 := Int.emod_lt_of_pos _ (by omega)
      refine ⟨_, rfl, _, rfl, _, _, rfl, rfl, (by omega), _, _, rfl, rfl, .inr ⟨by decide, by decide⟩, _, rfl, _, _, rfl, rfl, .inl ⟨by decide, by decide⟩, _, rfl, _, _, rfl, rfl, .inr ⟨by omega, by omega⟩, _, _, rfl, rfl, _, rfl, _, _, rfl, rfl, .inl ⟨by decide, by decide⟩, _, _, rfl, rfl, _, _, rfl, rfl, _, rfl, _, _, rfl, rfl, (by omega), ?_⟩
      dsimp only
      generalize hsd : (cell % q1 * 48271 + 7919 * s * s + 69621 * s + 1) % q1 = sd
      have d0 : 0 ≤ sd := by rw [← hsd]; exact Int.emod_nonneg _ (by omega)
      have d1 : sd < q1 := by rw [← hsd]; exact Int.emod_lt_of_pos _ (by omega)
      obtain ⟨q2, a2, b2, c2'⟩ := prime_at (i := (s + 3) % 7) (Int.emod_nonneg _ (by decide)) (Int.emod_lt_of_pos _ (by decide))
      refine ⟨_, rfl, _, rfl, _, _, rfl, rfl, _, _, rfl, rfl, .inl ⟨by omega, by omega⟩, _, rfl, _, rfl, _, _, rfl, rfl, _, _, rfl, rfl, (by show (0 : Int) < 7; decide), pr, _, _, _, rfl, rfl, hP, a2, _, _, rfl, rfl, (by omega), ?_⟩
      dsimp only
      generalize hse : sd * (sd + 16807) % q2 = se
      have e2 : 0 ≤ se := by rw [← hse]; exact Int.emod_nonneg _ (by omega)
      have e3 : se < q2 := by rw [← hse]; exact Int.emod_lt_of_pos _ (by omega)
      refine ⟨_, rfl, _, rfl, _, _, rfl, rfl, .inl ⟨by omega, by omega⟩, _, rfl, _, _, rfl, rfl, (by omega), _, _, rfl, rfl, ⟨by decide, by decide⟩, ?_⟩
      dsimp only
      generalize se * se % q1 / 64 = fo
      refine ⟨_, rfl, _, _, rfl, rfl, pw6, _, _, rfl, rfl, _, rfl, ?_⟩
      refine ite2 (fun p5 => absurd (of_decide_eq_true p5) (by rw [pw6e]; omega)) (fun p5 => ?_)
      refine ⟨_, rfl, _, rfl, _, _, rfl, rfl, (by omega), ?_⟩
      exact k _ _ ⟨Int.emod_nonneg _ (by omega), Int.emod_lt_of_pos _ (by omega)⟩ ⟨cs, s + 1, l, ht3, f3 _ _ hcl ctn, by omega, by omega, l0, h63⟩ f3
end
end SG
namespace SG
open PySem PySem.Spec PyProof.Rows L2
section
variable {K : PySem.W.Frag} {H H' H1 : Hp} {t c p : Addr} {n m : Nat}
theorem Fr.one {S : List Addr} {o : HO} (f : Fr S H H') (h : H p = some o) (hn : p ∉ S) : H' p = some o := f p o h hn
theorem TapeAt.ne_new (h : TapeAt H t c n) (hp : H p = none) : p ≠ t := by
  obtain ⟨kvs, e⟩ := h.is
  exact fun z => by rw [z, e] at hp; cases hp
theorem TapeAt.ne_lst {xs : List V} (h : TapeAt H t c n) (hp : H p = some (.lst xs)) : p ≠ t := by
  obtain ⟨kvs, e⟩ := h.is
  exact ne_of hp e (by intro z; cases z)
theorem TapeAt.ne_tup {xs : List V} (h : TapeAt H t c n) (hp : H p = some (.tup xs)) : p ≠ t := by
  obtain ⟨kvs, e⟩ := h.is
  exact ne_of hp e (by intro z; cases z)
theorem not_in_one {a b : Addr} (h : a ≠ b) : a ∉ [b] := by simpa using h
theorem sl1000 {n : Nat} (h : n ≤ 1000) : n ≤ sizeLine := Nat.le_of_lt (small1000 h)
theorem TapeAt.ne_newc (h : TapeAt H t c n) (hp : H p = none) : p ≠ c := by
  obtain ⟨cs, s, l, h1, h2, h3, h4, h5, h6⟩ := h
  exact fun z => by rw [z, h2] at hp; cases hp
theorem TapeAt.ne_tupc {xs : List V} (h : TapeAt H t c n) (hp : H p = some (.tup xs)) : p ≠ c := by
  obtain ⟨cs, s, l, h1, h2, h3, h4, h5, h6⟩ := h
  exact ne_of hp h2 (by intro z; cases z)
theorem TapeAt.ne_dctc {xs : List (Key × V)} (h : TapeAt H t c n) (hp : H p = some (.dK xs)) : p ≠ c := by
  obtain ⟨cs, s, l, h1, h2, h3, h4, h5, h6⟩ := h
  exact ne_of hp h2 (by intro z; cases z)
theorem TapeAt.put {o : HO} (h : TapeAt H t c n) (h1 : p ≠ t) (h2 : p ≠ c) : TapeAt (upd H p o) t c n := by
  obtain ⟨cs, s, l, e1, e2, r⟩ := h
  exact ⟨cs, s, l, by rw [upd_ne h1.symm]; exact e1, by rw [upd_ne h2.symm]; exact e2, r⟩
/-- [..][_law_draw(tape, m)], the list new -/
theorem pick_draw {xs : List V} {i : Int} {Q : VK} (hT : TapeAt H t c n) (hn : n ≤ 1000000000) (hm : i = (xs.length : Int)) (hx : 1 ≤ xs.length ∧ xs.length ≤ 1000)
    (k : ∀ v H', v ∈ xs → TapeAt H' t c (n + 1) → Fr [t] H H' → Q v H') : ∀ p, H p = none → spDraw [.ref t, .int i] (upd H p (.lst xs)) (fun y H2 => rIxL K (.ref p) y H2 Q) E0 := by
  intro p hp
  have pt := hT.ne_new hp
  have sm := same_new (o := .lst xs) hp
  have hh : (upd H p (.lst xs)) p = some (.lst xs) := upd_same
  generalize upd H p (.lst xs) = Hx at *
  refine ⟨t, c, i, n, rfl, hT.same sm, ⟨by omega, by omega⟩, hn, fun r H' hr T' F' => ?_⟩
  obtain ⟨v, hv, e⟩ := at_in (xs := xs) hr.1 (by omega)
  exact ⟨p, xs, r, v, rfl, rfl, SqL.of (F' _ _ hh (not_in_one pt)), e, k v H' hv T' ((Fr.same sm _).trans F')⟩
end
end SG
namespace SG
open PySem PySem.Spec PyProof.Rows L2
section
variable {K : PySem.W.Frag} {H H' H1 H2 : Hp} {t c p : Addr} {n m : Nat}
theorem ne_fresh {o : HO} (h : H c = some o) (hp : H p = none) : p ≠ c := (ne_of_none h hp).symm
theorem Fr.fresh {S : List Addr} (f : Fr S H H1) (hp : H1 p = none) (hn : p ∉ S) : H p = none := by
  cases e : H p with
  | none => rfl
  | some o => rw [f _ _ e hn] at hp; cases hp
theorem Fr.upd_new {o : HO} {S : List Addr} (a : Fr S H H1) (b : Fr S H1 H2) (hp : H p = none) : Fr S H (upd H2 p o) := fun q u e n => by
  rw [L2.upd_ne (ne_of_none e hp)]
  exact b _ _ (a _ _ e n) n
theorem flat_strs : ∀ ws : List Str, (ws.map V.str).all flatV = true
  | [] => rfl
  | _ :: r => by
    rw [List.map_cons, List.all_cons, flat_strs r]
    rfl
theorem sum_ones : ∀ {ys : List Str}, (∀ z ∈ ys, z.length = 1) → (ys.map (·.length)).sum = ys.length
  | [], _ => rfl
  | y :: r, h => by
    rw [List.map_cons, List.sum_cons, List.length_cons, sum_ones (fun z hz => h z (List.mem_cons_of_mem _ hz)), h y List.mem_cons_self]
    omega
end
/-! ### words -/
abbrev alphabet : Str := "abcdefghijklmnopqrstuvwxyz"
abbrev ownS : Str := "tap press pull part ear hear stop back"
theorem alpha_len : alphabet.cps.toList.length = 26 := by decide +kernel
theorem alpha_size : alphabet.cps.size = 26 := by decide +kernel
theorem alpha_small : alphabet.length ≤ sizeLine := by decide +kernel
theorem own_len : (Txt.split ownS " ").length = 8 := by decide +kernel
theorem own_small : ∀ z ∈ Txt.split ownS " ", z.length ≤ 8 := by decide +kernel
theorem len_cut8 (z : Str) : (cutS z none (some 8)).length ≤ 8 := by
  show (Array.size _) ≤ 8
  unfold cutS
  simp only [List.size_toArray, List.length_take]
  have e : HT.sIx z.length z.length (some 8) = min 8 z.length := HT.sIx_nat _ _ 8
  rw [e]
  omega
theorem len_cut7 (z : Str) : (cutS z none (some 7)).length ≤ 7 := by
  show (Array.size _) ≤ 7
  unfold cutS
  simp only [List.size_toArray, List.length_take]
  have e : HT.sIx z.length z.length (some 7) = min 7 z.length := HT.sIx_nat _ _ 7
  rw [e]
  omega
theorem len_cut1 (z : Str) : (cutS z (some 1) none).length + 1 ≤ max z.length 1 := by
  show (Array.size _) + 1 ≤ _
  unfold cutS
  have hz : z.cps.toList.length = z.length := by simp [Str.length]
  simp only [List.size_toArray, List.length_take, List.length_drop, hz]
  have e : HT.sIx z.length 0 (some 1) = min 1 z.length := HT.sIx_nat _ _ 1
  rw [e, HT.sIx_none]
  omega
theorem len_add (a b : Str) : (a ++ b).length = a.length + b.length := Str.length_append ..
theorem len_sign (c : Nat) : (⟨#[c]⟩ : Str).length = 1 := rfl
theorem sz {n : Nat} (h : n ≤ 100000) : n ≤ sizeLine := Nat.le_trans h (by decide)
def spWords : Sp := fun vs H Q _ => ∃ (t c : Addr) (m n : Nat), vs = [.ref t, .int m] ∧ TapeAt H t c n ∧ m ≤ 50 ∧ n ≤ 100000000 ∧
  ∀ (p : Addr) (ws : List Str) (H' : Hp), H p = none → H' p = some (.lst (ws.map V.str)) → ws.length = m → ws.Nodup → TapeAt H' t c (n + 200) → Fr [t] H H' → Q (.ref p) H'
section
variable {P : Program} {w : World} {K : PySem.W.Frag} {mg : Str → Option Value} {base : Heap}
theorem ok_words (D : Df K mg "_law_words" s_law_words ["_law_tape_here", "_law_many"]) (T : Txt K mg) (c_law_draw : Cl P w K mg base 1 "_law_draw" spDraw) : Cl P w K mg base 2 "_law_words" spWords := by
  refine D.ok sc_law_words (fun vs H Q E h => ?_) (fun f cdv A outer s H vs Q E hr h => ?_)
  · obtain ⟨t, c, m, n, rfl, _⟩ := h
    rfl
  obtain ⟨t, c, m, n, rfl, hT, hm, hn, k⟩ := h
  have hu := hu_of hr
  refine ⟨_, -- _law_letters = 'abcdefghijklmnopqrstuvwxyz'
    (pss_cons (ps_set (i := 2) sc_law_words.nd rfl (Or.inr rfl) pe_str)
    (pss_cons (ps_set (i := 3) sc_law_words.nd rfl (Or.inl rfl) (pe_split pe_str pe_str))
    (pss_cons (ps_set (i := 5) sc_law_words.nd rfl (Or.inl rfl) (pe_join pe_str (pe_lc (own := [("_law_k", 4)]) rfl sc_law_words.nd (pi_range1 rfl T.m_range (pa_cons (pe_op op_add pe_int (pe_cl c_law_draw (hr.mono (by first | decide | omega)) rfl (pa_cons (pv 0) (pa_cons pe_int pa_nil)))) pa_nil)) (blkOk_by (N := N_law_words) (sc := defScope s_law_words) (by decide +kernel)) (fun _ _ _ _ _ => (pg_name (i := 4) sc_law_words.nd rfl (Or.inl rfl))) (fun _ _ _ _ _ => pts_nil) (fun _ _ _ _ _ => (pe_ix ix_str (pv 2) (pe_cl c_law_draw (hr.mono (by first | decide | omega)) rfl (pa_cons (pv 0) (pa_cons pe_int pa_nil))) (fun _ _ => rfl))))))
    (pss_cons (ps_set (i := 6) sc_law_words.nd rfl (Or.inl rfl) (pe_lst pa_nil))
    (pss_cons (ps_for PassesOwn.never rfl (pi_range1 rfl T.m_range (pa_cons (pv 1) pa_nil)) (pg_name (i := 4) sc_law_words.nd rfl (Or.inl rfl))
      (pss_cons (ps_set (i := 7) sc_law_words.nd rfl (Or.inl rfl) (pe_ix ix_str (pv 2) (pe_cl c_law_draw (hr.mono (by first | decide | omega)) rfl (pa_cons (pv 0) (pa_cons pe_int pa_nil))) (fun _ _ => rfl)))
      (pss_cons (ps_set (i := 8) sc_law_words.nd rfl (Or.inl rfl) (pe_lst (pa_cons (pv 5) (pa_cons (pe_op op_add_str (pv 5) (pv 7)) (pa_cons (pe_op op_add_str (pv 7) (pv 5)) (pa_cons (pv 7) (pa_cons (pe_op op_add_str (pe_op op_add_str (pv 5) (pv 7)) (pv 7)) (pa_cons (pe_ix ix_list (pv 3) (pe_cl c_law_draw (hr.mono (by first | decide | omega)) rfl (pa_cons (pv 0) (pa_cons pe_int pa_nil))) (fun _ _ => rfl)) pa_nil))))))))
      (pss_cons (ps_set (i := 9) sc_law_words.nd rfl (Or.inl rfl) (pe_slice sl_str (pe_ix ix_list (pv 8) (pe_cl c_law_draw (hr.mono (by first | decide | omega)) rfl (pa_cons (pv 0) (pa_cons pe_int pa_nil))) (fun _ _ => rfl)) po_none (po_some pe_int)))
      (pss_cons (ps_for PassesOwn.never rfl (pi_str (pv 2)) (pg_name (i := 10) sc_law_words.nd rfl (Or.inl rfl))
        (pss_one (ps_if (pt_cmpR op_in_seq (pv 9) (pv 6) (by with_unfolding_all rfl))
          (pss_one (ps_set (i := 9) sc_law_words.nd rfl (Or.inl rfl) (pe_op op_add_str (pe_slice sl_str (pv 9) po_none (po_some pe_int)) (pv 10))))
          pss_nil)))
      (pss_cons (ps_for PassesOwn.never rfl (pi_str (pv 2)) (pg_name (i := 10) sc_law_words.nd rfl (Or.inl rfl))
        (pss_one (ps_if (pt_cmpR op_in_seq (pv 9) (pv 6) (by with_unfolding_all rfl))
          (pss_one (ps_set (i := 9) sc_law_words.nd rfl (Or.inl rfl) (pe_op op_add_str (pv 10) (pe_slice sl_str (pv 9) (po_some pe_int) po_none))))
          pss_nil)))
      (pss_one (ps_expr (pe_bm PySem.F.plainAttrs_list PySem.F.slot_list_append PySem.F.type_list_append mt_append (pv 6) (pa_cons (pv 9) pa_nil))))))))))
    (pss_one (ps_ret (pv 6)))))))), ?_⟩
  refine ⟨⟨_, rfl⟩, _, _, rfl, rfl, rfl, (by decide +kernel), ?_⟩
  refine alloc fun ow H1 ow0 how sm1 _ => ?_
  have f1 := Fr.same sm1 [t]
  have T1 := hT.same sm1
  have owt := hT.ne_new ow0
  clear sm1
  refine ⟨⟨_, rfl⟩, ?_⟩
  refine ⟨_, rfl, t, c, 6, n, rfl, T1, ⟨by decide, by decide⟩, by omega, fun r H2 hr2 T2 f2 => ?_⟩
  refine ⟨_, _, rfl, rfl, _, rfl, (by show -(2 ^ 62) ≤ 1 + r; omega), (by show 1 + r < 2 ^ 62; omega), fun dd hdd => ?_⟩
  have f12 := f1.trans f2
  have how2 := f2 _ _ how (not_in_one owt)
  have hd0 : H2 dd = none := hdd
  refine lc_range (n := (1 + r).toNat) (fun i Hx => ∃ ys : List Str, Hx dd = some (.lst (ys.map V.str)) ∧ (∀ z ∈ ys, z.length = 1) ∧ ys.length = i ∧ TapeAt Hx t c (n + 1 + i) ∧ Fr [t] H2 Hx) ?_ ?_ ?_
  · exact ⟨[], upd_same, by simp, rfl, T2.same (same_new hdd), Fr.new hdd⟩
  · rintro i Hx hi ⟨ys, h1, h2, h3, Tx, fx⟩
    refine ⟨rfl, ?_⟩
    refine ⟨_, rfl, _, rfl, t, c, 26, n + 1 + i, rfl, Tx, ⟨by decide, by decide⟩, by omega, fun r3 H3 hr3 T3 f3 => ?_⟩
    obtain ⟨cc, hcc, e⟩ := at_in (xs := alphabet.cps.toList) hr3.1 (by rw [alpha_len]; exact hr3.2)
    refine ⟨_, _, cc, rfl, rfl, alpha_small, e, ys.map V.str, f3 _ _ h1 (not_in_one (Tx.ne_lst h1)), (by rw [List.length_map]; exact Nat.lt_of_lt_of_le (by omega : ys.length < 7) (by decide)), ?_⟩
    refine ⟨ys ++ [⟨#[cc]⟩], by rw [upd_same, List.map_append]; rfl, fun z hz => ?_, by simp [h3], (T3.put (T2.ne_new hd0) (T2.ne_newc hd0)).mono (by omega), fx.upd_new f3 hd0⟩
    rcases List.mem_append.mp hz with hz | hz
    · exact h2 z hz
    · rw [List.mem_singleton.mp hz]; rfl
  rintro Hx ⟨ys, h1, h2, h3, Tx, fx⟩
  have hy : (ys.map (·.length)).sum = ys.length := sum_ones h2
  refine ⟨_, dd, ys, rfl, rfl, .inl (SqL.of h1), (by rw [hy]; show _ + ys.length * 0 ≤ _; omega), ?_⟩
  have hb2 : (Txt.join "" ys).length ≤ 7 := by
    show (Builtin.Str.glued "" ys).length ≤ 7
    rw [StrLaws.glued_eq_join]
    refine Nat.le_trans (StrLaws.join_length_le "" ys) ?_
    rw [hy]
    show _ + ys.length * 0 ≤ _
    omega
  generalize Txt.join "" ys = bs at *
  have f3 := f12.trans fx
  have how3 := fx _ _ how2 (not_in_one owt)
  clear hdd h1 h2 h3 hy
  refine ⟨(by show 0 ≤ sizeLine; decide), ?_⟩
  refine alloc fun fo H3 hfo hfo3 sm3 _ => ?_
  have T3 := Tx.same sm3
  have f4 := f3.trans (Fr.same sm3 _)
  have how4 := sm3 _ _ how3
  have fot := Tx.ne_new hfo
  have foc := Tx.ne_newc hfo
  have foo : fo ≠ ow := fun z => by rw [z, how3] at hfo; cases hfo
  have fo0 : H fo = none := by
    cases e : H fo with
    | none => rfl
    | some o => rw [f3 _ _ e (not_in_one fot)] at hfo; cases hfo
  refine ⟨_, rfl, m, rfl, (by omega), (by omega), for_range (n := (m : Int).toNat) (fun i σ Hy => ∃ (k7 k8 k9 k10 : Option V) (ws : List Str) (kk : Option V), σ = [some (.ref t), some (.int m), some (.str alphabet), some (.ref ow), kk, some (.str bs), some (.ref fo), k7, k8, k9, k10] ∧ Hy fo = some (.lst (ws.map V.str)) ∧ ws.length = i ∧ ws.Nodup ∧ Hy ow = some (.lst ((Txt.split ownS " ").map V.str)) ∧ TapeAt Hy t c (n + 8 + 3 * i) ∧ Fr [t] H Hy) ?_ ?_ ?_⟩
  · exact ⟨none, none, none, none, [], none, rfl, hfo3, rfl, List.nodup_nil, how4, T3.mono (by omega), f4⟩
  · rintro i σ Hy hi ⟨k7, k8, k9, k10, ws, kk, rfl, hw1, hw2, nd0, how5, Ty, fy⟩
    refine ⟨_, rfl, _, rfl, t, c, 26, _, rfl, Ty, ⟨by decide, by decide⟩, by omega, fun r4 H4 hr4 T4 f4 => ?_⟩
    obtain ⟨cc, hcc, e4⟩ := at_in (xs := alphabet.cps.toList) hr4.1 (by rw [alpha_len]; exact hr4.2)
    refine ⟨_, _, cc, rfl, rfl, alpha_small, e4, ?_⟩
    have how6 := f4 _ _ how5 (not_in_one owt)
    have hw3 := f4 _ _ hw1 (not_in_one fot)
    refine ⟨_, rfl, _, rfl, _, rfl, _, _, rfl, rfl, sz (by rw [len_sign]; omega), _, rfl, _, rfl, _, _, rfl, rfl, sz (by rw [len_sign]; omega), _, rfl, _, rfl, _, rfl, _, _, rfl, rfl, sz (by rw [len_sign]; omega), _, rfl, _, _, rfl, rfl, sz (by rw [len_add, len_sign]; omega), _, rfl, _, rfl, t, c, 8, _, rfl, T4, ⟨by decide, by decide⟩, by omega, fun r5 H5 hr5 T5 f5 => ?_⟩
    have how7 := f5 _ _ how6 (not_in_one owt)
    have hw4 := f5 _ _ hw3 (not_in_one fot)
    obtain ⟨vo, hvo, e5⟩ := at_in (xs := (Txt.split ownS " ").map V.str) hr5.1 (by rw [List.length_map, own_len]; exact hr5.2)
    obtain ⟨zo, hzo, rfl⟩ := List.mem_map.mp hvo
    refine ⟨ow, _, _, _, rfl, rfl, SqL.of how7, e5, (by show 6 ≤ sizeLine; decide), fun p hp => ?_⟩
    have pfo : p ≠ fo := ne_fresh hw4 hp
    have six := same_new (o := .lst [.str bs, .str (bs ++ ⟨#[cc]⟩), .str (⟨#[cc]⟩ ++ bs), .str ⟨#[cc]⟩, .str (bs ++ ⟨#[cc]⟩ ++ ⟨#[cc]⟩), .str zo]) hp
    have hp1 : (upd H5 p (.lst [.str bs, .str (bs ++ ⟨#[cc]⟩), .str (⟨#[cc]⟩ ++ bs), .str ⟨#[cc]⟩, .str (bs ++ ⟨#[cc]⟩ ++ ⟨#[cc]⟩), .str zo])) p = _ := upd_same
    have T6 := T5.same six
    have pt := T5.ne_new hp
    have hw5 := six _ _ hw4
    have how8 := six _ _ how7
    have f6 := (fy.trans (f4.trans f5)).trans (Fr.same six _)
    generalize (upd H5 p (.lst [.str bs, .str (bs ++ ⟨#[cc]⟩), .str (⟨#[cc]⟩ ++ bs), .str ⟨#[cc]⟩, .str (bs ++ ⟨#[cc]⟩ ++ ⟨#[cc]⟩), .str zo])) = H6 at *
    refine ⟨_, rfl, _, rfl, t, c, 6, _, rfl, T6, ⟨by decide, by decide⟩, by omega, fun r7 H7 hr7 T7 f7 => ?_⟩
    have hp2 := f7 _ _ hp1 (not_in_one pt)
    have hw6 := f7 _ _ hw5 (not_in_one fot)
    have how9 := f7 _ _ how8 (not_in_one owt)
    have f8 := f6.trans f7
    obtain ⟨v7, hv7, e7⟩ := at_in (xs := [V.str bs, .str (bs ++ ⟨#[cc]⟩), .str (⟨#[cc]⟩ ++ bs), .str ⟨#[cc]⟩, .str (bs ++ ⟨#[cc]⟩ ++ ⟨#[cc]⟩), .str zo]) hr7.1 hr7.2
    have hz : ∃ z : Str, v7 = .str z ∧ z.length ≤ 100 := by
      have l1 := len_sign cc
      have l2 := len_add bs ⟨#[cc]⟩
      have l3 := len_add ⟨#[cc]⟩ bs
      have l4 := len_add (bs ++ ⟨#[cc]⟩) ⟨#[cc]⟩
      have l5 := own_small zo hzo
      simp only [List.mem_cons, List.not_mem_nil, or_false] at hv7
      rcases hv7 with rfl | rfl | rfl | rfl | rfl | rfl
      all_goals exact ⟨_, rfl, by omega⟩
    obtain ⟨z7, rfl, hz7⟩ := hz
    refine ⟨p, _, _, _, rfl, rfl, SqL.of hp2, e7, _, rfl, z7, rfl, sz (by omega), ?_⟩
    have l8 := len_cut8 z7
    generalize cutS z7 none (some 8) = w0 at *
    refine ⟨_, rfl, alphabet, rfl, for_it walk_str (fun j σ Hz => Hz = H7 ∧ ∃ (w1 : Str) (x10 : Option V), σ = [some (.ref t), some (.int m), some (.str alphabet), some (.ref ow), some (.int (0 + i)), some (.str bs), some (.ref fo), some (.str ⟨#[cc]⟩), some (.ref p), some (.str w1), x10] ∧ w1.length ≤ 8 ∧ sl w1 = runW SG.f1 (ws.map sl) ((sl abc).take j) (sl w0)) ⟨rfl, w0, _, rfl, l8, rfl⟩ (fun _ _ _ _ _ => trivial) ?_ ?_⟩
    · rintro j x σ Hz Hz' hj ⟨rfl, w1, x10, rfl, hw, hr1⟩ ⟨rfl, c1, hc1, rfl⟩
      have st := run_step (f := SG.f1) (W := ws.map sl) (z := sl w0) (cps_at hc1)
      rw [← hr1] at st
      refine ⟨_, rfl, _, rfl, fo, _, rfl, .inl (SqL.of hw6), rfl, flat_strs ws, _, rfl, ?_⟩
      refine ite2 (fun pin => ?_) (fun pin => ?_)
      · rw [if_pos (inV_word.mp pin)] at st
        refine ⟨_, rfl, _, rfl, w1, rfl, sz (by omega), _, rfl, _, _, rfl, rfl, sz (by rw [len_sign]; have := len_cut7 w1; omega), rfl, _, _, rfl, ?_, by rw [sl_cut7]; exact st.symm⟩
        rw [len_add, len_sign]
        have := len_cut7 w1
        omega
      · rw [if_neg (fun h => pin (inV_word.mpr h))] at st
        exact ⟨rfl, w1, _, rfl, hw, st.symm⟩
    rintro σ Hz ⟨rfl, w1, x11, rfl, hw1', hr1⟩
    refine ⟨_, rfl, alphabet, rfl, for_it walk_str (fun j σ Hz' => Hz' = Hz ∧ ∃ (w2 : Str) (x10 : Option V), σ = [some (.ref t), some (.int m), some (.str alphabet), some (.ref ow), some (.int (0 + i)), some (.str bs), some (.ref fo), some (.str ⟨#[cc]⟩), some (.ref p), some (.str w2), x10] ∧ w2.length ≤ 8 ∧ sl w2 = runW SG.f2 (ws.map sl) ((sl abc).take j) (sl w1)) ⟨rfl, w1, _, rfl, hw1', rfl⟩ (fun _ _ _ _ _ => trivial) ?_ ?_⟩
    · rintro j x σ Hz2 Hz' hj ⟨rfl, w2, x10, rfl, hw, hr2⟩ ⟨rfl, c1, hc1, rfl⟩
      have st := run_step (f := SG.f2) (W := ws.map sl) (z := sl w1) (cps_at hc1)
      rw [← hr2] at st
      refine ⟨_, rfl, _, rfl, fo, _, rfl, .inl (SqL.of hw6), rfl, flat_strs ws, _, rfl, ?_⟩
      refine ite2 (fun pin => ?_) (fun pin => ?_)
      · rw [if_pos (inV_word.mp pin)] at st
        refine ⟨_, rfl, _, rfl, _, rfl, w2, rfl, sz (by omega), _, _, rfl, rfl, sz (by rw [len_sign]; have := len_cut1 w2; omega), rfl, _, _, rfl, ?_, by rw [sl_cut1]; exact st.symm⟩
        rw [len_add, len_sign]
        have := len_cut1 w2
        omega
      · rw [if_neg (fun h => pin (inV_word.mpr h))] at st
        exact ⟨rfl, w2, _, rfl, hw, st.symm⟩
    rintro σ Hz2 ⟨rfl, w2, x11, rfl, hw2', hr2⟩
    replace hr1 : sl w1 = runW SG.f1 (ws.map sl) (sl abc) (sl w0) := by rw [← abc_take]; exact hr1
    replace hr2 : sl w2 = runW SG.f2 (ws.map sl) (sl abc) (sl w1) := by rw [← abc_take]; exact hr2
    have nin : w2 ∉ ws := by
      rw [← sl_mem, hr2, hr1]
      exact word_new (by omega)
    have ndw : (ws ++ [w2]).Nodup := List.nodup_append.mpr ⟨nd0, by simp, fun a ha b hb e => nin (by rw [← List.mem_singleton.mp hb, ← e]; exact ha)⟩
    refine ⟨_, rfl, .inl ⟨rfl, _, .inl (.inl hw6)⟩, _, rfl, fo, _, _, rfl, rfl, hw6, (by rw [List.length_map]; exact Nat.lt_of_lt_of_le (by omega : ws.length < 100000) (by decide)), ?_⟩
    refine ⟨_, _, _, _, ws ++ [w2], _, rfl, by rw [upd_same, List.map_append]; rfl, by simp [hw2], ndw, by rw [L2.upd_ne foo.symm]; exact how9, (T7.put fot foc).mono (by omega), f8.upd_new (Fr.refl _ _) fo0⟩
  · rintro σ Hy ⟨k7, k8, k9, k10, ws, kk, rfl, hw1, hw2, nd0, how5, Ty, fy⟩
    refine ⟨_, rfl, ?_⟩
    exact k fo ws Hy fo0 hw1 (by omega) nd0 (Ty.mono (by omega)) fy
end
end SG
namespace SG
open PySem PySem.Spec PyProof.Rows L2
/-! ### data made of tuples, of bounded depth -/
def ImD (H : Hp) (n : Nat) (v : V) : Prop := ∃ d : PyData, Im H v d ∧ d.depth ≤ n
def ImDs (H : Hp) (n : Nat) (vs : List V) : Prop := ∀ v ∈ vs, ImD H n v
section
variable {H H' : Hp} {n m : Nat} {v : V} {vs ws : List V} {a p : Addr}
theorem ImD.tp (h : ImD H n v) (t : Tp H H') : ImD H' n v := by
  obtain ⟨d, h1, h2⟩ := h
  exact ⟨d, h1.tp t, h2⟩
theorem ImDs.tp (h : ImDs H n vs) (t : Tp H H') : ImDs H' n vs := fun v hv => (h v hv).tp t
theorem ImD.mono (h : ImD H n v) (q : n ≤ m) : ImD H m v := by
  obtain ⟨d, h1, h2⟩ := h
  exact ⟨d, h1, Nat.le_trans h2 q⟩
theorem ImD.int (i : Int) : ImD H n (.int i) := ⟨.int i, .int i, Nat.zero_le _⟩
theorem ImD.str (x : Str) : ImD H n (.str x) := ⟨.str x, .str x, Nat.zero_le _⟩
theorem ImD.non : ImD H n .non := ⟨.none, .non, Nat.zero_le _⟩
theorem ImDs.nil : ImDs H n [] := fun v hv => nomatch hv
theorem ImDs.cons (h : ImD H n v) (t : ImDs H n vs) : ImDs H n (v :: vs) := fun w hw => by
  rcases List.mem_cons.mp hw with rfl | hw
  · exact h
  · exact t w hw
theorem ImDs.snoc (t : ImDs H n vs) (h : ImD H n v) : ImDs H n (vs ++ [v]) := fun w hw => by
  rcases List.mem_append.mp hw with hw | hw
  · exact t w hw
  · rw [List.mem_singleton.mp hw]; exact h
theorem ImDs.append (t : ImDs H n vs) (h : ImDs H n ws) : ImDs H n (vs ++ ws) := fun w hw => by
  rcases List.mem_append.mp hw with hw | hw
  · exact t w hw
  · exact h w hw
theorem ImDs.all : ∀ {vs : List V}, ImDs H n vs → ∃ ds, ImAll H vs ds ∧ PyData.depthAll ds ≤ n
  | [], _ => ⟨[], .nil, Nat.zero_le _⟩
  | v :: vs, h => by
    obtain ⟨d, h1, h2⟩ := h v List.mem_cons_self
    obtain ⟨ds, h3, h4⟩ := ImDs.all (fun w hw => h w (List.mem_cons_of_mem _ hw))
    exact ⟨d :: ds, .cons h1 h3, by show max _ _ ≤ n; omega⟩
theorem ImD.tup (h : ImDs H n vs) (e : H a = some (.tup vs)) : ImD H (n + 1) (.ref a) := by
  obtain ⟨ds, h1, h2⟩ := h.all
  exact ⟨.tuple ds, .tup e h1, by show PyData.depthAll ds + 1 ≤ n + 1; omega⟩
theorem Tp.put {xs : List V} {o : HO} (h : H p = some (.lst xs)) : Tp H (upd H p o) := fun b ys e => by
  rw [upd_ne (ne_of e h (by intro z; cases z))]
  exact e
theorem Tp.putD {xs : List (Key × V)} {o : HO} (h : H p = some (.dK xs)) : Tp H (upd H p o) := fun b ys e => by
  rw [upd_ne (ne_of e h (by intro z; cases z))]
  exact e
end
theorem rgV_len (a b : Int) : (rgV a b).length = (b - a).toNat := by
  unfold rgV
  rw [List.length_map, List.length_range]
theorem rgV_im {H : Hp} {n : Nat} (a b : Int) : ImDs H n (rgV a b) := fun v hv => by
  unfold rgV at hv
  obtain ⟨j, _, rfl⟩ := List.mem_map.mp hv
  exact .int _
/-! ### machines -/
def spMachine : Sp := fun vs H Q _ => ∃ (t c : Addr) (n : Nat), vs = [.ref t] ∧ TapeAt H t c n ∧ n ≤ 100000000 ∧
  ∀ (a : Addr) (H' : Hp), ImD H' 4 (.ref a) → TapeAt H' t c (n + 100) → Fr [t] H H' → Q (.ref a) H'
section
variable {P : Program} {w : World} {K : PySem.W.Frag} {mg : Str → Option Value} {base : Heap}
theorem ok_machine (D : Df K mg "_law_machine" s_law_machine ["_law_tape_here"]) (T : Txt K mg) (c_law_draw : Cl P w K mg base 1 "_law_draw" spDraw) : Cl P w K mg base 2 "_law_machine" spMachine := by
  refine D.ok sc_law_machine (fun vs H Q E h => ?_) (fun f cdv A outer s H vs Q E hr h => ?_)
  · obtain ⟨t, c, n, rfl, _⟩ := h
    rfl
  obtain ⟨t, c, n, rfl, hT, hn, k⟩ := h
  have hu := hu_of hr
  refine ⟨_, -- _law_many = 1 + _law_draw(_law_tape_here, 4)
    (pss_cons (ps_set (i := 1) sc_law_machine.nd rfl (Or.inl rfl) (pe_op op_add pe_int (pe_cl c_law_draw (hr.mono (by first | decide | omega)) rfl (pa_cons (pv 0) (pa_cons pe_int pa_nil)))))
    (pss_cons (ps_set (i := 2) sc_law_machine.nd rfl (Or.inl rfl) (pe_lst pa_nil))
    (pss_cons (ps_for PassesOwn.never rfl (pi_range1 rfl T.m_range (pa_cons (pv 1) pa_nil)) (pg_name (i := 3) sc_law_machine.nd rfl (Or.inl rfl))
      (pss_cons (ps_set (i := 4) sc_law_machine.nd rfl (Or.inl rfl) (pe_lst (pa_cons pe_str (pa_cons pe_str (pa_cons (pe_cl c_law_draw (hr.mono (by first | decide | omega)) rfl (pa_cons (pv 0) (pa_cons (pv 1) pa_nil))) (pa_cons (pe_cl c_law_draw (hr.mono (by first | decide | omega)) rfl (pa_cons (pv 0) (pa_cons (pv 1) pa_nil))) (pa_cons pe_str pa_nil)))))))
      (pss_cons (ps_set (i := 5) sc_law_machine.nd rfl (Or.inl rfl) (pe_lst pa_nil))
      (pss_cons (ps_for PassesOwn.never rfl (pi_list (pe_lst (pa_cons pe_str (pa_cons pe_str (pa_cons pe_str pa_nil))))) (pg_name (i := 6) sc_law_machine.nd rfl (Or.inl rfl))
        (pss_one (ps_if (pt_cmpR op_lt (pe_cl c_law_draw (hr.mono (by first | decide | omega)) rfl (pa_cons (pv 0) (pa_cons pe_int pa_nil))) pe_int (nomark _))
          (pss_one (ps_expr (pe_bm PySem.F.plainAttrs_list PySem.F.slot_list_append PySem.F.type_list_append mt_append (pv 5) (pa_cons (pe_tup (pa_cons (pv 6) (pa_cons (pe_ix ix_list (pv 4) (pe_cl c_law_draw (hr.mono (by first | decide | omega)) rfl (pa_cons (pv 0) (pa_cons pe_int pa_nil))) (fun _ _ => rfl)) pa_nil))) pa_nil))))
          pss_nil)))
      (pss_cons (ps_set (i := 7) sc_law_machine.nd rfl (Or.inl rfl) (pe_ix ix_list (pe_lst (pa_cons pe_non (pa_cons pe_non (pa_cons pe_int (pa_cons pe_int (pa_cons (pe_op op_add pe_int (pe_cl c_law_draw (hr.mono (by first | decide | omega)) rfl (pa_cons (pv 0) (pa_cons pe_int pa_nil)))) pa_nil)))))) (pe_cl c_law_draw (hr.mono (by first | decide | omega)) rfl (pa_cons (pv 0) (pa_cons pe_int pa_nil))) (fun _ _ => rfl)))
      (pss_cons (ps_set (i := 8) sc_law_machine.nd rfl (Or.inl rfl) (pe_op op_cat (pe_lst (pa_cons pe_str (pa_cons pe_str (pa_cons pe_str pa_nil)))) (pe_listRg rfl rfl T.m_list (prg_2 rfl T.m_range (pe_op op_add (pv 3) pe_int) (pv 1)))))
      (C8.pss_cut (ps_if (pt_cmp (pc_notN (pv 7)))
        (pss_one (ps_expr (pe_bm PySem.F.plainAttrs_list PySem.F.slot_list_insert PySem.F.type_list_insert mt_insert (pv 5) (pa_cons (pe_cl c_law_draw (hr.mono (by first | decide | omega)) rfl (pa_cons (pv 0) (pa_cons (pe_op op_add (pe_callB call_len_seq (by rfl) T.m_len PySem.boot_len (pa_cons (pv 5) pa_nil)) pe_int) pa_nil))) (pa_cons (pe_tup (pa_cons pe_str (pa_cons (pe_ix ix_list (pv 8) (pe_cl c_law_draw (hr.mono (by first | decide | omega)) rfl (pa_cons (pv 0) (pa_cons (pe_callB call_len_seq (by rfl) T.m_len PySem.boot_len (pa_cons (pv 8) pa_nil)) pa_nil))) (fun _ _ => rfl)) pa_nil))) pa_nil)))))
        pss_nil)
      (pss_one (ps_expr (pe_bm PySem.F.plainAttrs_list PySem.F.slot_list_append PySem.F.type_list_append mt_append (pv 2) (pa_cons (pe_tup (pa_cons (pv 7) (pa_cons (pe_tupleOf rfl T.m_tuple (pv 5)) pa_nil))) pa_nil)))))))))))
    (pss_one (ps_ret (pe_tupleOf rfl T.m_tuple (pv 2))))))), ?_⟩
  refine ⟨_, rfl, t, c, 4, n, rfl, hT, ⟨by decide, by decide⟩, by omega, fun r1 H1 hr1 T1 f1 => ?_⟩
  refine ⟨_, _, rfl, rfl, (by show 0 ≤ sizeLine; decide), ?_⟩
  dsimp only
  generalize hmany : 1 + r1 = many
  (intro st st1; generalize hh_ : upd _ st _ = H2; have hst := upd_is hh_; have sm2 := same_is hh_ st1; clear hh_)
  have stt := T1.ne_new st1
  have stc := T1.ne_newc st1
  have st0 := f1.fresh st1 (not_in_one stt)
  have T2 := T1.same sm2
  have f2 := f1.trans (Fr.same sm2 _)
  refine ⟨_, rfl, many, rfl, (by omega), (by omega), for_range (n := many.toNat) (fun i σ Hx => ∃ (k3 k4 k5 k6 k7 k8 : Option V) (ss : List V), σ = [some (.ref t), some (.int many), some (.ref st), k3, k4, k5, k6, k7, k8] ∧ Hx st = some (.lst ss) ∧ ss.length = i ∧ ImDs Hx 3 ss ∧ TapeAt Hx t c (n + 1 + 20 * i) ∧ Fr [t] H Hx) ?_ ?_ ?_⟩
  · exact ⟨none, none, none, none, none, none, [], rfl, hst, rfl, .nil, T2, f2⟩
  · rintro i σ Hx hi ⟨k3, k4, k5, k6, k7, k8, ss, rfl, hs1, hs2, hs3, Tx, fx⟩
    have hi4 : i < 4 := by omega
    clear k
    refine ⟨_, rfl, _, rfl, t, c, many, _, rfl, Tx, ⟨by omega, by omega⟩, by omega, fun r3 H3 hr3 T3 f3 => ?_⟩
    refine ⟨_, rfl, _, rfl, t, c, many, _, rfl, T3, ⟨by omega, by omega⟩, by omega, fun r4 H4 hr4 T4 f4 => ?_⟩
    refine ⟨(by show 5 ≤ sizeLine; decide), ?_⟩
    (intro en en1; generalize hh_ : upd _ en _ = H5; have hen := upd_is hh_; have sm5 := same_is hh_ en1; clear hh_)
    have ent := T4.ne_new en1
    have T5 := T4.same sm5
    have hs4 := sm5 _ _ (f4 _ _ (f3 _ _ hs1 (not_in_one stt)) (not_in_one stt))
    have g5 := ((f3.trans f4).trans (Fr.same sm5 _))
    have p5 : Tp Hx H5 := Tx.tp g5
    refine ⟨(by show 0 ≤ sizeLine; decide), ?_⟩
    (intro sp sp1; generalize hh_ : upd _ sp _ = H6; have hsp := upd_is hh_; have sm6 := same_is hh_ sp1; clear hh_)
    have spt := T5.ne_new sp1
    have spc := T5.ne_newc sp1
    have sps : sp ≠ st := ne_fresh hs4 sp1
    have spe : sp ≠ en := ne_fresh hen sp1
    have hs5 := sm6 _ _ hs4
    have hen6 := sm6 _ _ hen
    have T6 := T5.same sm6
    have g6 := g5.trans (Fr.same sm6 _)
    have spx := g5.fresh sp1 (not_in_one spt)
    refine ⟨(by show 3 ≤ sizeLine; decide), ?_⟩
    (intro wl wl1; generalize hh_ : upd _ wl _ = H7; have hwl := upd_is hh_; have sm7 := same_is hh_ wl1; clear hh_)
    have wlt := T6.ne_new wl1
    have wls : wl ≠ sp := ne_fresh hsp wl1
    refine ⟨wl, rfl, ⟨_, SqL.of hwl⟩, for_list (K := K) (a := wl) (xs := [.str "up", .str "down", .str "out"]) (fun j σ Hy => ∃ (x6 x7 x8 : Option V) (xs : List V), σ = [some (.ref t), some (.int many), some (.ref st), some (.int (0 + i)), some (.ref en), some (.ref sp), x6, x7, x8] ∧ Hy wl = some (.lst [.str "up", .str "down", .str "out"]) ∧ Hy sp = some (.lst xs) ∧ xs.length ≤ j ∧ ImDs Hy 1 xs ∧ Hy st = some (.lst ss) ∧ Hy en = some (.lst [.str "claim", .str "give", .int r3, .int r4, .str "claim"]) ∧ TapeAt Hy t c (n + 3 + 20 * i + 2 * j) ∧ Fr [t] Hx Hy) ?_ (fun j σ Hy _ ⟨_, _, _, _, _, hh, _⟩ => SqL.of hh) ?_ ?_⟩
    · exact ⟨_, _, _, [], rfl, hwl, sm7 _ _ hsp, Nat.le_refl _, .nil, sm7 _ _ hs5, sm7 _ _ hen6, (T6.same sm7).mono (by omega), g6.trans (Fr.same sm7 _)⟩
    · rintro j x σ Hy hj ⟨x6, x7, x8, xs, rfl, hy1, hy2, hy3, hy4, hy5, hy6, Ty, fy⟩
      have hx : ∃ z : Str, x = .str z := by
        match j, hj with
        | 0, h => exact ⟨_, (Option.some.inj h).symm⟩
        | 1, h => exact ⟨_, (Option.some.inj h).symm⟩
        | 2, h => exact ⟨_, (Option.some.inj h).symm⟩
        | j + 3, h => exact nomatch h
      have hj3 : j < 3 := (List.getElem?_eq_some_iff.mp hj).1
      obtain ⟨z, rfl⟩ := hx
      refine ⟨_, rfl, t, c, 5, _, rfl, Ty, ⟨by decide, by decide⟩, by omega, fun r8 H8 hr8 T8 f8 => ?_⟩
      refine ⟨_, _, rfl, rfl, _, rfl, ?_⟩
      refine ite2 (fun _ => ?_) (fun _ => ?_)
      · have hy2' := f8 _ _ hy2 (not_in_one spt)
        refine ⟨_, rfl, .inl ⟨rfl, _, .inl (.inl hy2')⟩, _, rfl, _, rfl, _, rfl, t, c, 5, _, rfl, T8, ⟨by decide, by decide⟩, by omega, fun r9 H9 hr9 T9 f9 => ?_⟩
        obtain ⟨v9, hv9, e9⟩ := at_in (xs := [V.str "claim", .str "give", .int r3, .int r4, .str "claim"]) hr9.1 hr9.2
        have i9 : ∀ Hz : Hp, ImD Hz 0 v9 := by
          intro Hz
          simp only [List.mem_cons, List.not_mem_nil, or_false] at hv9
          rcases hv9 with rfl | rfl | rfl | rfl | rfl
          · exact .str _
          · exact .str _
          · exact .int _
          · exact .int _
          · exact .str _
        have f89 := f8.trans f9
        refine ⟨en, _, _, _, rfl, rfl, SqL.of (f89 _ _ hy6 (not_in_one ent)), e9, (by show 2 ≤ sizeLine; decide), ?_⟩
        (intro tp tp1; generalize hh_ : upd _ tp _ = Ha; have htp := upd_is hh_; have sma := same_is hh_ tp1; clear hh_)
        have hsa := sma _ _ (f9 _ _ hy2' (not_in_one spt))
        refine ⟨sp, xs, _, rfl, rfl, hsa, Nat.lt_of_lt_of_le (by omega : xs.length < 1000) (sz (by decide : 1000 ≤ 100000)), ?_⟩
        have pa : Tp Hy Ha := (Ty.tp f89).trans (Tp.same sma)
        have pb : Tp Ha (upd Ha sp (.lst (xs ++ [.ref tp]))) := Tp.put hsa
        refine ⟨_, _, _, xs ++ [.ref tp], rfl, by rw [L2.upd_ne wls]; exact sma _ _ (f89 _ _ hy1 (not_in_one wlt)), upd_same, by simp; omega, ?_, by rw [L2.upd_ne sps.symm]; exact sma _ _ (f89 _ _ hy5 (not_in_one stt)), by rw [L2.upd_ne spe.symm]; exact sma _ _ (f89 _ _ hy6 (not_in_one ent)), ((T9.same sma).put spt spc).mono (by omega), fy.upd_new (f89.trans (Fr.same sma _)) spx⟩
        refine ((hy4.tp pa).snoc ?_).tp pb
        exact .tup (n := 0) (.cons (.str _) (.cons (i9 _) .nil)) htp
      · exact ⟨_, _, _, xs, rfl, f8 _ _ hy1 (not_in_one wlt), f8 _ _ hy2 (not_in_one spt), by omega, hy4.tp (Ty.tp f8), f8 _ _ hy5 (not_in_one stt), f8 _ _ hy6 (not_in_one ent), T8.mono (by omega), fy.trans f8⟩
    · rintro σ Hy ⟨x6, x7, x8, xs, rfl, hy1, hy2, hy3, hy4, hy5, hy6, Ty, fy⟩
      have hy3' : xs.length ≤ 3 := hy3
      replace Ty : TapeAt Hy t c (n + 9 + 20 * i) := Ty.mono (by show n + 3 + 20 * i + 2 * 3 ≤ _; omega)
      clear hy1 hy6 hy3 hwl hen6 hsp hs5 sm5 sm6 sm7 f3 f4 g5 g6 hs1 hs4 T3 T4 T5 T6
      refine ⟨_, rfl, t, c, 10000, _, rfl, Ty, ⟨by decide, by decide⟩, by omega, fun r8 H8 hr8 T8 f8 => ?_⟩
      refine ⟨_, _, rfl, rfl, (by show 5 ≤ sizeLine; decide), fun p hp => ⟨_, rfl, pick_draw (xs := [V.non, .non, .int 1, .int 300, .int (1 + r8)]) (i := 5) T8 (by omega) rfl ⟨by simp, by simp⟩ (fun wv H9 hwv T9 f9 => ?_) p hp⟩⟩
      have f89 := f8.trans f9
      have iw : ∀ Hz : Hp, ImD Hz 0 wv := by
        intro Hz
        simp only [List.mem_cons, List.not_mem_nil, or_false] at hwv
        rcases hwv with rfl | rfl | rfl | rfl | rfl
        · exact .non
        · exact .non
        · exact .int _
        · exact .int _
        · exact .int _
      have hy2' := f89 _ _ hy2 (not_in_one spt)
      have hy5' := f89 _ _ hy5 (not_in_one stt)
      have hy4' := hy4.tp (Ty.tp f89)
      have fx9 := fy.trans f89
      refine ⟨(by show 3 ≤ sizeLine; decide), ?_⟩
      (intro l3 l30; generalize hh_ : upd _ l3 _ = H10; have hl3 := upd_is hh_; have sm10 := same_is hh_ l30; clear hh_)
      refine ⟨_, rfl, _, _, rfl, rfl, _, rfl, _, _, rfl, rfl, ⟨by omega, by omega, by omega, by omega, by omega⟩, ?_⟩
      (intro lr lr0; generalize hh_ : upd _ lr _ = H11; have hlr := upd_is hh_; have sm11 := same_is hh_ lr0; clear hh_)
      refine ⟨l3, lr, _, _, rfl, rfl, sm11 _ _ hl3, hlr, (by rw [rgV_len]; show 3 + _ ≤ sizeLine; exact sz (by omega)), ?_⟩
      (intro ll ll0; generalize hh_ : upd _ ll _ = H12; have hll := upd_is hh_; have sm12 := same_is hh_ ll0; clear hh_)
      have smx := (sm10.trans sm11).trans sm12
      have T12 := T9.same smx
      have hy2a := smx _ _ hy2'
      have hy5a := smx _ _ hy5'
      have hy4a := hy4'.tp (Tp.same smx)
      have fx12 := fx9.trans (Fr.same smx _)
      have llt := (T9.same (sm10.trans sm11)).ne_new ll0
      have hlen : 3 ≤ ([V.str "claim", .str "give", .str "claim"] ++ rgV (0 + (i : Int) + 1) many).length ∧ ([V.str "claim", .str "give", .str "claim"] ++ rgV (0 + (i : Int) + 1) many).length ≤ 100 := by
        rw [List.length_append, rgV_len]
        show 3 ≤ 3 + _ ∧ 3 + _ ≤ 100
        omega
      have ilat : ∀ (Hz : Hp), ImDs Hz 0 ([V.str "claim", .str "give", .str "claim"] ++ rgV (0 + (i : Int) + 1) many) := fun Hz => .append (.cons (.str _) (.cons (.str _) (.cons (.str _) .nil))) (rgV_im _ _)
      generalize ([V.str "claim", .str "give", .str "claim"] ++ rgV (0 + (i : Int) + 1) many) = lat at *
      clear hy2 hy5 hy4 hy2' hy5' hy4' fy fx9 f8 f9 f89 hlr hl3 sm10 sm11 sm12 smx T8 T9 Ty
      have spx' : Hx sp = none := spx
      refine ⟨fun σ' H' => ∃ xs', σ' = [some (.ref t), some (.int many), some (.ref st), some (.int (0 + i)), some (.ref en), some (.ref sp), x6, some wv, some (.ref ll)] ∧ H' sp = some (.lst xs') ∧ xs'.length ≤ 4 ∧ ImDs H' 1 xs' ∧ H' st = some (.lst ss) ∧ ImDs H' 3 ss ∧ TapeAt H' t c (n + 18 + 20 * i) ∧ Fr [t] Hx H', ?_, ?_⟩
      · refine ⟨_, rfl, _, rfl, ?_⟩
        refine ite2 (fun _ => ?_) (fun _ => ?_)
        · refine ⟨_, rfl, .inl ⟨rfl, _, .inl (.inl hy2a)⟩, _, rfl, _, rfl, sp, _, rfl, .inl (SqL.of hy2a), _, _, rfl, rfl, t, c, _, _, rfl, T12, ⟨by omega, by omega⟩, by omega, fun r13 H13 hr13 T13 f13 => ?_⟩
          refine ⟨_, rfl, _, rfl, _, rfl, ll, _, rfl, .inl (SqL.of (f13 _ _ hll (not_in_one llt))), t, c, _, _, rfl, T13, ⟨by omega, by omega⟩, by omega, fun r14 H14 hr14 T14 f14 => ?_⟩
          have f134 := f13.trans f14
          obtain ⟨v9, hv9, e9⟩ := at_in (xs := lat) hr14.1 hr14.2
          refine ⟨ll, _, _, _, rfl, rfl, SqL.of (f134 _ _ hll (not_in_one llt)), e9, (by show 2 ≤ sizeLine; decide), ?_⟩
          (intro tp tp1; generalize hh_ : upd _ tp _ = Ha; have htp := upd_is hh_; have sma := same_is hh_ tp1; clear hh_)
          have hsa := sma _ _ (f134 _ _ hy2a (not_in_one spt))
          have pa : Tp _ Ha := (T12.tp f134).trans (Tp.same sma)
          refine ⟨sp, xs, _, _, rfl, rfl, hsa, Nat.lt_of_lt_of_le (by omega : xs.length < 1000) (sz (by decide : 1000 ≤ 100000)), by omega, by omega, ?_⟩
          refine ⟨_, rfl, upd_same, ?_, ?_, by rw [L2.upd_ne sps.symm]; exact sma _ _ (f134 _ _ hy5a (not_in_one stt)), (hs3.tp ((Tx.tp fx12).trans pa)).tp (Tp.put hsa), ((T14.same sma).put spt spc).mono (by omega), fx12.upd_new (f134.trans (Fr.same sma _)) spx⟩
          · rw [List.length_append, List.length_append, List.length_take, List.length_drop]
            show min _ _ + 1 + _ ≤ 4
            omega
          · refine ImDs.tp ?_ (Tp.put hsa)
            have hx := hy4a.tp pa
            refine .append (.append (fun v hv => hx v (List.mem_of_mem_take hv)) ?_) (fun v hv => hx v (List.mem_of_mem_drop hv))
            exact .cons (.tup (n := 0) (.cons (.str _) (.cons (ilat _ _ hv9) .nil)) htp) .nil
        · exact ⟨xs, rfl, hy2a, by omega, hy4a, hy5a, hs3.tp (Tx.tp fx12), T12.mono (by omega), fx12⟩
      · rintro σ' H' ⟨xs', rfl, a1, a2, a3, a4, a5, a6, a7⟩
        refine ⟨_, rfl, .inl ⟨rfl, _, .inl (.inl a4)⟩, _, rfl, _, rfl, .inl ⟨sp, xs', rfl, SqL.of a1, ?_⟩⟩
        (intro q1 q10; generalize hh_ : upd _ q1 _ = Ha; have hq1 := upd_is hh_; have sma := same_is hh_ q10; clear hh_)
        refine ⟨(by show 2 ≤ sizeLine; decide), ?_⟩
        (intro q2 q20; generalize hh_ : upd _ q2 _ = Hb; have hq2 := upd_is hh_; have smb := same_is hh_ q20; clear hh_)
        have sab := sma.trans smb
        have hst2 := sab _ _ a4
        refine ⟨st, ss, _, rfl, rfl, hst2, Nat.lt_of_lt_of_le (by omega : ss.length < 1000) (sz (by decide : 1000 ≤ 100000)), ?_⟩
        refine ⟨_, _, _, _, _, _, ss ++ [.ref q2], rfl, upd_same, by simp [hs2], ?_, ((a6.same sab).put stt stc).mono (by omega), fx.upd_new (a7.trans (Fr.same sab _)) st0⟩
        refine ImDs.tp ?_ (Tp.put hst2)
        refine (a5.tp (Tp.same sab)).snoc ?_
        have i1 : ImD Ha 2 (.ref q1) := .tup (n := 1) (a3.tp (Tp.same sma)) hq1
        exact .tup (n := 2) (.cons ((iw _).mono (by decide)) (.cons (i1.tp (Tp.same smb)) .nil)) hq2
  · rintro σ Hx ⟨k3, k4, k5, k6, k7, k8, ss, rfl, hs1, hs2, hs3, Tx, fx⟩
    refine ⟨_, rfl, .inl ⟨st, ss, rfl, SqL.of hs1, ?_⟩⟩
    (intro q1 q10; generalize hh_ : upd _ q1 _ = Ha; have hq1 := upd_is hh_; have sma := same_is hh_ q10; clear hh_)
    exact k q1 Ha (.tup (n := 3) (hs3.tp (Tp.same sma)) hq1) ((Tx.same sma).mono (by omega)) (fx.trans (Fr.same sma _))
end
end SG
namespace SG
open PySem PySem.Spec PyProof.Rows L2
/-! ### wishes -/
def spWish : Sp := fun vs H Q _ => ∃ (t c : Addr) (n : Nat) (lab : Str), vs = [.ref t, .str lab] ∧ TapeAt H t c n ∧ n ≤ 90000000 ∧
  ∀ (v : V) (H' : Hp), ImD H' 5 v → TapeAt H' t c (n + 110) → Fr [t] H H' → Q v H'
theorem im3 {H : Hp} {a : Addr} {x y z : V} (e : H a = some (.tup [x, y, z])) (hx : ∀ Hz, ImD Hz 0 x) (hy : ∀ Hz, ImD Hz 0 y) (hz : ∀ Hz, ImD Hz 0 z) : ImD H 1 (.ref a) :=
  .tup (n := 0) (.cons (hx _) (.cons (hy _) (.cons (hz _) .nil))) e
theorem im2 {H : Hp} {a : Addr} {x y : V} (e : H a = some (.tup [x, y])) (hx : ∀ Hz, ImD Hz 0 x) (hy : ∀ Hz, ImD Hz 0 y) : ImD H 1 (.ref a) :=
  .tup (n := 0) (.cons (hx _) (.cons (hy _) .nil)) e
section
variable {P : Program} {w : World} {K : PySem.W.Frag} {mg : Str → Option Value} {base : Heap}
theorem ok_wish (D : Df K mg "_law_wish" s_law_wish ["_law_tape_here", "_law_label"]) (T : Txt K mg) (c_law_draw : Cl P w K mg base 1 "_law_draw" spDraw) (c_law_machine : Cl P w K mg base 2 "_law_machine" spMachine) : Cl P w K mg base 3 "_law_wish" spWish := by
  refine D.ok sc_law_wish (fun vs H Q E h => ?_) (fun f cdv A outer s H vs Q E hr h => ?_)
  · obtain ⟨t, c, n, lab, rfl, _⟩ := h
    rfl
  obtain ⟨t, c, n, lab, rfl, hT, hn, k⟩ := h
  have hu := hu_of hr
  refine ⟨_, -- _law_wait = [500, 1, 10, 300, 1 + _law_draw(_law_tape_here, 10000)][_law_draw(_law_tape_here, 5)]
    (pss_cons (ps_set (i := 2) sc_law_wish.nd rfl (Or.inl rfl) (pe_ix ix_list (pe_lst (pa_cons pe_int (pa_cons pe_int (pa_cons pe_int (pa_cons pe_int (pa_cons (pe_op op_add pe_int (pe_cl c_law_draw (hr.mono (by first | decide | omega)) rfl (pa_cons (pv 0) (pa_cons pe_int pa_nil)))) pa_nil)))))) (pe_cl c_law_draw (hr.mono (by first | decide | omega)) rfl (pa_cons (pv 0) (pa_cons pe_int pa_nil))) (fun _ _ => rfl)))
    (pss_cons (ps_set (i := 3) sc_law_wish.nd rfl (Or.inl rfl) (pe_lst (pa_cons (pe_tup (pa_cons pe_str (pa_cons (pv 1) (pa_cons (pe_op op_add pe_int (pe_cl c_law_draw (hr.mono (by first | decide | omega)) rfl (pa_cons (pv 0) (pa_cons pe_int pa_nil)))) pa_nil)))) (pa_cons (pe_tup (pa_cons pe_str (pa_cons (pv 1) (pa_cons (pv 2) pa_nil)))) (pa_cons (pe_tup (pa_cons pe_str (pa_cons (pv 1) pa_nil))) (pa_cons (pe_tup (pa_cons pe_str (pa_cons (pv 1) pa_nil))) pa_nil))))))
    (pss_cons (ps_set (i := 3) sc_law_wish.nd rfl (Or.inl rfl) (pe_op op_cat (pv 3) (pe_lst (pa_cons (pe_tup (pa_cons pe_str (pa_cons (pv 1) (pa_cons pe_str pa_nil)))) (pa_cons (pe_tup (pa_cons pe_str (pa_cons (pv 1) (pa_cons pe_str pa_nil)))) (pa_cons (pe_tup (pa_cons pe_str (pa_cons (pv 1) (pa_cons pe_str pa_nil)))) (pa_cons (pe_tup (pa_cons pe_str (pa_cons (pv 1) (pa_cons pe_int pa_nil)))) pa_nil)))))))
    (pss_cons (ps_set (i := 4) sc_law_wish.nd rfl (Or.inl rfl) (pe_cl c_law_draw (hr.mono (by first | decide | omega)) rfl (pa_cons (pv 0) (pa_cons pe_int pa_nil))))
    (pss_one (ps_ret (pe_ifExp (pt_cmpR op_lt (pv 4) pe_int (nomark _)) (pe_ix ix_list (pv 3) (pv 4) (fun _ _ => rfl)) (pe_tup (pa_cons pe_str (pa_cons (pv 1) (pa_cons (pe_cl c_law_machine (hr.mono (by first | decide | omega)) rfl (pa_cons (pv 0) pa_nil)) pa_nil))))))))))), ?_⟩
  refine ⟨_, rfl, t, c, 10000, _, rfl, hT, ⟨by decide, by decide⟩, by omega, fun r1 H1 hr1 T1 f1 => ?_⟩
  refine ⟨_, _, rfl, rfl, (by show 5 ≤ sizeLine; decide), fun p hp => ⟨_, rfl, pick_draw (xs := [.int 500, .int 1, .int 10, .int 300, .int (1 + r1)]) (i := 5) T1 (by omega) rfl ⟨by simp, by simp⟩ (fun wv H2 hwv T2 f2 => ?_) p hp⟩⟩
  have iw : ∀ Hz : Hp, ImD Hz 0 wv := by
    intro Hz
    simp only [List.mem_cons, List.not_mem_nil, or_false] at hwv
    rcases hwv with rfl | rfl | rfl | rfl | rfl
    all_goals exact .int _
  have f02 := f1.trans f2
  clear f1 f2 hwv
  refine ⟨_, rfl, _, rfl, t, c, 3, _, rfl, T2, ⟨by decide, by decide⟩, by omega, fun r3 H3 hr3 T3 f3 => ?_⟩
  refine ⟨_, _, rfl, rfl, (by show 3 ≤ sizeLine; decide), ?_⟩
  (intro q1 q10; generalize hh_ : upd _ q1 _ = Ha; have hq1 := upd_is hh_; have sma := same_is hh_ q10; clear hh_)
  refine ⟨_, rfl, _, rfl, (by show 3 ≤ sizeLine; decide), ?_⟩
  (intro q2 q20; generalize hh_ : upd _ q2 _ = Hb; have hq2 := upd_is hh_; have smb := same_is hh_ q20; clear hh_)
  refine ⟨_, rfl, (by show 2 ≤ sizeLine; decide), ?_⟩
  (intro q3 q30; generalize hh_ : upd _ q3 _ = Hc; have hq3 := upd_is hh_; have smc := same_is hh_ q30; clear hh_)
  refine ⟨_, rfl, (by show 2 ≤ sizeLine; decide), ?_⟩
  (intro q4 q40; generalize hh_ : upd _ q4 _ = Hd; have hq4 := upd_is hh_; have smd := same_is hh_ q40; clear hh_)
  refine ⟨(by show 4 ≤ sizeLine; decide), ?_⟩
  (intro l1 l10; generalize hh_ : upd _ l1 _ = He; have hl1 := upd_is hh_; have sme := same_is hh_ l10; clear hh_)
  have is1 : ImDs He 1 [.ref q1, .ref q2, .ref q3, .ref q4] := by
    refine .cons (im3 (((smb.trans smc).trans (smd.trans sme)) _ _ hq1) (fun _ => .str _) (fun _ => .str _) (fun _ => .int _)) ?_
    refine .cons (im3 ((smc.trans (smd.trans sme)) _ _ hq2) (fun _ => .str _) (fun _ => .str _) iw) ?_
    refine .cons (im2 ((smd.trans sme) _ _ hq3) (fun _ => .str _) (fun _ => .str _)) ?_
    exact .cons (im2 (sme _ _ hq4) (fun _ => .str _) (fun _ => .str _)) .nil
  have s1 := ((sma.trans smb).trans (smc.trans smd)).trans sme
  have T4 := T3.same s1
  have f04 := (f02.trans f3).trans (Fr.same s1 _)
  have n1 : ([V.ref q1, .ref q2, .ref q3, .ref q4] : List V).length = 4 := rfl
  generalize ([V.ref q1, .ref q2, .ref q3, .ref q4] : List V) = ls1 at *
  clear sma smb smc smd sme hq1 hq2 hq3 hq4 s1 f02 f3 T1 T2 T3
  refine ⟨_, rfl, _, rfl, (by show 3 ≤ sizeLine; decide), ?_⟩
  (intro q5 q50; generalize hh_ : upd _ q5 _ = Ha; have hq1 := upd_is hh_; have sma := same_is hh_ q50; clear hh_)
  refine ⟨_, rfl, (by show 3 ≤ sizeLine; decide), ?_⟩
  (intro q6 q60; generalize hh_ : upd _ q6 _ = Hb; have hq2 := upd_is hh_; have smb := same_is hh_ q60; clear hh_)
  refine ⟨_, rfl, (by show 3 ≤ sizeLine; decide), ?_⟩
  (intro q7 q70; generalize hh_ : upd _ q7 _ = Hc; have hq3 := upd_is hh_; have smc := same_is hh_ q70; clear hh_)
  refine ⟨_, rfl, (by show 3 ≤ sizeLine; decide), ?_⟩
  (intro q8 q80; generalize hh_ : upd _ q8 _ = Hd; have hq4 := upd_is hh_; have smd := same_is hh_ q80; clear hh_)
  refine ⟨(by show 4 ≤ sizeLine; decide), ?_⟩
  (intro l2 l20; generalize hh_ : upd _ l2 _ = Hf; have hl2 := upd_is hh_; have sme := same_is hh_ l20; clear hh_)
  have is2 : ImDs Hf 1 [.ref q5, .ref q6, .ref q7, .ref q8] := by
    refine .cons (im3 (((smb.trans smc).trans (smd.trans sme)) _ _ hq1) (fun _ => .str _) (fun _ => .str _) (fun _ => .str _)) ?_
    refine .cons (im3 ((smc.trans (smd.trans sme)) _ _ hq2) (fun _ => .str _) (fun _ => .str _) (fun _ => .str _)) ?_
    refine .cons (im3 ((smd.trans sme) _ _ hq3) (fun _ => .str _) (fun _ => .str _) (fun _ => .str _)) ?_
    exact .cons (im3 (sme _ _ hq4) (fun _ => .str _) (fun _ => .str _) (fun _ => .int _)) .nil
  have s2 := ((sma.trans smb).trans (smc.trans smd)).trans sme
  have n2 : ([V.ref q5, .ref q6, .ref q7, .ref q8] : List V).length = 4 := rfl
  generalize ([V.ref q5, .ref q6, .ref q7, .ref q8] : List V) = ls2 at *
  refine ⟨l1, l2, _, _, rfl, rfl, s2 _ _ hl1, hl2, sz (by omega), ?_⟩
  (intro l3 l30; generalize hh_ : upd _ l3 _ = Hg; have hl3 := upd_is hh_; have smg := same_is hh_ l30; clear hh_)
  have s3 := s2.trans smg
  have is3 : ImDs Hg 1 (ls1 ++ ls2) := .append (is1.tp (Tp.same s3)) (is2.tp (Tp.same smg))
  have T5 := T4.same s3
  have f05 := f04.trans (Fr.same s3 _)
  have l3t := (T4.same s2).ne_new l30
  refine ⟨_, rfl, t, c, 9, _, rfl, T5, ⟨by decide, by decide⟩, by omega, fun r6 H6 hr6 T6 f6 => ?_⟩
  have f06 := f05.trans f6
  refine ⟨_, rfl, _, _, rfl, rfl, _, rfl, ?_⟩
  refine ite2 (fun p6 => ?_) (fun p6 => ?_)
  · have p6' : r6 < 8 := of_decide_eq_true p6
    obtain ⟨v, hv, e⟩ := at_in (xs := ls1 ++ ls2) hr6.1 (by rw [List.length_append]; omega)
    refine ⟨_, rfl, _, rfl, l3, _, _, _, rfl, rfl, SqL.of (f6 _ _ hl3 (not_in_one l3t)), e, ?_⟩
    exact k v H6 (((is3 v hv).tp (T5.tp f6)).mono (by decide)) (T6.mono (by omega)) f06
  · refine ⟨_, rfl, _, rfl, t, c, _, rfl, T6, by omega, fun a H7 ia T7 f7 => ?_⟩
    refine ⟨(by show 3 ≤ sizeLine; decide), ?_⟩
    (intro l4 l40; generalize hh_ : upd _ l4 _ = Hh; have hl4 := upd_is hh_; have smh := same_is hh_ l40; clear hh_)
    refine k (.ref l4) Hh ?_ ((T7.same smh).mono (by omega)) ((f06.trans f7).trans (Fr.same smh _))
    exact .tup (n := 4) (.cons (.str _) (.cons (.str _) (.cons (ia.tp (Tp.same smh)) .nil))) hl4
end
end SG
namespace SG
open PySem PySem.Spec PyProof.Rows L2
/-! ### parts as trees -/
inductive Pt where
  | mk (a : Addr) (nm : Str) (x y w h : Int) (sh : Option (Bool × Int × Int)) (ks : List Pt)
def Pt.a : Pt → Addr | .mk a _ _ _ _ _ _ _ => a
def Pt.nm : Pt → Str | .mk _ nm _ _ _ _ _ _ => nm
def Pt.x : Pt → Int | .mk _ _ x _ _ _ _ _ => x
def Pt.y : Pt → Int | .mk _ _ _ y _ _ _ _ => y
def Pt.w : Pt → Int | .mk _ _ _ _ w _ _ _ => w
def Pt.h : Pt → Int | .mk _ _ _ _ _ h _ _ => h
def Pt.sh : Pt → Option (Bool × Int × Int) | .mk _ _ _ _ _ _ sh _ => sh
def Pt.ks : Pt → List Pt | .mk _ _ _ _ _ _ _ ks => ks
mutual
def Pt.nms : Pt → List Str
  | .mk _ nm _ _ _ _ _ ks => nm :: nmsL ks
def nmsL : List Pt → List Str
  | [] => []
  | p :: r => p.nms ++ nmsL r
end
mutual
def Pt.sz : Pt → Nat
  | .mk _ _ _ _ _ _ _ ks => szL ks + 1
def szL : List Pt → Nat
  | [] => 0
  | p :: r => p.sz + szL r
end
mutual
theorem nms_len : ∀ p : Pt, p.nms.length = p.sz
  | .mk _ nm _ _ _ _ _ ks => by
    show (nm :: nmsL ks).length = szL ks + 1
    rw [List.length_cons, nmsL_len ks]
theorem nmsL_len : ∀ ks : List Pt, (nmsL ks).length = szL ks
  | [] => rfl
  | p :: r => by
    show (p.nms ++ nmsL r).length = p.sz + szL r
    rw [List.length_append, nms_len p, nmsL_len r]
end
theorem nmsL_app : ∀ a b : List Pt, nmsL (a ++ b) = nmsL a ++ nmsL b
  | [], _ => rfl
  | p :: r, b => by
    show p.nms ++ nmsL (r ++ b) = (p.nms ++ nmsL r) ++ nmsL b
    rw [nmsL_app r b, List.append_assoc]
theorem szL_app : ∀ a b : List Pt, szL (a ++ b) = szL a + szL b
  | [], b => (Nat.zero_add _).symm
  | p :: r, b => by
    show p.sz + szL (r ++ b) = (p.sz + szL r) + szL b
    rw [szL_app r b, Nat.add_assoc]
theorem sz_pos : ∀ p : Pt, 1 ≤ p.sz
  | .mk _ _ _ _ _ _ _ ks => Nat.le_add_left 1 (szL ks)
theorem len_szL : ∀ ks : List Pt, ks.length ≤ szL ks
  | [] => Nat.le_refl _
  | p :: r => by
    have := len_szL r
    have := sz_pos p
    show r.length + 1 ≤ p.sz + szL r
    omega
abbrev wayS (b : Bool) : Str := if b = true then "across" else "along"
def ShelfAt (H : Hp) (v : V) (sh : Option (Bool × Int × Int)) : Prop := match sh with
  | none => v = .non
  | some (b, i, j) => (∃ q : Addr, v = .ref q ∧ H q = some (.tup [.str (wayS b), .int i, .int j])) ∧ (-90 ≤ i ∧ i ≤ 0) ∧ (0 ≤ j ∧ j ≤ 90)
def BoxOk (p : Pt) : Prop := (-20 ≤ p.x ∧ p.x ≤ 1000) ∧ (-20 ≤ p.y ∧ p.y ≤ 1000) ∧ (1 ≤ p.w ∧ p.w ≤ 1000) ∧ (1 ≤ p.h ∧ p.h ≤ 1000)
def PartAt (H : Hp) : Nat → Pt → Prop
  | 0, _ => False
  | d + 1, p => ∃ (bx ws ks : Addr) (ear sh : V), H p.a = some (.tup [.str p.nm, .ref bx, ear, sh, .ref ws, .ref ks]) ∧ H bx = some (.tup [.int p.x, .int p.y, .int p.w, .int p.h]) ∧ ShelfAt H sh p.sh ∧
      H ks = some (.tup (p.ks.map fun k => V.ref k.a)) ∧ BoxOk p ∧ ∀ k ∈ p.ks, PartAt H d k
theorem ShelfAt.tp {H H' : Hp} {v : V} {sh : Option (Bool × Int × Int)} (h : ShelfAt H v sh) (t : Tp H H') : ShelfAt H' v sh := by
  match sh, h with
  | none, h => exact h
  | some (b, i, j), ⟨⟨q, h1, h2⟩, h3⟩ => exact ⟨⟨q, h1, t _ _ h2⟩, h3⟩
theorem PartAt.tp {H H' : Hp} (t : Tp H H') : ∀ {d : Nat} {p : Pt}, PartAt H d p → PartAt H' d p
  | 0, _, h => h
  | d + 1, p, h => by
    obtain ⟨bx, ws, ks, ear, sh, h1, h2, h3, h4, h5, h6⟩ := h
    exact ⟨bx, ws, ks, ear, sh, t _ _ h1, t _ _ h2, h3.tp t, t _ _ h4, h5, fun k hk => (h6 k hk).tp t⟩
end SG
namespace SG
open PySem PySem.Spec PyProof.Rows L2
/-! ### the room -/
def roomD (nl ll : Addr) (left deep : Int) : List (Key × V) := [(Sum.inr "names", .ref nl), (Sum.inr "labels", .ref ll), (Sum.inr "left", .int left), (Sum.inr "deep", .int deep)]
structure RoomAt (H : Hp) (r nl ll : Addr) (ns ls : List Str) (left deep : Int) : Prop where
  ob : H r = some (.dK (roomD nl ll left deep))
  nm : H nl = some (.lst (ns.map V.str))
  lb : H ll = some (.lst (ls.map V.str))
theorem m12 : ¬ ("names" : Str) = ("labels" : Str) := by decide +kernel
theorem m13 : ¬ ("names" : Str) = ("left" : Str) := by decide +kernel
theorem m14 : ¬ ("names" : Str) = ("deep" : Str) := by decide +kernel
theorem m23 : ¬ ("labels" : Str) = ("left" : Str) := by decide +kernel
theorem m24 : ¬ ("labels" : Str) = ("deep" : Str) := by decide +kernel
theorem m34 : ¬ ("left" : Str) = ("deep" : Str) := by decide +kernel
theorem m43 : ¬ ("deep" : Str) = ("left" : Str) := by decide +kernel
section
variable {H H' : Hp} {r nl ll t c p : Addr} {ns ls : List Str} {left deep v : Int} {n : Nat}
theorem dget_of {kvs : List (Key × V)} {k : Str} {o : Option V} (h : H r = some (.dK kvs)) (e : valV kvs (Sum.inr k : Key) = o) : DGet H r (.str k) o := by
  have q := DGet.k (k := Sum.inr k) h
  rw [e] at q
  exact q
theorem dput_of {kvs ls : List (Key × V)} {k : Str} {v : V} (h : H r = some (.dK kvs)) (e : putK kvs (Sum.inr k : Key) v = ls) (hl : kvs.length ≤ 1000) : DPut H r (.str k) v (upd H r (.dK ls)) := by
  have q := DPut.k (k := Sum.inr k) (v := v) h (small1000 hl)
  rw [e] at q
  exact q
theorem RoomAt.g_names (h : RoomAt H r nl ll ns ls left deep) : DGet H r (.str "names") (some (.ref nl)) := dget_of h.ob (by simp [valV, roomD])
theorem RoomAt.g_labels (h : RoomAt H r nl ll ns ls left deep) : DGet H r (.str "labels") (some (.ref ll)) := dget_of h.ob (by simp [valV, roomD, m12])
theorem RoomAt.g_left (h : RoomAt H r nl ll ns ls left deep) : DGet H r (.str "left") (some (.int left)) := dget_of h.ob (by simp [valV, roomD, m13, m23])
theorem RoomAt.g_deep (h : RoomAt H r nl ll ns ls left deep) : DGet H r (.str "deep") (some (.int deep)) := dget_of h.ob (by simp [valV, roomD, m14, m24, m34])
theorem RoomAt.put_left (h : RoomAt H r nl ll ns ls left deep) : DPut H r (.str "left") (.int v) (upd H r (.dK (roomD nl ll v deep))) := dput_of h.ob (by simp [putK, roomD, m13, m23, m43]) (by show 4 ≤ 1000; decide)
theorem RoomAt.put_deep (h : RoomAt H r nl ll ns ls left deep) : DPut H r (.str "deep") (.int v) (upd H r (.dK (roomD nl ll left v))) := dput_of h.ob (by simp [putK, roomD, m14, m24, m34]) (by show 4 ≤ 1000; decide)
theorem RoomAt.same (h : RoomAt H r nl ll ns ls left deep) (s : Same H H') : RoomAt H' r nl ll ns ls left deep := ⟨s _ _ h.ob, s _ _ h.nm, s _ _ h.lb⟩
theorem RoomAt.fr (h : RoomAt H r nl ll ns ls left deep) (T : TapeAt H t c n) (rt : r ≠ t) (f : Fr [t] H H') : RoomAt H' r nl ll ns ls left deep :=
  ⟨f _ _ h.ob (not_in_one rt), f _ _ h.nm (not_in_one (T.ne_lst h.nm)), f _ _ h.lb (not_in_one (T.ne_lst h.lb))⟩
theorem RoomAt.put {o : HO} (h : RoomAt H r nl ll ns ls left deep) (h1 : p ≠ r) (h2 : p ≠ nl) (h3 : p ≠ ll) : RoomAt (upd H p o) r nl ll ns ls left deep :=
  ⟨by rw [upd_ne h1.symm]; exact h.ob, by rw [upd_ne h2.symm]; exact h.nm, by rw [upd_ne h3.symm]; exact h.lb⟩
theorem RoomAt.r_nl (h : RoomAt H r nl ll ns ls left deep) : r ≠ nl := ne_of h.ob h.nm (by intro z; cases z)
theorem RoomAt.r_ll (h : RoomAt H r nl ll ns ls left deep) : r ≠ ll := ne_of h.ob h.lb (by intro z; cases z)
theorem dp_strL {K : PySem.W.Frag} {ws : List Str} (h : H p = some (.lst (ws.map V.str))) : Dp K H (.ref p) (.list (ws.map PyData.str)) := .lst (SqL.of h) (dp_strs ws)
theorem plain_strs : ∀ ws : List Str, PyData.plainAll (ws.map PyData.str) = true
  | [] => rfl
  | x :: r => by
    show (true && PyData.plainAll (r.map PyData.str)) = true
    rw [plain_strs r]; rfl
theorem depth_strs : ∀ ws : List Str, PyData.depthAll (ws.map PyData.str) = 0
  | [] => rfl
  | x :: r => by
    show max 0 (PyData.depthAll (r.map PyData.str)) = 0
    rw [depth_strs r]; rfl
end
section
variable {H H' H1 : Hp} {r nl ll t c p wl : Addr} {ns ls : List Str} {left deep v : Int} {n : Nat}
theorem seq0 {n : Nat} (h : 0 < n) : seqIndex? 0 n = some 0 := by
  unfold seqIndex?
  simp [h]
theorem eqv_nil (ws : List Str) : PyData.eqv (.list (ws.map PyData.str)) (.list (([] : List Str).map PyData.str)) = ws.isEmpty := by
  cases ws <;> simp [PyData.eqv, PyData.eqvAll]
theorem RoomAt.pop_names {nm : Str} (h : RoomAt H r nl ll (nm :: ns) ls left deep) (q : nl ≠ ll) : RoomAt (upd H nl (.lst (ns.map V.str))) r nl ll ns ls left deep :=
  ⟨by rw [upd_ne h.r_nl]; exact h.ob, upd_same, by rw [upd_ne q.symm]; exact h.lb⟩
theorem RoomAt.pop_labels {lb : Str} (h : RoomAt H r nl ll ns (lb :: ls) left deep) (q : nl ≠ ll) : RoomAt (upd H ll (.lst (ls.map V.str))) r nl ll ns ls left deep :=
  ⟨by rw [upd_ne h.r_ll]; exact h.ob, by rw [upd_ne q]; exact h.nm, upd_same⟩
theorem RoomAt.to_left (h : RoomAt H r nl ll ns ls left deep) : RoomAt (upd H r (.dK (roomD nl ll v deep))) r nl ll ns ls v deep :=
  ⟨upd_same, by rw [upd_ne h.r_nl.symm]; exact h.nm, by rw [upd_ne h.r_ll.symm]; exact h.lb⟩
theorem RoomAt.to_deep (h : RoomAt H r nl ll ns ls left deep) : RoomAt (upd H r (.dK (roomD nl ll left v))) r nl ll ns ls left v :=
  ⟨upd_same, by rw [upd_ne h.r_nl.symm]; exact h.nm, by rw [upd_ne h.r_ll.symm]; exact h.lb⟩
theorem Fr.t4 {t r nl ll : Addr} (f : Fr [t] H H') : Fr [t, r, nl, ll] H H' := f.mono fun x hx => by
  rw [List.mem_singleton.mp hx]; simp
theorem off4 {p t r nl ll : Addr} (h1 : p ≠ t) (h2 : p ≠ r) (h3 : p ≠ nl) (h4 : p ≠ ll) : p ∉ [t, r, nl, ll] := by
  simp [h1, h2, h3, h4]
theorem Fr4.tp {k1 k2 : List (Key × V)} {x1 x2 : List V} {t r nl ll : Addr} (f : Fr [t, r, nl, ll] H H') (h1 : H t = some (.dK k1)) (h2 : H r = some (.dK k2)) (h3 : H nl = some (.lst x1)) (h4 : H ll = some (.lst x2)) : Tp H H' := fun b xs e =>
  f _ _ e (off4 (ne_of e h1 (by intro z; cases z)) (ne_of e h2 (by intro z; cases z)) (ne_of e h3 (by intro z; cases z)) (ne_of e h4 (by intro z; cases z)))
end
theorem at2 {x y z v : V} : atI [x, y, z, v] 2 = some z := atI_nat (j := 2) rfl
theorem at3 {x y z v : V} : atI [x, y, z, v] 3 = some v := atI_nat (j := 3) rfl
/-- [..][_law_draw(tape, m)] if p else 0 -/
theorem if_pick {K : PySem.W.Frag} {H : Hp} {t c : Addr} {n : Nat} {xs : List V} {i : Int} {p : Prop} [Decidable p] {A B : Prop} {Q : VK} (hT : TapeAt H t c n) (hn : n ≤ 1000000000) (hm : i = (xs.length : Int)) (hx : 1 ≤ xs.length ∧ xs.length ≤ 1000)
    (hA : (xs.length ≤ sizeLine ∧ ∀ q, H q = none → spDraw [.ref t, .int i] (upd H q (.lst xs)) (fun y H2 => rIxL K (.ref q) y H2 Q) E0) → A) (hB : Q (.int 0) H → B)
    (k : ∀ v H', (p ∧ v ∈ xs) ∨ v = .int 0 → TapeAt H' t c (n + 1) → Fr [t] H H' → Q v H') : if decide p = true then A else B := by
  by_cases hp : p
  · rw [decide_eq_true hp]
    refine iteT (hA ⟨sl1000 hx.2, pick_draw hT hn hm hx fun v H' hv T' F' => k v H' (.inl ⟨hp, hv⟩) T' F'⟩)
  · rw [decide_eq_false hp]
    exact iteF (hB (k _ _ (.inr rfl) (hT.mono (by omega)) (Fr.refl _ _)))
def spPart (d : Nat) : Sp := fun vs H Q _ => ∃ (t c bx r nl ll : Addr) (n left : Nat) (ns ls : List Str) (x y w h : Int), vs = [.ref t, .ref bx, .ref r] ∧ TapeAt H t c n ∧ H bx = some (.tup [.int x, .int y, .int w, .int h]) ∧ ((-20 ≤ x ∧ x ≤ 1000) ∧ (-20 ≤ y ∧ y ≤ 1000) ∧ 1 ≤ w ∧ w ≤ 1000 ∧ 1 ≤ h ∧ h ≤ 1000) ∧
  RoomAt H r nl ll ns ls (left : Int) (d : Int) ∧ (r ≠ t ∧ nl ≠ ll ∧ nl ≠ c ∧ ll ≠ c) ∧ ns.length = left + 1 ∧ left ≤ 29 ∧ n + 1000 * (left + 1) ≤ 50000000 ∧
  ∀ (p : Pt) (ns' ls' : List Str) (left' : Nat) (H' : Hp), PartAt H' (d + 1) p → TapeAt H' t c (n + 1000 * p.sz) → RoomAt H' r nl ll ns' ls' (left' : Int) (d : Int) → ns'.length = left' → left' + p.sz = left + 1 → ns = p.nms ++ ns' → Fr [t, r, nl, ll] H H' → Q (.ref p.a) H'
section
variable {P : Program} {w : World} {K : PySem.W.Frag} {mg : Str → Option Value} {base : Heap}
theorem no_part {D : Df K mg "_law_part" s_law_part ["_law_tape_here", "_law_box", "_law_room"]} : Cl P w K mg base 0 "_law_part" spNone := D.none fun _ _ _ _ h => h
theorem ok_part (D : Df K mg "_law_part" s_law_part ["_law_tape_here", "_law_box", "_law_room"]) (T : Txt K mg) (c_law_draw : Cl P w K mg base 1 "_law_draw" spDraw) (c_law_wish : Cl P w K mg base 3 "_law_wish" spWish) {d : Nat} {sp0 : Sp}
    (c_law_part : Cl P w K mg base (d + 3) "_law_part" sp0) (hsp : ∀ d', d = d' + 1 → sp0 = spPart d') : Cl P w K mg base (d + 4) "_law_part" (spPart d) := by
  refine D.ok sc_law_part (fun vs H Q E h => ?_) (fun f cdv A outer s H vs Q E hr h => ?_)
  · obtain ⟨t, c, bx, r, nl, ll, n, left, ns, ls, x, y, w, h, rfl, _⟩ := h
    rfl
  obtain ⟨t, c, bx, r, nl, ll, n, left, ns, ls, x, y, w, h, rfl, hT, hbx, ⟨hxx, hyy, hwh⟩, hR, ⟨rt, nll, nlc, llc⟩, hns, hleft, hn, k⟩ := h
  have hu := hu_of hr
  refine ⟨_, -- _law_name = _law_room['names'].pop(0)
    (pss_cons (ps_set (i := 3) sc_law_part.nd rfl (Or.inl rfl) (pe_bm PySem.F.plainAttrs_list PySem.F.slot_list_pop PySem.F.type_list_pop mt_popAt (pe_dget hu (pv 2) pe_str (fun _ _ => rfl)) (pa_cons pe_int pa_nil)))
    (pss_cons (ps_set (i := 4) sc_law_part.nd rfl (Or.inl rfl) (pe_ix ix_list (pe_lst (pa_cons pe_non (pa_cons pe_non (pa_cons pe_str (pa_cons pe_str pa_nil))))) (pe_cl c_law_draw (hr.mono (by first | decide | omega)) rfl (pa_cons (pv 0) (pa_cons pe_int pa_nil))) (fun _ _ => rfl)))
    (pss_cons (ps_set (i := 5) sc_law_part.nd rfl (Or.inl rfl) (pe_tup (pa_cons (pe_ix ix_list (pe_lst (pa_cons pe_str (pa_cons pe_str pa_nil))) (pe_cl c_law_draw (hr.mono (by first | decide | omega)) rfl (pa_cons (pv 0) (pa_cons pe_int pa_nil))) (fun _ _ => rfl)) (pa_cons (pe_op op_sub pe_int (pe_cl c_law_draw (hr.mono (by first | decide | omega)) rfl (pa_cons (pv 0) (pa_cons pe_int pa_nil)))) (pa_cons (pe_cl c_law_draw (hr.mono (by first | decide | omega)) rfl (pa_cons (pv 0) (pa_cons pe_int pa_nil))) pa_nil)))))
    (pss_cons (ps_set (i := 6) sc_law_part.nd rfl (Or.inl rfl) (pe_lst pa_nil))
    (pss_cons (ps_for PassesOwn.never rfl (pi_range1 rfl T.m_range (pa_cons (pe_ix ix_list (pe_lst (pa_cons pe_int (pa_cons pe_int (pa_cons pe_int (pa_cons pe_int (pa_cons pe_int (pa_cons pe_int pa_nil))))))) (pe_cl c_law_draw (hr.mono (by first | decide | omega)) rfl (pa_cons (pv 0) (pa_cons pe_int pa_nil))) (fun _ _ => rfl)) pa_nil)) (pg_name (i := 7) sc_law_part.nd rfl (Or.inl rfl))
      (pss_one (ps_if (pt_cmpR (op_neP hr.units) (pe_dget hu (pv 2) pe_str (fun _ _ => rfl)) (pe_lst pa_nil) (nomark _))
        (pss_one (ps_expr (pe_bm PySem.F.plainAttrs_list PySem.F.slot_list_append PySem.F.type_list_append mt_append (pv 6) (pa_cons (pe_cl c_law_wish (hr.mono (by first | decide | omega)) rfl (pa_cons (pv 0) (pa_cons (pe_bm PySem.F.plainAttrs_list PySem.F.slot_list_pop PySem.F.type_list_pop mt_popAt (pe_dget hu (pv 2) pe_str (fun _ _ => rfl)) (pa_cons pe_int pa_nil)) pa_nil))) pa_nil))))
        pss_nil)))
    (pss_cons (ps_set (i := 8) sc_law_part.nd rfl (Or.inl rfl) (pe_lst pa_nil))
    (pss_cons (ps_for PassesOwn.never rfl (pi_range1 rfl T.m_range (pa_cons (pe_ifExp (pt_cmpR op_gt (pe_dget hu (pv 2) pe_str (fun _ _ => rfl)) pe_int (nomark _)) (pe_ix ix_list (pe_lst (pa_cons pe_int (pa_cons pe_int (pa_cons pe_int (pa_cons pe_int pa_nil))))) (pe_cl c_law_draw (hr.mono (by first | decide | omega)) rfl (pa_cons (pv 0) (pa_cons pe_int pa_nil))) (fun _ _ => rfl)) pe_int) pa_nil)) (pg_name (i := 7) sc_law_part.nd rfl (Or.inl rfl))
      (pss_one (ps_if (pt_cmpR op_gt (pe_dget hu (pv 2) pe_str (fun _ _ => rfl)) pe_int (nomark _))
        (pss_cons (ps_dput hu (pv 2) pe_str (pe_op op_sub (pe_dget hu (pv 2) pe_str (fun _ _ => rfl)) pe_int) rfl)
        (pss_cons (ps_dput hu (pv 2) pe_str (pe_op op_sub (pe_dget hu (pv 2) pe_str (fun _ _ => rfl)) pe_int) rfl)
        (pss_cons (ps_par (i := 9) (j := 10) rfl sc_law_part.nd rfl rfl (by decide) rfl rfl (pa_cons (pe_op op_sub (pe_cl c_law_draw (hr.mono (by first | decide | omega)) rfl (pa_cons (pv 0) (pa_cons (pe_ix ix_tup (pv 1) pe_int (fun _ _ => rfl)) pa_nil))) pe_int) (pa_cons (pe_op op_sub (pe_cl c_law_draw (hr.mono (by first | decide | omega)) rfl (pa_cons (pv 0) (pa_cons (pe_ix ix_tup (pv 1) pe_int (fun _ _ => rfl)) pa_nil))) pe_int) pa_nil)) rfl)
        (pss_cons (ps_expr (pe_bm PySem.F.plainAttrs_list PySem.F.slot_list_append PySem.F.type_list_append mt_append (pv 8) (pa_cons (pe_cl c_law_part (hr.mono (by first | decide | omega)) rfl (pa_cons (pv 0) (pa_cons (pe_tup (pa_cons (pv 9) (pa_cons (pv 10) (pa_cons (pe_op op_add pe_int (pe_cl c_law_draw (hr.mono (by first | decide | omega)) rfl (pa_cons (pv 0) (pa_cons (pe_ix ix_tup (pv 1) pe_int (fun _ _ => rfl)) pa_nil)))) (pa_cons (pe_op op_add pe_int (pe_cl c_law_draw (hr.mono (by first | decide | omega)) rfl (pa_cons (pv 0) (pa_cons (pe_ix ix_tup (pv 1) pe_int (fun _ _ => rfl)) pa_nil)))) pa_nil))))) (pa_cons (pv 2) pa_nil)))) pa_nil)))
        (pss_one (ps_dput hu (pv 2) pe_str (pe_op op_add (pe_dget hu (pv 2) pe_str (fun _ _ => rfl)) pe_int) rfl))))))
        pss_nil)))
    (pss_one (ps_ret (pe_tup (pa_cons (pv 3) (pa_cons (pv 1) (pa_cons (pv 4) (pa_cons (pe_ix ix_list (pe_lst (pa_cons pe_non (pa_cons (pv 5) pa_nil))) (pe_cl c_law_draw (hr.mono (by first | decide | omega)) rfl (pa_cons (pv 0) (pa_cons pe_int pa_nil))) (fun _ _ => rfl)) (pa_cons (pe_tupleOf rfl T.m_tuple (pv 6)) (pa_cons (pe_tupleOf rfl T.m_tuple (pv 8)) pa_nil)))))))))))))))), ?_⟩
  obtain ⟨nm, ns1, rfl⟩ : ∃ nm ns1, ns = nm :: ns1 := by
    cases ns with
    | nil => exact absurd hns (by simp)
    | cons a b => exact ⟨a, b, rfl⟩
  have hns1 : ns1.length = left := by simpa using hns
  have nlt : nl ≠ t := hT.ne_lst hR.nm
  have llt : ll ≠ t := hT.ne_lst hR.lb
  have rc : r ≠ c := hT.ne_dctc hR.ob
  refine ⟨_, rfl, r, _, rfl, hR.g_names, .inl ⟨rfl, _, SqL.of hR.nm⟩, nl, _, 0, 0, .str nm, rfl, rfl, hR.nm, by decide, by decide, seq0 (by simp), rfl, ?_⟩
  have R1 := hR.pop_names nll
  have T1 := hT.put (o := .lst (ns1.map V.str)) nlt nlc
  have f1 : Fr [t, r, nl, ll] H (upd H nl (.lst (ns1.map V.str))) := Fr.put (by simp)
  have hbx1 : (upd H nl (.lst (ns1.map V.str))) bx = _ := (Tp.put hR.nm) _ _ hbx
  change (tSeq _ _) _ _ (upd H nl (.lst (ns1.map V.str)))
  generalize upd H nl (.lst (ns1.map V.str)) = H1 at *
  refine ⟨(by show 4 ≤ sizeLine; decide), fun p hp => ⟨_, rfl, pick_draw (xs := [.non, .non, .str "hear", .str "stop"]) (i := 4) T1 (by omega) rfl ⟨by simp, by simp⟩ (fun ear H2 _ T2 f2 => ?_) p hp⟩⟩
  have R2 := R1.fr T1 rt f2
  have p2 := T1.tp f2
  refine ⟨(by show 2 ≤ sizeLine; decide), fun p hp => ⟨_, rfl, pick_draw (xs := [.str "across", .str "along"]) (i := 2) T2 (by omega) rfl ⟨by simp, by simp⟩ (fun zv H3 hzv T3 f3 => ?_) p hp⟩⟩
  obtain ⟨zb, rfl⟩ : ∃ zb : Bool, zv = .str (wayS zb) := by
    simp only [List.mem_cons, List.not_mem_nil, or_false] at hzv
    rcases hzv with rfl | rfl
    · exact ⟨true, rfl⟩
    · exact ⟨false, rfl⟩
  refine ⟨_, rfl, t, c, 90, _, rfl, T3, ⟨by decide, by decide⟩, by omega, fun r4 H4 hr4 T4 f4 => ?_⟩
  refine ⟨_, _, rfl, rfl, _, rfl, t, c, 90, _, rfl, T4, ⟨by decide, by decide⟩, by omega, fun r5 H5 hr5 T5 f5 => ?_⟩
  refine ⟨(by show 3 ≤ sizeLine; decide), ?_⟩
  (intro sh sh0; generalize hh_ : upd _ sh _ = H6; have hsh := upd_is hh_; have sm6 := same_is hh_ sh0; clear hh_)
  have g6 : Fr [t] H2 H6 := ((f3.trans f4).trans f5).trans (Fr.same sm6 _)
  have R6 := (((R2.fr T2 rt f3).fr T3 rt f4).fr T4 rt f5).same sm6
  have T6 := T5.same sm6
  have f6 : Fr [t, r, nl, ll] H H6 := (f1.trans f2.t4).trans g6.t4
  have hbx6 := (p2.trans (T2.tp g6)) _ _ hbx1
  refine ⟨(by show 0 ≤ sizeLine; decide), ?_⟩
  (intro wl wl0; generalize hh_ : upd _ wl _ = H7; have hwl := upd_is hh_; have sm7 := same_is hh_ wl0; clear hh_)
  have wlt := T6.ne_new wl0
  have wlc := T6.ne_newc wl0
  have wlr := ne_fresh R6.ob wl0
  have wln := ne_fresh R6.nm wl0
  have wll := ne_fresh R6.lb wl0
  have wl4 : wl ∉ [t, r, nl, ll] := off4 wlt wlr wln wll
  have wlH := f6.fresh wl0 wl4
  have R7 := R6.same sm7
  have T7 := T6.same sm7
  have f7 := f6.trans (Fr.same sm7 _)
  have hbx7 := sm7 _ _ hbx6
  have hsh7 := sm7 _ _ hsh
  clear R6 T6 f6 hbx6 hsh sm6 sm7 g6 R2 p2 T1 T2 T3 T4 T5 f1 f2 f3 f4 f5 R1 hbx1
  refine ⟨(by show 6 ≤ sizeLine; decide), fun p hp => ⟨_, rfl, pick_draw (xs := [.int 0, .int 1, .int 1, .int 2, .int 3, .int 6]) (i := 6) T7 (by omega) rfl ⟨by simp, by simp⟩ (fun jv H8 hjv T8 f8 => ?_) p hp⟩⟩
  obtain ⟨j, rfl, hj⟩ : ∃ j : Int, jv = .int j ∧ (0 ≤ j ∧ j ≤ 6) := by
    simp only [List.mem_cons, List.not_mem_nil, or_false] at hjv
    rcases hjv with rfl | rfl | rfl | rfl | rfl | rfl
    all_goals exact ⟨_, rfl, by decide, by decide⟩
  have R8 := R7.fr T7 rt f8
  have p8 := T7.tp f8
  have hwl8 := f8 _ _ hwl (not_in_one wlt)
  have ff8 := f7.trans (f8.t4 (r := r) (nl := nl) (ll := ll))
  have hbx8 := p8 _ _ hbx7
  have hsh8 := p8 _ _ hsh7
  clear R7 T7 f7 hbx7 hsh7 f8 p8 hwl
  refine ⟨j, rfl, by omega, by omega, for_range (n := j.toNat) (fun i σ Hx => ∃ (k7 : Option V) (wvs : List V) (ls' : List Str), σ = [some (.ref t), some (.ref bx), some (.ref r), some (.str nm), some ear, some (.ref sh), some (.ref wl), k7, none, none, none] ∧ Hx wl = some (.lst wvs) ∧ wvs.length ≤ i ∧ ImDs Hx 5 wvs ∧ RoomAt Hx r nl ll ns1 ls' (left : Int) (d : Int) ∧ TapeAt Hx t c (n + 6 + 110 * i) ∧ Fr [t, r, nl, ll] H Hx ∧ Tp H8 Hx) ?_ ?_ ?_⟩
  · exact ⟨none, [], ls, rfl, hwl8, Nat.le_refl _, .nil, R8, T8.mono (by omega), ff8, Tp.refl _⟩
  · rintro i σ Hx hi ⟨k7, wvs, ls', rfl, hw1, hw2, hw3, Rx, Tx, fx, px⟩
    clear k
    refine ⟨_, rfl, r, _, rfl, Rx.g_labels, (by show 0 ≤ sizeLine; decide), ?_⟩
    (intro em em0; generalize hh_ : upd _ em _ = H9; have hem := upd_is hh_; have sm9 := same_is hh_ em0; clear hh_)
    refine ⟨_, _, dp_strL (sm9 _ _ Rx.lb), dp_strL (ws := []) hem, plain_strs _, rfl, by show min (PyData.depthAll _ + 1) _ ≤ 64; rw [depth_strs]; omega, _, rfl, ?_⟩
    rw [eqv_nil]
    have R9 := Rx.same sm9
    have T9 := Tx.same sm9
    cases ls' with
    | nil =>
      refine iteF ?_
      exact ⟨_, wvs, [], rfl, sm9 _ _ hw1, by omega, hw3.tp (Tp.same sm9), R9, T9.mono (by omega), fx.trans (Fr.same sm9 _), px.trans (Tp.same sm9)⟩
    | cons lb ls2 =>
      refine iteT ?_
      have hw9 := sm9 _ _ hw1
      refine ⟨_, rfl, .inl ⟨rfl, _, SqL.of hw9⟩, _, rfl, _, rfl, r, _, rfl, R9.g_labels, .inl ⟨rfl, _, SqL.of R9.lb⟩, ll, _, 0, 0, .str lb, rfl, rfl, R9.lb, by decide, by decide, seq0 (by simp), rfl, ?_⟩
      have Ra := R9.pop_labels nll
      have Ta := T9.put (o := .lst (ls2.map V.str)) llt llc
      have fa : Fr [t, r, nl, ll] H9 (upd H9 ll (.lst (ls2.map V.str))) := Fr.put (by simp)
      have pa : Tp H9 (upd H9 ll (.lst (ls2.map V.str))) := Tp.put R9.lb
      have hwa : (upd H9 ll (.lst (ls2.map V.str))) wl = some (.lst wvs) := by rw [upd_ne wll]; exact hw9
      refine ⟨t, c, n + 6 + 110 * i, lb, rfl, Ta, by omega, fun v Hb iv Tb fb => ?_⟩
      have hwb := fb _ _ hwa (not_in_one wlt)
      have Rb := Ra.fr Ta rt fb
      have pb : Tp Hx Hb := ((Tp.same sm9).trans pa).trans (Ta.tp fb)
      refine ⟨wl, wvs, v, rfl, rfl, hwb, Nat.lt_of_lt_of_le (by omega : wvs.length < 1000) (sz (by decide : 1000 ≤ 100000)), ?_⟩
      refine ⟨_, wvs ++ [v], ls2, rfl, upd_same, by simp; omega, ((hw3.tp pb).snoc iv).tp (Tp.put hwb), Rb.put wlr wln wll, (Tb.put wlt wlc).mono (by omega), fx.upd_new ((Fr.same sm9 _).trans (fa.trans fb.t4)) wlH, (px.trans pb).trans (Tp.put hwb)⟩
  rintro σ H9 ⟨k7, wvs, ls1, rfl, hw1, hw2, hw3, R9, T9, f9, p9⟩
  have hw6 : wvs.length ≤ 6 := by omega
  have hbx9 := p9 _ _ hbx8
  have hsh9 := p9 _ _ hsh8
  have T9' : TapeAt H9 t c (n + 666) := T9.mono (by omega)
  clear hw2 T9 R8 T8 ff8 hbx8 hsh8 p9 hwl8
  refine ⟨(by show 0 ≤ sizeLine; decide), ?_⟩
  (intro pl pl0; generalize hh_ : upd _ pl _ = Ha; have hpl := upd_is hh_; have sma := same_is hh_ pl0; clear hh_)
  have plt := T9'.ne_new pl0
  have plc := T9'.ne_newc pl0
  have plr := ne_fresh R9.ob pl0
  have pln := ne_fresh R9.nm pl0
  have pll := ne_fresh R9.lb pl0
  have plw := ne_fresh hw1 pl0
  have pl4 : pl ∉ [t, r, nl, ll] := off4 plt plr pln pll
  have plH := f9.fresh pl0 pl4
  have Ra := R9.same sma
  have Ta := T9'.same sma
  have fa := f9.trans (Fr.same sma _)
  have hbxa := sma _ _ hbx9
  have hsha := sma _ _ hsh9
  have hwa := sma _ _ hw1
  have hw3a := hw3.tp (Tp.same sma)
  clear R9 T9' f9 hbx9 hsh9 hw1 hw3 sma
  refine ⟨_, rfl, r, _, rfl, Ra.g_deep, _, _, rfl, rfl, _, rfl, ?_⟩
  refine if_pick (K := K) (xs := [.int 0, .int 1, .int 2, .int 3]) (i := 4) Ta (by omega) rfl ⟨by simp, by simp⟩ (fun z => ⟨z.1, fun q hq => ⟨_, rfl, z.2 q hq⟩⟩) (fun z => z) (fun jv Hb hjv Tb fb => ?_)
  obtain ⟨j, rfl, hj⟩ : ∃ j : Int, jv = .int j ∧ (0 ≤ j ∧ j ≤ 3) ∧ (0 < j → 0 < (d : Int)) := by
    rcases hjv with ⟨hd, hjv⟩ | rfl
    · simp only [List.mem_cons, List.not_mem_nil, or_false] at hjv
      rcases hjv with rfl | rfl | rfl | rfl
      all_goals exact ⟨_, rfl, by decide, fun _ => hd⟩
    · exact ⟨0, rfl, by decide, fun h => absurd h (by decide)⟩
  have Rb := Ra.fr Ta rt fb
  have pb := Ta.tp fb
  have hplb := fb _ _ hpl (not_in_one plt)
  have hwb := fb _ _ hwa (not_in_one wlt)
  have ffb := fa.trans (fb.t4 (r := r) (nl := nl) (ll := ll))
  have hbxb := pb _ _ hbxa
  have hshb := pb _ _ hsha
  have hw3b := hw3a.tp pb
  clear Ra Ta fb fa hbxa hsha hw3a hwa pb hpl hjv
  refine ⟨j, rfl, by omega, by omega, for_range (n := j.toNat) (fun i σ Hx => ∃ (k7 k9 k10 : Option V) (kas : List Pt) (ns2 ls2 : List Str) (left2 : Nat), σ = [some (.ref t), some (.ref bx), some (.ref r), some (.str nm), some ear, some (.ref sh), some (.ref wl), k7, some (.ref pl), k9, k10] ∧ Hx pl = some (.lst (kas.map fun k => V.ref k.a)) ∧ kas.length ≤ i ∧ (∀ k ∈ kas, PartAt Hx d k) ∧ RoomAt Hx r nl ll ns2 ls2 (left2 : Int) (d : Int) ∧ (ns2.length = left2 ∧ ns1 = nmsL kas ++ ns2) ∧ left2 + szL kas = left ∧ TapeAt Hx t c (n + 667 + 4 * i + 1000 * szL kas) ∧ Fr [t, r, nl, ll] H Hx ∧ Tp Hb Hx ∧ Hx wl = some (.lst wvs)) ?_ ?_ ?_⟩
  · exact ⟨_, none, none, [], ns1, ls1, left, rfl, hplb, Nat.le_refl _, (fun k hk => nomatch hk), Rb, ⟨hns1, rfl⟩, rfl, Tb, ffb, Tp.refl _, hwb⟩
  · rintro i σ Hx hi ⟨k7, k9, k10, kas, ns2, ls2, left2, rfl, a1, a2, a3, Rx, ⟨a4, a4'⟩, a5, Tx, fx, px, a6⟩
    clear k
    have hd : 0 < d := by omega
    obtain ⟨d', rfl⟩ : ∃ d', d = d' + 1 := ⟨d - 1, by omega⟩
    have esp := hsp d' rfl
    subst esp
    refine ⟨_, rfl, r, _, rfl, Rx.g_left, _, _, rfl, rfl, _, rfl, ?_⟩
    refine ite2 (fun pl2 => ?_) (fun _ => ?_)
    · have hl2 : 0 < (left2 : Int) := of_decide_eq_true pl2
      refine ⟨_, rfl, r, _, rfl, Rx.g_left, _, _, rfl, rfl, _, rfl, r, _, rfl, Rx.put_left, ?_⟩
      have Ry := Rx.to_left (v := (left2 : Int) - 1)
      have Ty := Tx.put (o := .dK (roomD nl ll ((left2 : Int) - 1) ((d' + 1 : Nat) : Int))) rt rc
      have py : Tp Hx (upd Hx r (.dK (roomD nl ll ((left2 : Int) - 1) ((d' + 1 : Nat) : Int)))) := Tp.putD Rx.ob
      have fy : Fr [t, r, nl, ll] Hx (upd Hx r (.dK (roomD nl ll ((left2 : Int) - 1) ((d' + 1 : Nat) : Int)))) := Fr.put (by simp)
      have y1 : (upd Hx r (.dK (roomD nl ll ((left2 : Int) - 1) ((d' + 1 : Nat) : Int)))) pl = some (.lst (kas.map (fun k => V.ref k.a))) := by rw [upd_ne plr]; exact a1
      have y2 : (upd Hx r (.dK (roomD nl ll ((left2 : Int) - 1) ((d' + 1 : Nat) : Int)))) wl = some (.lst wvs) := by rw [upd_ne wlr]; exact a6
      generalize (upd Hx r (.dK (roomD nl ll ((left2 : Int) - 1) ((d' + 1 : Nat) : Int)))) = Hy at *
      refine ⟨_, rfl, r, _, rfl, Ry.g_deep, _, _, rfl, rfl, _, rfl, r, _, rfl, Ry.put_deep, ?_⟩
      have Rz := Ry.to_deep (v := ((d' + 1 : Nat) : Int) - 1)
      have Tz := Ty.put (o := .dK (roomD nl ll ((left2 : Int) - 1) (((d' + 1 : Nat) : Int) - 1))) rt rc
      have pz : Tp Hy (upd Hy r (.dK (roomD nl ll ((left2 : Int) - 1) (((d' + 1 : Nat) : Int) - 1)))) := Tp.putD Ry.ob
      have fz : Fr [t, r, nl, ll] Hy (upd Hy r (.dK (roomD nl ll ((left2 : Int) - 1) (((d' + 1 : Nat) : Int) - 1)))) := Fr.put (by simp)
      have z1 : (upd Hy r (.dK (roomD nl ll ((left2 : Int) - 1) (((d' + 1 : Nat) : Int) - 1)))) pl = some (.lst (kas.map (fun k => V.ref k.a))) := by rw [upd_ne plr]; exact y1
      have z2 : (upd Hy r (.dK (roomD nl ll ((left2 : Int) - 1) (((d' + 1 : Nat) : Int) - 1)))) wl = some (.lst wvs) := by rw [upd_ne wlr]; exact y2
      generalize (upd Hy r (.dK (roomD nl ll ((left2 : Int) - 1) (((d' + 1 : Nat) : Int) - 1)))) = Hz at *
      have ez1 : (left2 : Int) - 1 = ((left2 - 1 : Nat) : Int) := by omega
      have ez2 : ((d' + 1 : Nat) : Int) - 1 = (d' : Int) := by omega
      rw [ez1, ez2] at Rz
      have pxz := (px.trans py).trans pz
      have fxz := (fx.trans fy).trans fz
      have hbxz := pxz _ _ hbxb
      have pHz : Tp Hx Hz := py.trans pz
      clear Ry Ty py fy y1 y2 fz pz
      refine ⟨_, rfl, _, rfl, bx, _, 2, .int w, rfl, rfl, SqT.of hbxz, at2, t, c, w, _, rfl, Tz, ⟨by omega, by omega⟩, by omega, fun r1 H1 hr1 T1 f1 => ?_⟩
      have q1 := Tz.tp f1
      refine ⟨_, _, rfl, rfl, _, rfl, _, rfl, bx, _, 3, .int h, rfl, rfl, SqT.of (q1 _ _ hbxz), at3, t, c, h, _, rfl, T1, ⟨by omega, by omega⟩, by omega, fun r2 H2 hr2 T2 f2 => ?_⟩
      have q2 := q1.trans (T1.tp f2)
      have z1a := f2 _ _ (f1 _ _ z1 (not_in_one plt)) (not_in_one plt)
      refine ⟨_, _, rfl, rfl, _, _, rfl, ?_⟩
      refine ⟨_, rfl, .inl ⟨rfl, _, SqL.of z1a⟩, _, rfl, _, rfl, _, rfl, _, rfl, _, rfl, bx, _, 2, .int w, rfl, rfl, SqT.of (q2 _ _ hbxz), at2, t, c, w, _, rfl, T2, ⟨by omega, by omega⟩, by omega, fun r3 H3 hr3 T3 f3 => ?_⟩
      have q3 := q2.trans (T2.tp f3)
      refine ⟨_, _, rfl, rfl, _, rfl, _, rfl, bx, _, 3, .int h, rfl, rfl, SqT.of (q3 _ _ hbxz), at3, t, c, h, _, rfl, T3, ⟨by omega, by omega⟩, by omega, fun r4 H4 hr4 T4 f4 => ?_⟩
      have q4 := q3.trans (T3.tp f4)
      refine ⟨_, _, rfl, rfl, (by show 4 ≤ sizeLine; decide), ?_⟩
      (intro kb kb0; generalize hh_ : upd _ kb _ = H5; have hkb := upd_is hh_; have sm5 := same_is hh_ kb0; clear hh_)
      have g4 : Fr [t] Hz H4 := (f1.trans f2).trans (f3.trans f4)
      have R5 := (Rz.fr Tz rt g4).same sm5
      have T5 := T4.same sm5
      have z1b := sm5 _ _ (g4 _ _ z1 (not_in_one plt))
      have z2b := sm5 _ _ (g4 _ _ z2 (not_in_one wlt))
      have q5 := q4.trans (Tp.same sm5)
      have fx5 := fxz.trans (g4.t4.trans (Fr.same sm5 _))
      clear f1 f2 f3 f4 g4 T1 T2 T3 T4 Tz Rz q1 q2 q3 q4 z1a z1 z2 fxz sm5
      refine ⟨_, rfl, t, c, kb, r, nl, ll, _, left2 - 1, ns2, ls2, _, _, 1 + r3, 1 + r4, rfl, T5, hkb, ⟨⟨by omega, by omega⟩, ⟨by omega, by omega⟩, by omega, by omega, by omega, by omega⟩, R5, ⟨rt, nll, nlc, llc⟩, by omega, by omega, by omega, fun a ns3 ls3 left3 H6 pa T6 R6 hn3 hl3 hnn f6 => ?_⟩
      have z1c := f6 _ _ z1b pl4
      have z2c := f6 _ _ z2b wl4
      obtain ⟨tk, htk⟩ := T5.is
      have q6 : Tp H5 H6 := Fr4.tp f6 htk R5.ob R5.nm R5.lb
      refine ⟨pl, _, .ref a.a, rfl, rfl, z1c, Nat.lt_of_lt_of_le (by rw [List.length_map]; omega : (kas.map (fun k => V.ref k.a)).length < 1000) (sz (by decide : 1000 ≤ 100000)), ?_⟩
      have pq : Tp Hx H6 := (pHz.trans q5).trans q6
      have R7 := R6.put (o := .lst (kas.map (fun k => V.ref k.a) ++ [.ref a.a])) plr pln pll
      have T7 := T6.put (o := .lst (kas.map (fun k => V.ref k.a) ++ [.ref a.a])) plt plc
      have p7 : Tp H6 (upd H6 pl (.lst (kas.map (fun k => V.ref k.a) ++ [.ref a.a]))) := Tp.put z1c
      have f7 := fx5.upd_new (o := .lst (kas.map (fun k => V.ref k.a) ++ [.ref a.a])) f6 plH
      have z1d : (upd H6 pl (.lst (kas.map (fun k => V.ref k.a) ++ [.ref a.a]))) pl = some (.lst ((kas ++ [a]).map (fun k => V.ref k.a))) := by rw [upd_same, List.map_append]; rfl
      have z2d : (upd H6 pl (.lst (kas.map (fun k => V.ref k.a) ++ [.ref a.a]))) wl = some (.lst wvs) := by rw [upd_ne plw.symm]; exact z2c
      have a3d : ∀ k ∈ kas ++ [a], PartAt (upd H6 pl (.lst (kas.map (fun k => V.ref k.a) ++ [.ref a.a]))) (d' + 1) k := fun k hk => by
        rcases List.mem_append.mp hk with hk | hk
        · exact ((a3 k hk).tp pq).tp p7
        · rw [List.mem_singleton.mp hk]; exact pa.tp p7
      have p7d := (pxz.trans (q5.trans q6)).trans p7
      generalize (upd H6 pl (.lst (kas.map (fun k => V.ref k.a) ++ [.ref a.a]))) = H7 at *
      refine ⟨_, rfl, r, _, rfl, R7.g_deep, _, _, rfl, rfl, _, rfl, r, _, rfl, R7.put_deep, ?_⟩
      have R8 := R7.to_deep (v := (d' : Int) + 1)
      have T8 := T7.put (o := .dK (roomD nl ll (left3 : Int) ((d' : Int) + 1))) rt rc
      have ez3 : (d' : Int) + 1 = ((d' + 1 : Nat) : Int) := by omega
      refine ⟨_, _, _, kas ++ [a], ns3, ls3, left3, rfl, by rw [upd_ne plr]; exact z1d, by simp; omega, fun k hk => (a3d k hk).tp (Tp.putD R7.ob), by rw [← ez3]; exact R8, ⟨hn3, by rw [a4', hnn, nmsL_app]; show _ = (nmsL kas ++ (a.nms ++ [])) ++ ns3; rw [List.append_nil, List.append_assoc]⟩, by rw [szL_app]; show left3 + (szL kas + (a.sz + 0)) = left; omega, T8.mono (by rw [szL_app]; show _ ≤ n + 667 + 4 * (i + 1) + 1000 * (szL kas + (a.sz + 0)); omega), f7.trans (Fr.put (by simp)), p7d.trans (Tp.putD R7.ob), by rw [upd_ne wlr]; exact z2d⟩
    · exact ⟨_, _, _, kas, ns2, ls2, left2, rfl, a1, by omega, a3, Rx, ⟨a4, a4'⟩, a5, Tx.mono (by omega), fx, px, a6⟩
  · rintro σ Hx ⟨k7, k9, k10, kas, ns2, ls2, left2, rfl, a1, a2, a3, Rx, ⟨a4, a4'⟩, a5, Tx, fx, px, a6⟩
    have a2' : kas.length ≤ 3 := by omega
    have Tx' : TapeAt Hx t c (n + 679 + 1000 * szL kas) := Tx.mono (by omega)
    have hshx := px _ _ hshb
    have hbxx := px _ _ hbxb
    have hw3x := hw3b.tp px
    refine ⟨_, rfl, _, rfl, _, rfl, _, rfl, (by show 2 ≤ sizeLine; decide), fun p hp => ⟨_, rfl, pick_draw (xs := [.non, .ref sh]) (i := 2) Tx' (by omega) rfl ⟨by simp, by simp⟩ (fun sv H1 hsv T1 f1 => ?_) p hp⟩⟩
    have R1 := Rx.fr Tx' rt f1
    have p1 := Tx'.tp f1
    obtain ⟨shp, is⟩ : ∃ shp, ShelfAt H1 sv shp := by
      simp only [List.mem_cons, List.not_mem_nil, or_false] at hsv
      rcases hsv with rfl | rfl
      · exact ⟨none, rfl⟩
      · exact ⟨some (zb, 0 - r4, r5), ⟨sh, rfl, p1 _ _ hshx⟩, ⟨by omega, by omega⟩, ⟨by omega, by omega⟩⟩
    have w1 := f1 _ _ a6 (not_in_one wlt)
    have w2 := f1 _ _ a1 (not_in_one plt)
    refine ⟨_, rfl, .inl ⟨wl, wvs, rfl, SqL.of w1, ?_⟩⟩
    (intro tw tw0; generalize hh_ : upd _ tw _ = H2; have htw := upd_is hh_; have sm2 := same_is hh_ tw0; clear hh_)
    refine ⟨_, rfl, .inl ⟨pl, _, rfl, SqL.of (sm2 _ _ w2), ?_⟩⟩
    (intro tp tp0; generalize hh_ : upd _ tp _ = H3; have htp := upd_is hh_; have sm3 := same_is hh_ tp0; clear hh_)
    refine ⟨(by show 6 ≤ sizeLine; decide), ?_⟩
    (intro a a0; generalize hh_ : upd _ a _ = H4; have ha := upd_is hh_; have sm4 := same_is hh_ a0; clear hh_)
    have sm := (sm2.trans sm3).trans sm4
    have pp := p1.trans (Tp.same sm)
    refine k (.mk a nm x y w h shp kas) ns2 ls2 left2 H4 ?_ ((T1.same sm).mono (by show _ ≤ n + 1000 * (szL kas + 1); omega)) (R1.same sm) a4 (by show left2 + (szL kas + 1) = _; omega) (by rw [a4']; rfl) (fx.trans (f1.t4.trans (Fr.same sm _)))
    exact ⟨bx, tw, tp, ear, sv, ha, pp _ _ hbxx, is.tp (Tp.same sm), sm4 _ _ htp, ⟨hxx, hyy, ⟨hwh.1, hwh.2.1⟩, ⟨hwh.2.2.1, hwh.2.2.2⟩⟩, fun k hk => (a3 k hk).tp pp⟩
end
end SG
namespace SG
open PySem PySem.Spec PyProof.Rows L2
section
variable {P : Program} {w : World} {K : PySem.W.Frag} {mg : Str → Option Value} {base : Heap}
theorem all_part (D : Df K mg "_law_part" s_law_part ["_law_tape_here", "_law_box", "_law_room"]) (T : Txt K mg) (c_law_draw : Cl P w K mg base 1 "_law_draw" spDraw) (c_law_wish : Cl P w K mg base 3 "_law_wish" spWish) :
    ∀ d : Nat, Cl P w K mg base (d + 4) "_law_part" (spPart d)
  | 0 => ok_part D T c_law_draw c_law_wish ((no_part (D := D)).mono (by omega)) (fun d' e => absurd e (by omega))
  | d + 1 => ok_part D T c_law_draw c_law_wish (all_part D T c_law_draw c_law_wish d) (fun d' e => by cases e; rfl)
/-! ### pairs -/
def spPairs : Sp := fun vs H Q _ => ∃ (t c lb : Addr) (n : Nat) (ls : List V), vs = [.ref t, .ref lb] ∧ TapeAt H t c n ∧ H lb = some (.lst ls) ∧ ls.length ≤ 20 ∧ n ≤ 90000000 ∧
  ∀ (a : Addr) (x y : V) (H' : Hp), H' a = some (.tup [x, y]) → TapeAt H' t c (n + 4000) → Fr [t] H H' → Q (.ref a) H'
theorem ok_pairs (D : Df K mg "_law_pairs" s_law_pairs ["_law_tape_here", "_law_labels"]) (T : Txt K mg) (c_law_draw : Cl P w K mg base 1 "_law_draw" spDraw) : Cl P w K mg base 2 "_law_pairs" spPairs := by
  refine D.ok sc_law_pairs (fun vs H Q E h => ?_) (fun f cdv A outer s H vs Q E hr h => ?_)
  · obtain ⟨t, c, lb, n, ls, rfl, _⟩ := h
    rfl
  obtain ⟨t, c, lb, n, ls, rfl, hT, hlb, h20, hn, k⟩ := h
  have hu := hu_of hr
  refine ⟨_, -- _law_turn = _law_draw(_law_tape_here, len(_law_labels) + 1)
    (pss_cons (ps_set (i := 2) sc_law_pairs.nd rfl (Or.inl rfl) (pe_cl c_law_draw (hr.mono (by first | decide | omega)) rfl (pa_cons (pv 0) (pa_cons (pe_op op_add (pe_callB call_len_seq (by rfl) T.m_len PySem.boot_len (pa_cons (pv 1) pa_nil)) pe_int) pa_nil))))
    (pss_cons (ps_set (i := 3) sc_law_pairs.nd rfl (Or.inl rfl) (pe_op op_cat (pe_slice sl_list (pv 1) (po_some (pv 2)) po_none) (pe_slice sl_list (pv 1) po_none (po_some (pv 2)))))
    (pss_cons (ps_set (i := 4) sc_law_pairs.nd rfl (Or.inl rfl) (pe_lst pa_nil))
    (pss_cons (ps_set (i := 5) sc_law_pairs.nd rfl (Or.inl rfl) (pe_lst pa_nil))
    (pss_cons (ps_for PassesOwn.never rfl (pi_range1 rfl T.m_range (pa_cons (pe_callB call_len_seq (by rfl) T.m_len PySem.boot_len (pa_cons (pv 3) pa_nil)) pa_nil)) (pg_name (i := 6) sc_law_pairs.nd rfl (Or.inl rfl))
      (pss_one (ps_for PassesOwn.never rfl (pi_range1 rfl T.m_range (pa_cons (pv 6) pa_nil)) (pg_name (i := 7) sc_law_pairs.nd rfl (Or.inl rfl))
        (pss_cons (ps_set (i := 8) sc_law_pairs.nd rfl (Or.inl rfl) (pe_cl c_law_draw (hr.mono (by first | decide | omega)) rfl (pa_cons (pv 0) (pa_cons pe_int pa_nil))))
        (C8.pss_cut (ps_if (pt_cmpR op_eq (pv 8) pe_int (nomark _))
          (pss_one (ps_expr (pe_bm PySem.F.plainAttrs_list PySem.F.slot_list_append PySem.F.type_list_append mt_append (pv 4) (pa_cons (pe_ix ix_list (pe_lst (pa_cons (pe_tup (pa_cons (pe_ix ix_list (pv 3) (pv 6) (fun _ _ => rfl)) (pa_cons (pe_ix ix_list (pv 3) (pv 7) (fun _ _ => rfl)) pa_nil))) (pa_cons (pe_tup (pa_cons (pe_ix ix_list (pv 3) (pv 7) (fun _ _ => rfl)) (pa_cons (pe_ix ix_list (pv 3) (pv 6) (fun _ _ => rfl)) pa_nil))) pa_nil))) (pe_cl c_law_draw (hr.mono (by first | decide | omega)) rfl (pa_cons (pv 0) (pa_cons pe_int pa_nil))) (fun _ _ => rfl)) pa_nil))))
          pss_nil)
        (pss_one (ps_if (pt_cmpR op_in_seq (pv 8) (pe_tup (pa_cons pe_int (pa_cons pe_int pa_nil))) (by with_unfolding_all rfl))
          (pss_one (ps_expr (pe_bm PySem.F.plainAttrs_list PySem.F.slot_list_append PySem.F.type_list_append mt_append (pv 5) (pa_cons (pe_tup (pa_cons (pe_ix ix_list (pv 3) (pv 7) (fun _ _ => rfl)) (pa_cons (pe_ix ix_list (pv 3) (pv 6) (fun _ _ => rfl)) pa_nil))) pa_nil))))
          pss_nil)))))))
    (pss_one (ps_ret (pe_tup (pa_cons (pe_tupleOf rfl T.m_tuple (pv 4)) (pa_cons (pe_tupleOf rfl T.m_tuple (pv 5)) pa_nil)))))))))), ?_⟩
  refine ⟨_, rfl, _, rfl, lb, _, rfl, .inl (SqL.of hlb), _, _, rfl, rfl, t, c, _, _, rfl, hT, ⟨by omega, by omega⟩, by omega, fun r1 H1 hr1 T1 f1 => ?_⟩
  have hlb1 := f1 _ _ hlb (not_in_one (hT.ne_lst hlb))
  refine ⟨_, rfl, _, rfl, r1, rfl, lb, ls, rfl, SqL.of hlb1, ?_⟩
  (intro a1 a10; generalize hh_ : upd _ a1 _ = H2; have ha1 := upd_is hh_; have sm2 := same_is hh_ a10; clear hh_)
  refine ⟨_, rfl, _, rfl, r1, rfl, lb, ls, rfl, SqL.of (sm2 _ _ hlb1), ?_⟩
  (intro a2 a20; generalize hh_ : upd _ a2 _ = H3; have ha2 := upd_is hh_; have sm3 := same_is hh_ a20; clear hh_)
  have l1 := cutV_length ls (some r1) none
  have l2 := cutV_length ls none (some r1)
  refine ⟨a1, a2, _, _, rfl, rfl, sm3 _ _ ha1, ha2, sz (by omega), ?_⟩
  (intro od od0; generalize hh_ : upd _ od _ = H4; have hod := upd_is hh_; have sm4 := same_is hh_ od0; clear hh_)
  have hos : (cutV ls (some r1) none ++ cutV ls none (some r1)).length ≤ 40 := by rw [List.length_append]; omega
  generalize cutV ls (some r1) none ++ cutV ls none (some r1) = os at *
  have sma := (sm2.trans sm3).trans sm4
  have T4 := T1.same sma
  have f4 := f1.trans (Fr.same sma _)
  have odt := (T1.same (sm2.trans sm3)).ne_new od0
  clear l1 l2 ha1 ha2 sm2 sm3 sm4 sma hlb1
  refine ⟨(by show 0 ≤ sizeLine; decide), ?_⟩
  (intro bs bs0; generalize hh_ : upd _ bs _ = H5; have hbs := upd_is hh_; have sm5 := same_is hh_ bs0; clear hh_)
  refine ⟨(by show 0 ≤ sizeLine; decide), ?_⟩
  (intro hs hs0; generalize hh_ : upd _ hs _ = H6; have hhs := upd_is hh_; have sm6 := same_is hh_ hs0; clear hh_)
  have T5 := T4.same sm5
  have T6 := T5.same sm6
  have bst := T4.ne_new bs0
  have bsc := T4.ne_newc bs0
  have bso := ne_fresh hod bs0
  have hst := T5.ne_new hs0
  have hsc := T5.ne_newc hs0
  have hso := ne_fresh (sm5 _ _ hod) hs0
  have hsb := ne_fresh hbs hs0
  have f6 := (f4.trans (Fr.same sm5 _)).trans (Fr.same sm6 _)
  have bsH := f4.fresh bs0 (not_in_one bst)
  have hsH := (f4.trans (Fr.same sm5 _)).fresh hs0 (not_in_one hst)
  have hod6 := sm6 _ _ (sm5 _ _ hod)
  have hbs6 := sm6 _ _ hbs
  clear f4 T4 T5 hod hbs sm5 sm6
  refine ⟨_, rfl, od, os, rfl, .inl (SqL.of hod6), _, rfl, by omega, by omega, for_range (n := ((os.length : Nat) : Int).toNat) (fun i σ Hx => ∃ (k6 k7 k8 : Option V) (xs ys : List V), σ = [some (.ref t), some (.ref lb), some (.int r1), some (.ref od), some (.ref bs), some (.ref hs), k6, k7, k8] ∧ Hx od = some (.lst os) ∧ Hx bs = some (.lst xs) ∧ Hx hs = some (.lst ys) ∧ xs.length ≤ 40 * i ∧ ys.length ≤ 40 * i ∧ TapeAt Hx t c (n + 1 + 80 * i) ∧ Fr [t] H Hx) ?_ ?_ ?_⟩
  · exact ⟨none, none, none, [], [], rfl, hod6, hbs6, hhs, Nat.le_refl _, Nat.le_refl _, T6, f6⟩
  · rintro i σ Hx hi ⟨k6, k7, k8, xs, ys, rfl, x1, x2, x3, x4, x5, Tx, fx⟩
    have hi' : i < os.length := by omega
    obtain ⟨vk, _, ek⟩ := at_in (xs := os) (i := 0 + (i : Int)) (by omega) (by omega)
    refine ⟨_, rfl, 0 + (i : Int), rfl, by omega, by omega, for_range (n := (0 + (i : Int)).toNat) (fun j σ Hy => ∃ (k7 k8 : Option V) (xs ys : List V), σ = [some (.ref t), some (.ref lb), some (.int r1), some (.ref od), some (.ref bs), some (.ref hs), some (.int (0 + (i : Int))), k7, k8] ∧ Hy od = some (.lst os) ∧ Hy bs = some (.lst xs) ∧ Hy hs = some (.lst ys) ∧ xs.length ≤ 40 * i + j ∧ ys.length ≤ 40 * i + j ∧ TapeAt Hy t c (n + 1 + 80 * i + 2 * j) ∧ Fr [t] H Hy) ?_ ?_ ?_⟩
    · exact ⟨_, _, xs, ys, rfl, x1, x2, x3, x4, x5, Tx, fx⟩
    · rintro j σ Hy hj ⟨k7, k8, xs, ys, rfl, y1, y2, y3, y4, y5, Ty, fy⟩
      have hj' : j < os.length := by omega
      obtain ⟨vj, _, ej⟩ := at_in (xs := os) (i := 0 + (j : Int)) (by omega) (by omega)
      refine ⟨_, rfl, t, c, 7, _, rfl, Ty, ⟨by decide, by decide⟩, by omega, fun r7 H7 hr7 T7 f7 => ?_⟩
      have z1 := f7 _ _ y1 (not_in_one odt)
      have z2 := f7 _ _ y2 (not_in_one bst)
      have z3 := f7 _ _ y3 (not_in_one hst)
      have fz := fy.trans f7
      refine ⟨fun σ' H' => ∃ xs', σ' = [some (.ref t), some (.ref lb), some (.int r1), some (.ref od), some (.ref bs), some (.ref hs), some (.int (0 + (i : Int))), some (.int (0 + (j : Int))), some (.int r7)] ∧ H' od = some (.lst os) ∧ H' bs = some (.lst xs') ∧ H' hs = some (.lst ys) ∧ xs'.length ≤ 40 * i + j + 1 ∧ TapeAt H' t c (n + 1 + 80 * i + 2 * j + 2) ∧ Fr [t] H H', ?_, ?_⟩
      · refine ⟨_, rfl, rfl, _, rfl, ?_⟩
        refine ite2 (fun _ => ?_) (fun _ => ⟨xs, rfl, z1, z2, z3, by omega, T7.mono (by omega), fz⟩)
        refine ⟨_, rfl, .inl ⟨rfl, _, SqL.of z2⟩, _, rfl, _, rfl, od, _, _, _, rfl, rfl, SqL.of z1, ek, _, rfl, _, rfl, od, _, _, _, rfl, rfl, SqL.of z1, ej, (by show 2 ≤ sizeLine; decide), ?_⟩
        (intro q1 q10; generalize hh_ : upd _ q1 _ = H8; have hq1 := upd_is hh_; have sm8 := same_is hh_ q10; clear hh_)
        have w1 := sm8 _ _ z1
        refine ⟨_, rfl, _, rfl, od, _, _, _, rfl, rfl, SqL.of w1, ej, _, rfl, _, rfl, od, _, _, _, rfl, rfl, SqL.of w1, ek, (by show 2 ≤ sizeLine; decide), ?_⟩
        (intro q2 q20; generalize hh_ : upd _ q2 _ = H9; have hq2 := upd_is hh_; have sm9 := same_is hh_ q20; clear hh_)
        have sm89 := sm8.trans sm9
        have T9 := T7.same sm89
        refine ⟨(by show 2 ≤ sizeLine; decide), fun p hp => ⟨_, rfl, pick_draw (xs := [.ref q1, .ref q2]) (i := 2) T9 (by omega) rfl ⟨by simp, by simp⟩ (fun v Ha _ Ta fa => ?_) p hp⟩⟩
        have g := (fz.trans (Fr.same sm89 _)).trans fa
        have u1 := fa _ _ (sm89 _ _ z1) (not_in_one odt)
        have u2 := fa _ _ (sm89 _ _ z2) (not_in_one bst)
        have u3 := fa _ _ (sm89 _ _ z3) (not_in_one hst)
        refine ⟨bs, xs, v, rfl, rfl, u2, Nat.lt_of_lt_of_le (by omega : xs.length < 10000) (sz (by decide : 10000 ≤ 100000)), ?_⟩
        exact ⟨xs ++ [v], rfl, by rw [upd_ne bso.symm]; exact u1, upd_same, by rw [upd_ne hsb]; exact u3, by simp; omega, (Ta.put bst bsc).mono (by omega), g.upd_new (Fr.refl _ _) bsH⟩
      · rintro σ' Hz ⟨xs', rfl, z1, z2, z3, z4, Tz, fz⟩
        refine ⟨_, rfl, (by show 2 ≤ sizeLine; decide), ?_⟩
        (intro q1 q10; generalize hh_ : upd _ q1 _ = H8; have hq1 := upd_is hh_; have sm8 := same_is hh_ q10; clear hh_)
        refine ⟨q1, _, rfl, .inr (SqT.of hq1), rfl, rfl, _, rfl, ?_⟩
        have w1 := sm8 _ _ z1
        have w2 := sm8 _ _ z2
        have w3 := sm8 _ _ z3
        have T8 := Tz.same sm8
        have f8 := fz.trans (Fr.same sm8 _)
        refine ite2 (fun _ => ?_) (fun _ => ⟨_, _, xs', ys, rfl, w1, w2, w3, by omega, by omega, T8.mono (by omega), f8⟩)
        refine ⟨_, rfl, .inl ⟨rfl, _, SqL.of w3⟩, _, rfl, _, rfl, od, _, _, _, rfl, rfl, SqL.of w1, ej, _, rfl, _, rfl, od, _, _, _, rfl, rfl, SqL.of w1, ek, (by show 2 ≤ sizeLine; decide), ?_⟩
        (intro q2 q20; generalize hh_ : upd _ q2 _ = H9; have hq2 := upd_is hh_; have sm9 := same_is hh_ q20; clear hh_)
        refine ⟨hs, ys, _, rfl, rfl, sm9 _ _ w3, Nat.lt_of_lt_of_le (by omega : ys.length < 10000) (sz (by decide : 10000 ≤ 100000)), ?_⟩
        exact ⟨_, _, xs', ys ++ [.ref q2], rfl, by rw [upd_ne hso.symm]; exact sm9 _ _ w1, by rw [upd_ne hsb.symm]; exact sm9 _ _ w2, upd_same, by omega, by simp; omega, ((T8.same sm9).put hst hsc).mono (by omega), f8.upd_new (Fr.same sm9 _) hsH⟩
    · rintro σ Hy ⟨k7, k8, xs, ys, rfl, y1, y2, y3, y4, y5, Ty, fy⟩
      exact ⟨_, _, _, xs, ys, rfl, y1, y2, y3, by omega, by omega, Ty.mono (by omega), fy⟩
  · rintro σ Hx ⟨k6, k7, k8, xs, ys, rfl, x1, x2, x3, x4, x5, Tx, fx⟩
    refine ⟨_, rfl, .inl ⟨bs, xs, rfl, SqL.of x2, ?_⟩⟩
    (intro q1 q10; generalize hh_ : upd _ q1 _ = Ha; have hq1 := upd_is hh_; have sma := same_is hh_ q10; clear hh_)
    refine ⟨_, rfl, .inl ⟨hs, ys, rfl, SqL.of (sma _ _ x3), ?_⟩⟩
    (intro q2 q20; generalize hh_ : upd _ q2 _ = Hb; have hq2 := upd_is hh_; have smb := same_is hh_ q20; clear hh_)
    refine ⟨(by show 2 ≤ sizeLine; decide), ?_⟩
    (intro q3 q30; generalize hh_ : upd _ q3 _ = Hc; have hq3 := upd_is hh_; have smc := same_is hh_ q30; clear hh_)
    exact k q3 _ _ Hc hq3 ((Tx.same ((sma.trans smb).trans smc)).mono (by omega)) (fx.trans (Fr.same ((sma.trans smb).trans smc) _))
end
end SG
namespace SG
open PySem PySem.Spec PyProof.Rows L2
/-! ### scenes -/
section
variable {H H' H1 H2 : Hp} {t r nl ll : Addr}
theorem Fr.drop4 (a : Fr [t] H H1) (b : Fr [t, r, nl, ll] H1 H2) (h1 : H r = none) (h2 : H nl = none) (h3 : H ll = none) : Fr [t] H H2 := fun p o e n => by
  refine b _ _ (a _ _ e n) (off4 (by simpa using n) (ne_of_none e h1) (ne_of_none e h2) (ne_of_none e h3))
theorem room_is (nl ll : Addr) (left deep : Int) : mergeK [] [((Sum.inr ("names" : Str) : Key), V.ref nl), (Sum.inr ("labels" : Str), .ref ll), (Sum.inr ("left" : Str), .int left), (Sum.inr ("deep" : Str), .int deep)] = roomD nl ll left deep := by
  simp [mergeK, putK, roomD, m12, m13, m14, m23, m24, m34]
theorem cut_map (ws : List Str) (lo hi : Option Int) : ∃ us : List Str, cutV (ws.map V.str) lo hi = us.map V.str := by
  refine ⟨(ws.drop (HT.sIx ws.length 0 lo)).take (HT.sIx ws.length ws.length hi - HT.sIx ws.length 0 lo), ?_⟩
  unfold cutV
  rw [List.map_take, List.map_drop, List.length_map]
theorem cut_to {ws : List Str} {m : Nat} (h : m ≤ ws.length) : cutV (ws.map V.str) none (some (m : Int)) = (ws.take m).map V.str := by
  unfold cutV
  rw [HT.sIx_none, HT.sIx_nat, List.length_map, List.drop_zero, Nat.sub_zero, Nat.min_eq_left h, List.map_take]
theorem cut_from {ws : List Str} {m : Nat} (h : m ≤ ws.length) : cutV (ws.map V.str) (some (m : Int)) none = (ws.drop m).map V.str := by
  unfold cutV
  rw [HT.sIx_none, HT.sIx_nat, List.length_map, Nat.min_eq_left h, List.map_drop]
  exact List.take_of_length_le (by simp)
end
def SceneAt (H : Hp) (a : Addr) (p : Pt) : Prop := (∃ (b hd : V), H a = some (.tup [.ref p.a, b, hd])) ∧ PartAt H 6 p ∧ p.sz ≤ 30 ∧ p.nms.Nodup
theorem SceneAt.tp {H H' : Hp} {a : Addr} {p : Pt} (h : SceneAt H a p) (t : Tp H H') : SceneAt H' a p := by
  obtain ⟨⟨b, hd, h1⟩, h2, h3⟩ := h
  exact ⟨⟨b, hd, t _ _ h1⟩, h2.tp t, h3⟩
def spScene : Sp := fun vs H Q _ => ∃ (t c : Addr) (n m : Nat), vs = [.ref t, .int m, .int 4] ∧ TapeAt H t c n ∧ 1 ≤ m ∧ m ≤ 30 ∧ n ≤ 10000000 ∧
  ∀ (a : Addr) (p : Pt) (H' : Hp), SceneAt H' a p → TapeAt H' t c (n + 40000) → Fr [t] H H' → Q (.ref a) H'
section
variable {P : Program} {w : World} {K : PySem.W.Frag} {mg : Str → Option Value} {base : Heap}
theorem ok_scene (D : Df K mg "_law_scene" s_law_scene ["_law_tape_here", "_law_many", "_law_labels"]) (T : Txt K mg) (c_law_draw : Cl P w K mg base 1 "_law_draw" spDraw) (c_law_words : Cl P w K mg base 2 "_law_words" spWords)
    (c_law_part : Cl P w K mg base 9 "_law_part" (spPart 5)) (c_law_pairs : Cl P w K mg base 2 "_law_pairs" spPairs) : Cl P w K mg base 10 "_law_scene" spScene := by
  refine D.ok sc_law_scene (fun vs H Q E h => ?_) (fun f cdv A outer s H vs Q E hr h => ?_)
  · obtain ⟨t, c, n, m, rfl, _⟩ := h
    rfl
  obtain ⟨t, c, n, m, rfl, hT, hm1, hm30, hn, k⟩ := h
  have hu := hu_of hr
  refine ⟨_, -- _law_words_here = _law_words(_law_tape_here, _law_many + _law_labels)
    (pss_cons (ps_set (i := 3) sc_law_scene.nd rfl (Or.inl rfl) (pe_cl c_law_words (hr.mono (by first | decide | omega)) rfl (pa_cons (pv 0) (pa_cons (pe_op op_add (pv 1) (pv 2)) pa_nil))))
    (pss_cons (ps_set (i := 4) sc_law_scene.nd rfl (Or.inr rfl) (pe_disp (pps_cons pe_str (pe_slice sl_list (pv 3) po_none (po_some (pv 1))) (pps_cons pe_str (pe_slice sl_list (pv 3) (po_some (pv 1)) po_none) (pps_cons pe_str (pe_op op_sub (pv 1) pe_int) (pps_cons pe_str pe_int pps_nil)))) rfl rfl (by decide) (by decide)))
    (pss_cons (ps_set (i := 5) sc_law_scene.nd rfl (Or.inl rfl) (pe_ix ix_list (pe_lst (pa_cons pe_int (pa_cons pe_int (pa_cons pe_int pa_nil)))) (pe_cl c_law_draw (hr.mono (by first | decide | omega)) rfl (pa_cons (pv 0) (pa_cons pe_int pa_nil))) (fun _ _ => rfl)))
    (pss_cons (ps_set (i := 6) sc_law_scene.nd rfl (Or.inl rfl) (pe_cl c_law_part (hr.mono (by first | decide | omega)) rfl (pa_cons (pv 0) (pa_cons (pe_tup (pa_cons (pe_op op_sub (pe_cl c_law_draw (hr.mono (by first | decide | omega)) rfl (pa_cons (pv 0) (pa_cons pe_int pa_nil))) pe_int) (pa_cons (pe_op op_sub (pe_cl c_law_draw (hr.mono (by first | decide | omega)) rfl (pa_cons (pv 0) (pa_cons pe_int pa_nil))) pe_int) (pa_cons (pv 5) (pa_cons (pv 5) pa_nil))))) (pa_cons (pv 4) pa_nil)))))
    (pss_cons (ps_setLc (i := 7) (own := [("_law_label", 10)]) rfl sc_law_scene.nd rfl rfl (sw_true rfl rfl rfl (by decide +kernel)) (pi_list (pe_slice sl_list (pv 3) (po_some (pv 1)) po_none)) (blkOk_by (N := N_law_scene) (sc := defScope s_law_scene) (by decide +kernel)) (fun _ _ _ _ _ => (pg_name (i := 10) sc_law_scene.nd rfl (Or.inl rfl))) (fun _ _ _ _ _ => pts_one (pt_cmpR (r := rIn K true) op_notIn_seq (pv 10) (pe_dget hu (pv 4) pe_str (fun _ _ => rfl)) (by with_unfolding_all rfl))) (fun _ _ _ _ _ => (pv 10)))
    (pss_cons (ps_asg (pe_cl c_law_pairs (hr.mono (by first | decide | omega)) rfl (pa_cons (pv 0) (pa_cons (pv 7) pa_nil))) (pg_tup rfl (pgs_cons (pg_name (i := 8) sc_law_scene.nd rfl (Or.inl rfl)) (pgs_cons (pg_name (i := 9) sc_law_scene.nd rfl (Or.inl rfl)) pgs_nil))))
    (pss_one (ps_ret (pe_tup (pa_cons (pv 6) (pa_cons (pv 8) (pa_cons (pv 9) pa_nil)))))))))))), ?_⟩
  have em : (m : Int) + 4 = ((m + 4 : Nat) : Int) := by omega
  refine ⟨_, rfl, _, rfl, _, rfl, _, _, rfl, rfl, t, c, m + 4, n, by rw [← em]; rfl, hT, by omega, by omega, fun wl ws H1 wl0 hws hwlen wnd T1 f1 => ?_⟩
  have wlt := hT.ne_new wl0
  (intro r r0; generalize hh_ : upd _ r _ = H2; have hr2 := upd_is hh_; have sm2 := same_is hh_ r0; clear hh_)
  have rt := T1.ne_new r0
  have rc := T1.ne_newc r0
  have rH := f1.fresh r0 (not_in_one rt)
  have hws2 := sm2 _ _ hws
  refine ⟨_, rfl, _, rfl, _, rfl, wl, _, rfl, SqL.of hws2, ?_⟩
  (intro nl nl0; generalize hh_ : upd _ nl _ = H3; have hnl := upd_is hh_; have sm3 := same_is hh_ nl0; clear hh_)
  have nwl := ne_fresh hws2 nl0
  have hws3 := sm3 _ _ hws2
  have T2 := T1.same sm2
  have f2 := f1.trans (Fr.same sm2 _)
  have nlc := T2.ne_newc nl0
  have nlH := f2.fresh nl0 (not_in_one (T2.ne_new nl0))
  refine ⟨_, rfl, _, rfl, _, rfl, wl, _, rfl, SqL.of hws3, ?_⟩
  (intro ll ll0; generalize hh_ : upd _ ll _ = H4; have hll := upd_is hh_; have sm4 := same_is hh_ ll0; clear hh_)
  have T3 := T2.same sm3
  have f3 := f2.trans (Fr.same sm3 _)
  have llc := T3.ne_newc ll0
  have llH := f3.fresh ll0 (not_in_one (T3.ne_new ll0))
  have lln := ne_fresh hnl ll0
  have lwl := ne_fresh hws3 ll0
  have hws4 := sm4 _ _ hws3
  have T4 := T3.same sm4
  have f4 := f3.trans (Fr.same sm4 _)
  have hnl4 := sm4 _ _ hnl
  have hr4 := sm4 _ _ (sm3 _ _ hr2)
  have r_nl : r ≠ nl := ne_of hr4 hnl4 (by intro z; cases z)
  have r_ll : r ≠ ll := ne_of hr4 hll (by intro z; cases z)
  have r_wl : r ≠ wl := ne_of hr4 hws4 (by intro z; cases z)
  rw [cut_to (by omega : m ≤ ws.length)] at hnl4
  rw [cut_from (by omega : m ≤ ws.length)] at hll
  refine ⟨_, rfl, _, _, rfl, rfl, hr4, [((Sum.inr ("names" : Str) : Key), V.ref nl), (Sum.inr ("labels" : Str), .ref ll), (Sum.inr ("left" : Str), .int ((m : Int) - 1)), (Sum.inr ("deep" : Str), .int 5)], rfl, (by show 4 ≤ 15; decide), ?_⟩
  rw [room_is]
  have R5 : RoomAt (upd H4 r (.dK (roomD nl ll ((m : Int) - 1) 5))) r nl ll (ws.take m) (ws.drop m) ((m : Int) - 1) 5 := ⟨upd_same, by rw [upd_ne r_nl.symm]; exact hnl4, by rw [upd_ne r_ll.symm]; exact hll⟩
  have T5 := T4.put (o := .dK (roomD nl ll ((m : Int) - 1) 5)) rt rc
  have f5 := f4.upd_new (o := .dK (roomD nl ll ((m : Int) - 1) 5)) (Fr.refl _ _) rH
  have hws5 : (upd H4 r (.dK (roomD nl ll ((m : Int) - 1) 5))) wl = some (.lst (ws.map V.str)) := by rw [upd_ne r_wl.symm]; exact hws4
  generalize (upd H4 r (.dK (roomD nl ll ((m : Int) - 1) 5))) = H5 at *
  clear hws2 hws3 hws4 T1 T2 T3 T4 f1 f2 f3 f4 hnl4 hr4 hll hws hnl hr2 sm2 sm3 sm4
  refine ⟨(by show 3 ≤ sizeLine; decide), fun p hp => ⟨_, rfl, pick_draw (xs := [.int 200, .int 100, .int 900]) (i := 3) T5 (by omega) rfl ⟨by simp, by simp⟩ (fun wv H6 hwv T6 f6 => ?_) p hp⟩⟩
  obtain ⟨wd, rfl, hwd⟩ : ∃ wd : Int, wv = .int wd ∧ (1 ≤ wd ∧ wd ≤ 1000) := by
    simp only [List.mem_cons, List.not_mem_nil, or_false] at hwv
    rcases hwv with rfl | rfl | rfl
    all_goals exact ⟨_, rfl, by decide, by decide⟩
  refine ⟨_, rfl, _, rfl, t, c, 40, _, rfl, T6, ⟨by decide, by decide⟩, by omega, fun r7 H7 hr7 T7 f7 => ?_⟩
  refine ⟨_, _, rfl, rfl, _, rfl, t, c, 40, _, rfl, T7, ⟨by decide, by decide⟩, by omega, fun r8 H8 hr8 T8 f8 => ?_⟩
  refine ⟨_, _, rfl, rfl, _, rfl, _, rfl, (by show 4 ≤ sizeLine; decide), ?_⟩
  (intro bx bx0; generalize hh_ : upd _ bx _ = H9; have hbx := upd_is hh_; have sm9 := same_is hh_ bx0; clear hh_)
  have g9 : Fr [t] H5 H8 := (f6.trans f7).trans f8
  have R9 := (R5.fr T5 rt g9).same sm9
  have T9 := T8.same sm9
  have hws9 := sm9 _ _ (g9 _ _ hws5 (not_in_one wlt))
  have f9 := f5.trans (g9.trans (Fr.same sm9 _))
  have ez : (m : Int) - 1 = ((m - 1 : Nat) : Int) := by omega
  rw [ez] at R9
  clear R5 T5 f5 hws5 T6 T7 T8 f6 f7 f8 g9 sm9
  refine ⟨_, rfl, t, c, bx, r, nl, ll, _, m - 1, _, _, _, _, wd, wd, rfl, T9, hbx, ⟨⟨by omega, by omega⟩, ⟨by omega, by omega⟩, hwd.1, hwd.2, hwd.1, hwd.2⟩, R9, ⟨rt, lln.symm, nlc, llc⟩, by rw [List.length_take]; omega, by omega, by omega, fun a ns' ls' left' Ha pa Ta Ra hn' hl' hnn fa => ?_⟩
  have hwsa := fa _ _ hws9 (off4 wlt r_wl.symm nwl.symm lwl.symm)
  have ffa := Fr.drop4 f9 fa rH nlH llH
  refine ⟨_, rfl, _, rfl, _, rfl, wl, _, rfl, SqL.of hwsa, ?_⟩
  (intro us us0; generalize hh_ : upd _ us _ = Hb; have hus := upd_is hh_; have smb := same_is hh_ us0; clear hh_)
  rw [cut_from (by omega : m ≤ ws.length)] at hus
  refine ⟨us, rfl, ⟨_, SqL.of hus⟩, ?_⟩
  intro ud ud0
  have Rb := Ra.same smb
  have Tb := Ta.same smb
  have fb := ffa.trans (Fr.same smb _)
  have pb := pa.tp (Tp.same smb)
  have hd20 : (ws.drop m).length = 4 := by rw [List.length_drop]; omega
  refine lc_list (K := K) (a := us) (xs := (ws.drop m).map V.str) (fun i Hx => ∃ zs : List V, Hx ud = some (.lst zs) ∧ zs.length ≤ i ∧ Fr [ud] (upd Hb ud (.lst [])) Hx) ⟨[], upd_same, Nat.le_refl _, Fr.refl _ _⟩ (fun i Hx _ ⟨zs, _, _, fx⟩ => SqL.of (fx _ _ (same_new ud0 _ _ hus) (not_in_one (ne_fresh hus ud0).symm))) ?_ ?_
  · rintro i x Hx hi ⟨zs, x1, x2, fx⟩
    obtain ⟨z, _, rfl⟩ : ∃ z : Str, z ∈ ws.drop m ∧ V.str z = x := by
      have := List.mem_of_getElem? hi
      exact List.mem_map.mp this
    have hi20 : i < 4 := by
      have := (List.getElem?_eq_some_iff.mp hi).1
      rw [List.length_map] at this
      omega
    have Rx := Rb.same (same_new (o := .lst []) ud0)
    have eb : Hx r = _ := fx _ _ Rx.ob (not_in_one (ne_fresh Rb.ob ud0).symm)
    have el : Hx ll = _ := fx _ _ Rx.lb (not_in_one (ne_fresh Rb.lb ud0).symm)
    refine ⟨rfl, ?_⟩
    refine ⟨_, rfl, _, rfl, r, _, rfl, dget_of (k := "labels") eb (by simp [valV, roomD, m12]), ll, _, rfl, .inl (SqL.of el), rfl, flat_strs ls', _, rfl, ?_⟩
    refine ite2 (fun _ => ?_) (fun _ => ⟨zs, x1, by omega, fx⟩)
    refine ⟨_, rfl, zs, x1, Nat.lt_of_lt_of_le (by omega : zs.length < 1000) (sz (by decide : 1000 ≤ 100000)), ?_⟩
    exact ⟨zs ++ [.str z], upd_same, by simp; omega, fx.trans (Fr.put (by simp))⟩
  rintro Hc ⟨zs, hzs, lzs, fc⟩
  have fbc : Same Hb Hc := fun p o e => fc _ _ (same_new ud0 _ _ e) (not_in_one (ne_of_none e ud0))
  have Tc := Tb.same fbc
  have fc2 := fb.trans (Fr.same fbc _)
  have pc := pb.tp (Tp.same fbc)
  refine ⟨_, rfl, _, rfl, t, c, ud, _, zs, rfl, Tc, hzs, by rw [List.length_map] at lzs; omega, by omega, fun pr px py Hd hpr Td fd => ?_⟩
  refine ⟨pr, _, rfl, SqT.of hpr, rfl, _, _, rfl, _, _, rfl, rfl, ?_⟩
  refine ⟨_, rfl, _, rfl, _, rfl, (by show 3 ≤ sizeLine; decide), ?_⟩
  (intro sc sc0; generalize hh_ : upd _ sc _ = He; have hsc := upd_is hh_; have sme := same_is hh_ sc0; clear hh_)
  have lrs : a.sz ≤ 30 := by omega
  have nda : a.nms.Nodup := (List.nodup_append.mp (by rw [← hnn]; exact wnd.sublist (List.take_sublist _ _))).1
  exact k sc a He ⟨⟨_, _, hsc⟩, (pc.tp (Tc.tp fd)).tp (Tp.same sme), lrs, nda⟩ ((Td.same sme).mono (by omega)) ((fc2.trans fd).trans (Fr.same sme _))
end
end SG
namespace SG
open PySem PySem.Spec PyProof.Rows L2
/-! ### where parts stand -/
abbrev Pl := Option (Str → Int)
def off (g : Pl) (p : Pt) : Int × Int := match p.sh, g with
  | some (b, _, _), some f => if b = true then (f p.nm, 0) else (0, f p.nm)
  | _, _ => (0, 0)
def inX (g : Pl) (p : Pt) (sx : Int) : Int := sx + p.x + (off g p).1
def inY (g : Pl) (p : Pt) (sy : Int) : Int := sy + p.y + (off g p).2
structure Fl where
  p : Pt
  x : Int
  y : Int
  ab : List Str
mutual
def flatF (g : Pl) (sx sy : Int) (ab : List Str) : Pt → List Fl
  | .mk a nm x y w h sh ks => ⟨.mk a nm x y w h sh ks, sx + x, sy + y, ab⟩ :: flatL g (inX g (.mk a nm x y w h sh ks) sx) (inY g (.mk a nm x y w h sh ks) sy) (nm :: ab) ks
def flatL (g : Pl) (sx sy : Int) (ab : List Str) : List Pt → List Fl
  | [] => []
  | p :: r => flatF g sx sy ab p ++ flatL g sx sy ab r
end
theorem flatF_eq (g : Pl) (sx sy : Int) (ab : List Str) (p : Pt) : flatF g sx sy ab p = ⟨p, sx + p.x, sy + p.y, ab⟩ :: flatL g (inX g p sx) (inY g p sy) (p.nm :: ab) p.ks := by
  cases p
  rfl
mutual
theorem flatF_len (g : Pl) : ∀ (sx sy : Int) (ab : List Str) (p : Pt), (flatF g sx sy ab p).length = p.sz
  | sx, sy, ab, .mk a nm x y w h sh ks => by
    show (flatL g _ _ _ ks).length + 1 = szL ks + 1
    rw [flatL_len g _ _ _ ks]
theorem flatL_len (g : Pl) : ∀ (sx sy : Int) (ab : List Str) (ks : List Pt), (flatL g sx sy ab ks).length = szL ks
  | _, _, _, [] => rfl
  | sx, sy, ab, p :: r => by
    show (flatF g sx sy ab p ++ flatL g sx sy ab r).length = p.sz + szL r
    rw [List.length_append, flatF_len g _ _ _ p, flatL_len g _ _ _ r]
end
mutual
theorem flatF_nms (g : Pl) : ∀ (sx sy : Int) (ab : List Str) (p : Pt), (flatF g sx sy ab p).map (fun f => f.p.nm) = p.nms
  | sx, sy, ab, .mk a nm x y w h sh ks => by
    show nm :: (flatL g _ _ _ ks).map (fun f => f.p.nm) = nm :: nmsL ks
    rw [flatL_nms g _ _ _ ks]
theorem flatL_nms (g : Pl) : ∀ (sx sy : Int) (ab : List Str) (ks : List Pt), (flatL g sx sy ab ks).map (fun f => f.p.nm) = nmsL ks
  | _, _, _, [] => rfl
  | sx, sy, ab, p :: r => by
    show (flatF g sx sy ab p ++ flatL g sx sy ab r).map (fun f => f.p.nm) = p.nms ++ nmsL r
    rw [List.map_append, flatF_nms g _ _ _ p, flatL_nms g _ _ _ r]
end
/-- a part is at a place of those in which its box stands -/
def inside (x y : Int) (p : Pt) : Bool := decide (p.x ≤ x) && decide (x < p.x + p.w) && (decide (p.y ≤ y) && decide (y < p.y + p.h))
def lastIn (ks : List Pt) (x y : Int) : Option Pt := (ks.filter (inside x y)).getLast?
/-- names, outer ones first -/
def wayN (g : Pl) : Nat → Pt → Int → Int → List Str
  | 0, _, _, _ => []
  | d + 1, p, x, y => p.nm :: match lastIn p.ks (x - inX g p 0) (y - inY g p 0) with
    | none => []
    | some k => wayN g d k (x - inX g p 0) (y - inY g p 0)
def wayO (g : Pl) (d : Nat) (x y : Int) : Option Pt → List Str
  | none => []
  | some p => wayN g d p x y
theorem wayN_succ (g : Pl) (d : Nat) (p : Pt) (x y : Int) : wayN g (d + 1) p x y = p.nm :: wayO g d (x - inX g p 0) (y - inY g p 0) (lastIn p.ks (x - inX g p 0) (y - inY g p 0)) := by
  show p.nm :: _ = _
  congr 1
/-! ### by the paths of names -/
def hd (s : Str) (f : Fl) : Bool := decide (f.ab.head? = some s)
mutual
theorem hdF_no (g : Pl) (s : Str) : ∀ (sx sy : Int) (ab : List Str) (p : Pt), s ∉ p.nms → ab.head? ≠ some s → (flatF g sx sy ab p).filter (hd s) = []
  | sx, sy, ab, .mk a nm x y w h sh ks, hn, ha => by
    have hn' : s ∉ nm :: nmsL ks := hn
    show (_ :: flatL g _ _ (nm :: ab) ks).filter (hd s) = []
    rw [List.filter_cons_of_neg (by show ¬ decide (ab.head? = some s) = true; simpa using ha)]
    exact hdL_no g s _ _ _ ks (fun m => hn' (List.mem_cons_of_mem _ m)) (by
      intro e
      have : nm = s := by simpa using e
      exact hn' (by rw [this]; exact List.mem_cons_self))
theorem hdL_no (g : Pl) (s : Str) : ∀ (sx sy : Int) (ab : List Str) (ks : List Pt), s ∉ nmsL ks → ab.head? ≠ some s → (flatL g sx sy ab ks).filter (hd s) = []
  | _, _, _, [], _, _ => rfl
  | sx, sy, ab, p :: r, hn, ha => by
    have hn' : s ∉ p.nms ++ nmsL r := hn
    show (flatF g sx sy ab p ++ flatL g sx sy ab r).filter (hd s) = []
    rw [List.filter_append, hdF_no g s _ _ _ p (fun m => hn' (List.mem_append_left _ m)) ha, hdL_no g s _ _ _ r (fun m => hn' (List.mem_append_right _ m)) ha]
    rfl
end
def kid (x y : Int) (ab : List Str) (k : Pt) : Fl := ⟨k, x + k.x, y + k.y, ab⟩
theorem nm_mem : ∀ p : Pt, p.nm ∈ p.nms
  | .mk _ nm _ _ _ _ _ ks => by
    show nm ∈ nm :: nmsL ks
    exact List.mem_cons_self
theorem nms_eq (p : Pt) : p.nms = p.nm :: nmsL p.ks := by cases p; rfl
theorem hdL_kids (g : Pl) (s : Str) (sx sy : Int) (ab : List Str) : ∀ (ks : List Pt), s ∉ nmsL ks → (flatL g sx sy (s :: ab) ks).filter (hd s) = ks.map (kid sx sy (s :: ab))
  | [], _ => rfl
  | p :: r, hn => by
    have hn' : s ∉ p.nms ++ nmsL r := hn
    have np : s ∉ p.nms := fun m => hn' (List.mem_append_left _ m)
    rw [nms_eq] at np
    show (flatF g sx sy (s :: ab) p ++ flatL g sx sy (s :: ab) r).filter (hd s) = _
    rw [List.filter_append, hdL_kids g s sx sy ab r (fun m => hn' (List.mem_append_right _ m)), flatF_eq, List.filter_cons_of_pos (by show decide ((s :: ab).head? = some s) = true; simp),
      hdL_no g s _ _ _ p.ks (fun m => np (List.mem_cons_of_mem _ m)) (by
        intro e
        have : p.nm = s := by simpa using e
        exact np (by rw [this]; exact List.mem_cons_self))]
    rfl
inductive Loc (g : Pl) : Int → Int → List Str → Pt → Int → Int → List Str → Pt → Prop
  | here {sx sy : Int} {ab : List Str} {p : Pt} : Loc g sx sy ab p sx sy ab p
  | kid {sx sy qx qy : Int} {ab qab : List Str} {p k q : Pt} : k ∈ p.ks → Loc g (inX g p sx) (inY g p sy) (p.nm :: ab) k qx qy qab q → Loc g sx sy ab p qx qy qab q
theorem Loc.mem {g : Pl} {sx sy qx qy : Int} {ab qab : List Str} {p q : Pt} (h : Loc g sx sy ab p qx qy qab q) : q.nm ∈ p.nms := by
  induction h with
  | here => exact nm_mem _
  | @kid sx sy qx qy ab qab p k q hk _ ih =>
    rw [nms_eq]
    refine List.mem_cons_of_mem _ ?_
    have : ∀ {ks : List Pt}, k ∈ ks → q.nm ∈ nmsL ks := by
      intro ks
      induction ks with
      | nil => intro h; cases h
      | cons a r ih2 =>
        intro h
        show q.nm ∈ a.nms ++ nmsL r
        rcases List.mem_cons.mp h with rfl | h
        · exact List.mem_append_left _ ih
        · exact List.mem_append_right _ (ih2 h)
    exact this hk
theorem Loc.step {g : Pl} {sx sy qx qy : Int} {ab qab : List Str} {p q k : Pt} (h : Loc g sx sy ab p qx qy qab q) (hk : k ∈ q.ks) : Loc g sx sy ab p (inX g q qx) (inY g q qy) (q.nm :: qab) k := by
  induction h with
  | here => exact .kid hk .here
  | kid hm _ ih => exact .kid hm (ih hk)
theorem Loc.kids {g : Pl} {sx sy qx qy : Int} {ab qab : List Str} {p q : Pt} (h : Loc g sx sy ab p qx qy qab q) : p.nms.Nodup → ab.head? ≠ some q.nm → (flatF g sx sy ab p).filter (hd q.nm) = q.ks.map (SG.kid (inX g q qx) (inY g q qy) (q.nm :: qab)) := by
  induction h with
  | @here sx sy ab p =>
    intro nd ha
    rw [nms_eq, List.nodup_cons] at nd
    rw [flatF_eq, List.filter_cons_of_neg (by show ¬ decide (ab.head? = some p.nm) = true; simpa using ha)]
    exact hdL_kids g p.nm _ _ ab p.ks nd.1
  | @kid sx sy qx qy ab qab p k q hk hl ih =>
    intro nd ha
    rw [nms_eq, List.nodup_cons] at nd
    have qm := hl.mem
    have sub : ∀ {ks : List Pt}, k ∈ ks → (nmsL ks).Nodup → p.nm ∉ nmsL ks → (flatL g (inX g p sx) (inY g p sy) (p.nm :: ab) ks).filter (hd q.nm) = q.ks.map (SG.kid (inX g q qx) (inY g q qy) (q.nm :: qab)) ∧ q.nm ∈ nmsL ks := by
      intro ks
      induction ks with
      | nil => intro h; cases h
      | cons a r ih2 =>
        intro hm nd2 np
        have nd3 : (a.nms ++ nmsL r).Nodup := nd2
        have np3 : p.nm ∉ a.nms ++ nmsL r := np
        obtain ⟨na, nr, dis⟩ := List.nodup_append.mp nd3
        have eqf : (flatL g (inX g p sx) (inY g p sy) (p.nm :: ab) (a :: r)).filter (hd q.nm) = (flatF g (inX g p sx) (inY g p sy) (p.nm :: ab) a).filter (hd q.nm) ++ (flatL g (inX g p sx) (inY g p sy) (p.nm :: ab) r).filter (hd q.nm) := by
          show (flatF g _ _ _ a ++ flatL g _ _ _ r).filter (hd q.nm) = _
          rw [List.filter_append]
        by_cases e : a = k
        · have qa : q.nm ∈ a.nms := by rw [e]; exact qm
          have hq : (p.nm :: ab).head? ≠ some q.nm := by
            intro z
            have : p.nm = q.nm := by simpa using z
            exact np3 (by rw [this]; exact List.mem_append_left _ qa)
          refine ⟨?_, List.mem_append_left _ qa⟩
          rw [eqf, hdL_no g q.nm _ _ _ r (fun m => dis _ qa _ m rfl) hq, List.append_nil, e]
          exact ih (by rw [← e]; exact na) hq
        · have hr : k ∈ r := by
            rcases List.mem_cons.mp hm with h | h
            · exact absurd h.symm e
            · exact h
          obtain ⟨h1, h2⟩ := ih2 hr nr (fun m => np3 (List.mem_append_right _ m))
          have hq : (p.nm :: ab).head? ≠ some q.nm := by
            intro z
            have : p.nm = q.nm := by simpa using z
            exact np3 (by rw [this]; exact List.mem_append_right _ h2)
          refine ⟨?_, List.mem_append_right _ h2⟩
          rw [eqf, hdF_no g q.nm _ _ _ a (fun m => dis _ m _ h2 rfl) hq, h1]
          rfl
    rw [flatF_eq, List.filter_cons_of_neg (by show ¬ decide (ab.head? = some q.nm) = true; simpa using ha)]
    exact (sub hk nd.2 nd.1).1
/-! ### the law's way -/
def insF (X Y : Int) (f : Fl) : Bool := decide (f.x ≤ X) && decide (X < f.x + f.p.w) && (decide (f.y ≤ Y) && decide (Y < f.y + f.p.h))
def more (F : List Fl) (X Y : Int) (W : List Str) : List Fl := (F.filter (insF X Y)).filter fun f => decide (f.ab = W)
theorem filter_swap {α : Type} (p q : α → Bool) : ∀ l : List α, (l.filter p).filter q = (l.filter q).filter p
  | [] => rfl
  | x :: r => by
    cases hp : p x <;> cases hq : q x <;> simp [hp, hq, filter_swap p q r]
theorem filter_sub {α : Type} (p q : α → Bool) (h : ∀ x, p x = true → q x = true) : ∀ l : List α, (l.filter q).filter p = l.filter p
  | [] => rfl
  | x :: r => by
    cases hp : p x with
    | true =>
      have hq := h x hp
      rw [List.filter_cons_of_pos hq, List.filter_cons_of_pos hp, List.filter_cons_of_pos hp, filter_sub p q h r]
    | false =>
      cases hq : q x with
      | true => rw [List.filter_cons_of_pos hq, List.filter_cons_of_neg (by rw [hp]; decide), List.filter_cons_of_neg (by rw [hp]; decide), filter_sub p q h r]
      | false => rw [List.filter_cons_of_neg (by rw [hq]; decide), List.filter_cons_of_neg (by rw [hp]; decide), filter_sub p q h r]
theorem ins_kid (X Y x y : Int) (ab : List Str) (k : Pt) : insF X Y (kid x y ab k) = inside (X - x) (Y - y) k := by
  unfold insF inside kid
  have e1 : decide (x + k.x ≤ X) = decide (k.x ≤ X - x) := by rw [Bool.eq_iff_iff, decide_eq_true_iff, decide_eq_true_iff]; omega
  have e2 : decide (X < x + k.x + k.w) = decide (X - x < k.x + k.w) := by rw [Bool.eq_iff_iff, decide_eq_true_iff, decide_eq_true_iff]; omega
  have e3 : decide (y + k.y ≤ Y) = decide (k.y ≤ Y - y) := by rw [Bool.eq_iff_iff, decide_eq_true_iff, decide_eq_true_iff]; omega
  have e4 : decide (Y < y + k.y + k.h) = decide (Y - y < k.y + k.h) := by rw [Bool.eq_iff_iff, decide_eq_true_iff, decide_eq_true_iff]; omega
  dsimp only
  rw [e1, e2, e3, e4]
theorem kids_map (X Y x y : Int) (ab : List Str) (ks : List Pt) : (ks.map (kid x y ab)).filter (insF X Y) = (ks.filter (inside (X - x) (Y - y))).map (kid x y ab) := by
  rw [List.filter_map]
  congr 2
  funext k
  exact ins_kid X Y x y ab k
theorem more_at {g : Pl} {root q : Pt} {qx qy X Y : Int} {qab : List Str} (h : Loc g 0 0 [] root qx qy qab q) (nd : root.nms.Nodup) :
    more (flatF g 0 0 [] root) X Y (q.nm :: qab) = (q.ks.filter (inside (X - inX g q qx) (Y - inY g q qy))).map (kid (inX g q qx) (inY g q qy) (q.nm :: qab)) := by
  unfold more
  rw [filter_swap, ← filter_sub (fun f : Fl => decide (f.ab = q.nm :: qab)) (hd q.nm) (fun f hf => by
    have : f.ab = q.nm :: qab := of_decide_eq_true hf
    unfold hd
    rw [this]
    simp), h.kids nd (by simp)]
  have all : ((q.ks.map (kid (inX g q qx) (inY g q qy) (q.nm :: qab))).filter fun f => decide (f.ab = q.nm :: qab)) = q.ks.map (kid (inX g q qx) (inY g q qy) (q.nm :: qab)) := by
    rw [List.filter_eq_self]
    intro f hf
    obtain ⟨k, _, rfl⟩ := List.mem_map.mp hf
    exact decide_eq_true rfl
  rw [all, kids_map]
mutual
theorem abF_ne (g : Pl) : ∀ (sx sy : Int) (ab : List Str) (p : Pt), ab ≠ [] → ∀ f ∈ flatF g sx sy ab p, f.ab ≠ []
  | sx, sy, ab, .mk a nm x y w h sh ks, ha, f, hf => by
    rcases List.mem_cons.mp (show f ∈ _ :: flatL g _ _ (nm :: ab) ks from hf) with rfl | hf
    · exact ha
    · exact abL_ne g _ _ _ ks (by simp) f hf
theorem abL_ne (g : Pl) : ∀ (sx sy : Int) (ab : List Str) (ks : List Pt), ab ≠ [] → ∀ f ∈ flatL g sx sy ab ks, f.ab ≠ []
  | _, _, _, [], _, f, hf => nomatch hf
  | sx, sy, ab, p :: r, ha, f, hf => by
    rcases List.mem_append.mp (show f ∈ flatF g sx sy ab p ++ flatL g sx sy ab r from hf) with hf | hf
    · exact abF_ne g _ _ _ p ha f hf
    · exact abL_ne g _ _ _ r ha f hf
end
theorem more_root (g : Pl) (root : Pt) (X Y : Int) : more (flatF g 0 0 [] root) X Y [] = ([root].filter (inside (X - 0) (Y - 0))).map (kid 0 0 []) := by
  unfold more
  rw [filter_swap, flatF_eq, List.filter_cons_of_pos (by exact decide_eq_true rfl)]
  have none1 : (flatL g (inX g root 0) (inY g root 0) (root.nm :: []) root.ks).filter (fun f => decide (f.ab = [])) = [] := by
    rw [List.filter_eq_nil_iff]
    intro f hf
    have := abL_ne g _ _ _ root.ks (by simp) f hf
    simpa using this
  rw [none1]
  exact kids_map X Y 0 0 [] [root]
theorem in0 (g : Pl) (p : Pt) (sx sy : Int) : inX g p sx = sx + inX g p 0 ∧ inY g p sy = sy + inY g p 0 := by
  unfold inX inY
  exact ⟨by omega, by omega⟩
end SG
namespace SG
open PySem PySem.Spec PyProof.Rows L2
theorem or_mk {a b : TT} {σ : L2.St} {H : Hp} {Q : Bool → Hp → Prop} {c d : Bool} (ha : ∀ Q1 : Bool → Hp → Prop, Q1 c H → a σ H Q1) (hb : ∀ Q1 : Bool → Hp → Prop, Q1 d H → b σ H Q1) (q : Q (c || d) H) : tOr a b σ H Q := by
  refine ha _ ?_
  cases c with
  | true => exact q
  | false => exact hb _ q
theorem and_mk {a b : TT} {σ : L2.St} {H : Hp} {Q : Bool → Hp → Prop} {c d : Bool} (ha : ∀ Q1 : Bool → Hp → Prop, Q1 c H → a σ H Q1) (hb : c = true → ∀ Q1 : Bool → Hp → Prop, Q1 d H → b σ H Q1) (q : Q (c && d) H) : tAnd a b σ H Q := by
  refine ha _ ?_
  cases c with
  | true => exact hb rfl _ q
  | false => exact q
theorem seq_if {c : TT} {t u r : TS} {D : Ends} {σ : L2.St} {H : Hp} (h : c σ H fun b H1 => if b = true then t { D with nx := r D } σ H1 else u { D with nx := r D } σ H1) : tSeq (tIfS c t u) r D σ H := h
theorem if_mk {c : TT} {t u : TS} {D : Ends} {σ : L2.St} {H : Hp} (h : c σ H fun b H1 => if b = true then t D σ H1 else u D σ H1) : tIfS c t u D σ H := h
/-! ### the program's ways -/
def PlAt (H : Hp) (v : V) (g : Pl) : Prop := match g with
  | none => v = .non
  | some f => ∃ (q : Addr) (kvs : List (Key × V)), v = .ref q ∧ H q = some (.dK kvs) ∧ ∀ s : Str, (valV kvs (Sum.inr s : Key)).getD (.int 0) = .int (f s)
theorem PlAt.keep {H H' : Hp} {v : V} : ∀ {g : Pl}, PlAt H v g → (∀ q kvs, v = .ref q → H q = some (.dK kvs) → H' q = some (.dK kvs)) → PlAt H' v g
  | none, h, _ => h
  | some f, ⟨q, kvs, e, h1, h2⟩, s => ⟨q, kvs, e, s q kvs e h1, h2⟩
theorem PlAt.same {H H' : Hp} {v : V} {g : Pl} (h : PlAt H v g) (s : Same H H') : PlAt H' v g := h.keep fun _ _ _ e => s _ _ e
theorem walk_revT {K : PySem.W.Frag} {a : Addr} {xs : List V} : Walk (RT.ItvT K a xs.length) xs.length (fun H => SqT K H a xs) (fun i H x H' => H' = H ∧ xs[xs.length - 1 - i]? = some x) :=
  ⟨fun i _ hi q => ⟨hi, xs, xs[xs.length - 1 - i]'(by omega), q, by simp [show xs.length - 1 - i < xs.length by omega]⟩, fun _ _ => Nat.le_refl _, fun _ _ _ _ _ q y => ⟨y.1, y.2 xs q⟩⟩
theorem way_dec : ∀ b : Bool, decide (V.str (wayS b) = V.str "across") = b
  | true => by decide +kernel
  | false => by decide +kernel
theorem way_dec2 : ∀ b : Bool, decide (V.str (wayS b) = V.str "along") = !b
  | true => by decide +kernel
  | false => by decide +kernel
def lastV : Option Pt → V
  | none => .non
  | some p => .ref p.a
def spLast (K : PySem.W.Frag) : Sp := fun vs H Q _ => ∃ (md q : Addr) (ks : List Pt) (x y : Int) (d : Nat), vs = [.ref q, .int x, .int y, .ref md] ∧ H md = some (.dK []) ∧ SqT K H q (ks.map fun k => V.ref k.a) ∧ (∀ k ∈ ks, PartAt H d k) ∧ Q (lastV (lastIn ks x y)) H
def spStart : Sp := fun vs H Q _ => ∃ (p : Pt) (d : Nat) (pv : V) (g : Pl), vs = [.ref p.a, pv] ∧ PartAt H d p ∧ PlAt H pv g ∧ ∀ (q : Addr) (H' : Hp), H q = none → H' q = some (.tup [.int (inX g p 0), .int (inY g p 0)]) → Same H H' → Q (.ref q) H'
theorem last_none {ks : List Pt} {x y : Int} (h : ∀ k ∈ ks, inside x y k = false) : lastIn ks x y = none := by
  unfold lastIn
  rw [List.filter_eq_nil_iff.mpr (fun k hk => by rw [h k hk]; decide)]
  rfl
theorem last_some {ks : List Pt} {x y : Int} {j : Nat} {k : Pt} (h : ks[j]? = some k) (hk : inside x y k = true) (b : ∀ k ∈ ks.drop (j + 1), inside x y k = false) : lastIn ks x y = some k := by
  obtain ⟨hj, e⟩ := List.getElem?_eq_some_iff.mp h
  have sp : ks = ks.take j ++ k :: ks.drop (j + 1) := by rw [← e, ← List.drop_eq_getElem_cons hj, List.take_append_drop]
  unfold lastIn
  rw [sp, List.filter_append, List.filter_cons_of_pos hk, (List.filter_eq_nil_iff (p := inside x y) (l := ks.drop (j + 1))).mpr (fun k hk => by rw [b k hk]; decide), List.getLast?_append]
  rfl
section
variable {P : Program} {w : World} {K : PySem.W.Frag} {mg : Str → Option Value} {base : Heap}
theorem ok_last (D : Df K mg "_last_at" s_last_at ["parts", "x", "y", "missing"]) (T : Txt K mg) : Cl P w K mg base 1 "_last_at" (spLast K) := by
  refine D.ok sc_last_at (fun vs H Q E h => ?_) (fun f cdv A outer s H vs Q E hr h => ?_)
  · obtain ⟨_, _, _, _, _, _, rfl, _⟩ := h
    rfl
  obtain ⟨md, q, ks, x, y, d, rfl, hmd, hq, hk, k⟩ := h
  have hu := hu_of hr
  refine ⟨_, -- for part in reversed(parts):
    (pss_cons (ps_for PassesOwn.never rfl (RT.pi_revA rfl T.m_reversed (pv 0)) (pg_name (i := 4) sc_last_at.nd rfl (Or.inl rfl))
      (pss_cons (ps_asg (pv 4) (pg_tup rfl (pgs_cons (pg_name (i := 5) sc_last_at.nd rfl (Or.inl rfl)) (pgs_cons (pg_tup rfl (pgs_cons (pg_name (i := 6) sc_last_at.nd rfl (Or.inl rfl)) (pgs_cons (pg_name (i := 7) sc_last_at.nd rfl (Or.inl rfl)) (pgs_cons (pg_name (i := 8) sc_last_at.nd rfl (Or.inl rfl)) (pgs_cons (pg_name (i := 9) sc_last_at.nd rfl (Or.inl rfl)) pgs_nil))))) (pgs_cons (pg_name (i := 10) sc_last_at.nd rfl (Or.inl rfl)) (pgs_cons (pg_name (i := 10) sc_last_at.nd rfl (Or.inl rfl)) (pgs_cons (pg_name (i := 10) sc_last_at.nd rfl (Or.inl rfl)) (pgs_cons (pg_name (i := 10) sc_last_at.nd rfl (Or.inl rfl)) pgs_nil))))))))
      (pss_one (ps_if (PW.pt (pw_and (pt_cmp (pc_dnotin hu (pv 5) (pv 3))) (pw_and (pt_chain op_le op_lt (pv 6) (pv 1) (pe_op op_add (pv 6) (pv 8))) (pw_and1 (pt_chain op_le op_lt (pv 7) (pv 2) (pe_op op_add (pv 7) (pv 9)))))))
        (pss_one (ps_ret (pv 4)))
        pss_nil))))
    (pss_one (ps_ret pe_non))), ?_⟩
  have lm : (ks.map fun k => V.ref k.a).length = ks.length := List.length_map _
  refine ⟨_, rfl, q, _, rfl, .inr ⟨hq, ?_⟩⟩
  refine for_it (walk_revT (K := K) (a := q) (xs := ks.map fun k => V.ref k.a)) (fun i σ Hy => Hy = H ∧ ∃ (k3 k4 k5 k6 k7 k8 k9 : Option V), σ = [some (.ref q), some (.int x), some (.int y), some (.ref md), k3, k4, k5, k6, k7, k8, k9] ∧ ∀ k ∈ ks.drop (ks.length - i), inside x y k = false) ?_ (fun i σ Hy _ ⟨e, _⟩ => by rw [e]; exact hq) ?_ ?_
  · exact ⟨rfl, none, none, none, none, none, none, none, rfl, by rw [Nat.sub_zero, List.drop_length]; intro k hk; cases hk⟩
  · rintro i v σ Hy Hz hi ⟨rfl, k3, k4, k5, k6, k7, k8, k9, rfl, no⟩ ⟨rfl, hv⟩
    rw [lm] at hi hv
    rw [List.getElem?_map] at hv
    obtain ⟨p, hp, rfl⟩ := Option.map_eq_some_iff.mp hv
    have pa := hk p (List.mem_of_getElem? hp)
    cases d with
    | zero => exact pa.elim
    | succ d =>
    obtain ⟨bx, ws, kq, ear, sh, h1, h2, h3, h4, h5, h6⟩ := pa
    refine ⟨_, rfl, p.a, _, rfl, SqT.of h1, rfl, _, _, rfl, _, _, rfl, bx, _, rfl, SqT.of h2, rfl, _, _, rfl, _, _, rfl, _, _, rfl, _, _, rfl, rfl, _, _, rfl, _, _, rfl, _, _, rfl, _, _, rfl, rfl, ?_⟩
    have dr : ks.drop (ks.length - (i + 1)) = p :: ks.drop (ks.length - i) := by
      have hj : ks.length - 1 - i < ks.length := by omega
      have e := (List.getElem?_eq_some_iff.mp hp).2
      rw [show ks.length - (i + 1) = ks.length - 1 - i by omega, List.drop_eq_getElem_cons hj, e, show ks.length - 1 - i + 1 = ks.length - i by omega]
    have dr2 : ks.drop (ks.length - 1 - i + 1) = ks.drop (ks.length - i) := by rw [show ks.length - 1 - i + 1 = ks.length - i by omega]
    dsimp only
    refine if_mk ?_
    refine and_mk (c := true) (d := inside x y p) (fun Q1 q1 => ?_) (fun _ Q1 q1 => ?_) ?_
    · exact ⟨_, rfl, _, rfl, md, _, rfl, DGet.k (k := Sum.inr p.nm) hmd, _, rfl, q1⟩
    refine and_mk (Q := Q1) (c := decide (p.x ≤ x) && decide (x < p.x + p.w)) (d := decide (p.y ≤ y) && decide (y < p.y + p.h)) (fun Q1 q1 => ?_) (fun _ Q1 q1 => ?_) ?_
    · refine ⟨_, rfl, _, rfl, _, _, rfl, rfl, _, rfl, ite2 (fun z => ?_) fun z => ?_⟩
      · rw [show decide (p.x ≤ x) = true from z, Bool.true_and] at q1
        exact ⟨_, rfl, _, rfl, _, _, rfl, rfl, _, _, rfl, rfl, _, rfl, q1⟩
      · rw [show decide (p.x ≤ x) = false from Bool.eq_false_iff.mpr z, Bool.false_and] at q1
        exact ⟨_, rfl, q1⟩
    · refine ⟨_, rfl, _, rfl, _, _, rfl, rfl, _, rfl, ite2 (fun z => ?_) fun z => ?_⟩
      · rw [show decide (p.y ≤ y) = true from z, Bool.true_and] at q1
        exact ⟨_, rfl, _, rfl, _, _, rfl, rfl, _, _, rfl, rfl, _, rfl, q1⟩
      · rw [show decide (p.y ≤ y) = false from Bool.eq_false_iff.mpr z, Bool.false_and] at q1
        exact ⟨_, rfl, q1⟩
    · exact q1
    change if inside x y p = true then _ else _
    refine ite2 (fun z => ?_) fun z => ?_
    · refine ⟨_, rfl, ?_⟩
      rw [last_some hp z (by rw [dr2]; exact no)] at k
      exact k
    · refine ⟨rfl, _, _, _, _, _, _, _, rfl, fun k hk => ?_⟩
      rw [dr] at hk
      rcases List.mem_cons.mp hk with rfl | hk
      · exact Bool.eq_false_iff.mpr z
      · exact no k hk
  · rintro σ Hy ⟨rfl, k3, k4, k5, k6, k7, k8, k9, rfl, no⟩
    rw [lm, Nat.sub_self, List.drop_zero] at no
    rw [last_none no] at k
    exact k
theorem ok_start (D : Df K mg "_start_of_inner" s_start_of_inner ["part", "places"]) (T : Txt K mg) : Cl P w K mg base 1 "_start_of_inner" spStart := by
  refine D.ok sc_start_of_inner (fun vs H Q E h => ?_) (fun f cdv A outer s H vs Q E hr h => ?_)
  · obtain ⟨_, _, _, _, rfl, _⟩ := h
    rfl
  obtain ⟨p, d, plv, g, rfl, pa, hg, k⟩ := h
  have hu := hu_of hr
  cases d with
  | zero => exact pa.elim
  | succ d =>
  obtain ⟨bx, ws, kq, ear, sh, h1, h2, h3, h4, h5, h6⟩ := pa
  refine ⟨_, -- name, (left, top, _, _), _, shelf, _, _ = part
    (pss_cons (ps_asg (pv 0) (pg_tup rfl (pgs_cons (pg_name (i := 2) sc_start_of_inner.nd rfl (Or.inl rfl)) (pgs_cons (pg_tup rfl (pgs_cons (pg_name (i := 3) sc_start_of_inner.nd rfl (Or.inl rfl)) (pgs_cons (pg_name (i := 4) sc_start_of_inner.nd rfl (Or.inl rfl)) (pgs_cons (pg_name (i := 5) sc_start_of_inner.nd rfl (Or.inl rfl)) (pgs_cons (pg_name (i := 5) sc_start_of_inner.nd rfl (Or.inl rfl)) pgs_nil))))) (pgs_cons (pg_name (i := 5) sc_start_of_inner.nd rfl (Or.inl rfl)) (pgs_cons (pg_name (i := 6) sc_start_of_inner.nd rfl (Or.inl rfl)) (pgs_cons (pg_name (i := 5) sc_start_of_inner.nd rfl (Or.inl rfl)) (pgs_cons (pg_name (i := 5) sc_start_of_inner.nd rfl (Or.inl rfl)) pgs_nil))))))))
    (pss_cons (ps_if (PW.pt (pw_or (pt_cmp (pc_isN (pv 6))) (pw_or1 (pt_cmp (pc_isN (pv 1))))))
      (pss_one (ps_ret (pe_tup (pa_cons (pv 3) (pa_cons (pv 4) pa_nil)))))
      pss_nil)
    (pss_cons (ps_set (i := 7) sc_start_of_inner.nd rfl (Or.inl rfl) (pe_dget2 hu (pv 1) (pv 2) pe_int ⟨by rfl, by rfl, by rfl, by rfl⟩))
    (pss_one (ps_ret (pe_ifExp (pt_cmpR op_eq (pe_ix ix_tup (pv 6) pe_int (fun _ _ => rfl)) pe_str (nomark _)) (pe_tup (pa_cons (pe_op op_add (pv 3) (pv 7)) (pa_cons (pv 4) pa_nil))) (pe_tup (pa_cons (pv 3) (pa_cons (pe_op op_add (pv 4) (pv 7)) pa_nil))))))))), ?_⟩
  refine ⟨_, rfl, p.a, _, rfl, SqT.of h1, rfl, _, _, rfl, _, _, rfl, bx, _, rfl, SqT.of h2, rfl, _, _, rfl, _, _, rfl, _, _, rfl, _, _, rfl, rfl, _, _, rfl, _, _, rfl, _, _, rfl, _, _, rfl, rfl, ?_⟩
  have k0 : ∀ (q : Addr) (H' : Hp), (off g p = (0, 0)) → H q = none → H' q = some (.tup [.int p.x, .int p.y]) → Same H H' → Q (.ref q) H' := fun q H' eo q0 hq s => by
    refine k q H' q0 ?_ s
    unfold inX inY
    rw [eo, hq]
    simp
  refine ⟨_, rfl, _, rfl, ?_⟩
  cases esh : p.sh with
  | none =>
    rw [esh] at h3
    have e : sh = .non := h3
    subst e
    refine iteT ?_
    refine ⟨_, rfl, _, rfl, (by show 2 ≤ sizeLine; decide), ?_⟩
    (intro q q0; generalize hh_ : upd _ q _ = H1; have hq := upd_is hh_; have s1 := same_is hh_ q0; clear hh_)
    exact k0 q H1 (by unfold off; rw [esh]) q0 hq s1
  | some sh3 =>
    obtain ⟨b, i, j⟩ := sh3
    rw [esh] at h3
    obtain ⟨⟨sq, rfl, hsq⟩, _, _⟩ := h3
    refine iteF ?_
    cases g with
    | none =>
      have e : plv = .non := hg
      subst e
      refine ⟨_, rfl, _, rfl, iteT ?_⟩
      refine ⟨_, rfl, _, rfl, (by show 2 ≤ sizeLine; decide), ?_⟩
      (intro q q0; generalize hh_ : upd _ q _ = H1; have hq := upd_is hh_; have s1 := same_is hh_ q0; clear hh_)
      exact k0 q H1 (by unfold off; rw [esh]) q0 hq s1
    | some f' =>
      obtain ⟨dq, kvs, rfl, hd, hget⟩ := hg
      refine ⟨_, rfl, _, rfl, iteF ?_⟩
      refine ⟨_, rfl, dq, rfl, .inl ⟨_, .inl hd⟩, _, rfl, _, DGet.k (k := Sum.inr p.nm) hd, ?_⟩
      rw [hget p.nm]
      refine ⟨_, rfl, sq, _, 0, _, rfl, rfl, SqT.of hsq, atI_nat (j := 0) rfl, rfl, _, rfl, ?_⟩
      rw [way_dec]
      refine ite2 (fun hb => ?_) fun hb => ?_
      · change tTup _ [some (V.ref p.a), some (V.ref dq), some (V.str p.nm), some (V.int p.x), some (V.int p.y), some (.ref kq), some (V.ref sq), some (V.int (f' p.nm))] H _
        refine ⟨_, rfl, _, rfl, _, _, rfl, rfl, _, rfl, (by show 2 ≤ sizeLine; decide), ?_⟩
        (intro q q0; generalize hh_ : upd _ q _ = H1; have hq := upd_is hh_; have s1 := same_is hh_ q0; clear hh_)
        refine k q H1 q0 ?_ s1
        have eo : off (some f') p = (f' p.nm, 0) := by unfold off; rw [esh]; simp [hb]
        unfold inX inY
        rw [eo, hq]
        simp
      · change tTup _ [some (V.ref p.a), some (V.ref dq), some (V.str p.nm), some (V.int p.x), some (V.int p.y), some (.ref kq), some (V.ref sq), some (V.int (f' p.nm))] H _
        refine ⟨_, rfl, _, rfl, _, rfl, _, _, rfl, rfl, (by show 2 ≤ sizeLine; decide), ?_⟩
        (intro q q0; generalize hh_ : upd _ q _ = H1; have hq := upd_is hh_; have s1 := same_is hh_ q0; clear hh_)
        refine k q H1 q0 ?_ s1
        have eo : off (some f') p = (0, f' p.nm) := by unfold off; rw [esh]; simp [hb]
        unfold inX inY
        rw [eo, hq]
        simp
end
end SG
namespace SG
open PySem PySem.Spec PyProof.Rows L2
def spWay (K : PySem.W.Frag) : Sp := fun vs H Q _ => ∃ (a : Addr) (p : Pt) (x y : Int) (plv : V) (g : Pl), vs = [.ref a, .int x, .int y, plv] ∧ SceneAt H a p ∧ PlAt H plv g ∧
  ∀ (q : Addr) (H' : Hp), H q = none → H' q = some (.lst ((wayO g 6 x y (lastIn [p] x y)).reverse.map V.str)) → Same H H' → Q (.ref q) H'
def spAround (K : PySem.W.Frag) : Sp := fun vs H Q _ => ∃ (md a : Addr) (p : Pt) (x y : Int) (plv : V) (g : Pl), vs = [.ref a, .int x, .int y, plv, .ref md] ∧ H md = some (.dK []) ∧ SceneAt H a p ∧ PlAt H plv g ∧
  ∀ (q : Addr) (H' : Hp), H q = none → H' q = some (.lst ((wayO g 6 x y (lastIn [p] x y)).reverse.map V.str)) → Same H H' → Q (.ref q) H'
theorem last_mem {ks : List Pt} {x y : Int} {k : Pt} (h : lastIn ks x y = some k) : k ∈ ks := by
  unfold lastIn at h
  exact (List.mem_filter.mp (List.mem_of_getLast? h)).1
section
variable {P : Program} {w : World} {K : PySem.W.Frag} {mg : Str → Option Value} {base : Heap}
theorem ok_around (D : Df K mg "way_around" sway_around ["scene", "x", "y", "places", "missing"]) (T : Txt K mg) (c_last_at : Cl P w K mg base 1 "_last_at" (spLast K)) (c_start_of_inner : Cl P w K mg base 1 "_start_of_inner" spStart) : Cl P w K mg base 2 "way_around" (spAround K) := by
  refine D.ok scway_around (fun vs H Q E h => ?_) (fun f cdv A outer s H vs Q E hr h => ?_)
  · obtain ⟨_, _, _, _, _, _, _, rfl, _⟩ := h
    rfl
  obtain ⟨md, a, p, x, y, plv, g, rfl, hmd, ⟨⟨b, hd, h1⟩, h2, h3, h4⟩, hg, k⟩ := h
  have hu := hu_of hr
  obtain ⟨_, mNAME⟩ := T.mNAMEx
  obtain ⟨_, mPARTS⟩ := T.mPARTSx
  refine ⟨_, -- way = []
    (pss_cons (ps_set (i := 5) scway_around.nd rfl (Or.inl rfl) (pe_lst pa_nil))
    (pss_cons (ps_set (i := 6) scway_around.nd rfl (Or.inl rfl) (pe_cl c_last_at (hr.mono (by first | decide | omega)) rfl (pa_cons (pe_tup (pa_cons (pe_ix ix_tup (pv 0) pe_int (fun _ _ => rfl)) pa_nil)) (pa_cons (pv 1) (pa_cons (pv 2) (pa_cons (pv 4) pa_nil))))))
    (pss_cons (ps_while PassesOwn.never (pt_cmp (pc_notN (pv 6)))
      (pss_cons (ps_expr (pe_bm PySem.F.plainAttrs_list PySem.F.slot_list_append PySem.F.type_list_append mt_append (pv 5) (pa_cons (pe_ix ix_tup (pv 6) (pe_glob (v := .int 0) rfl mNAME ⟨_, rfl⟩) (fun _ _ => rfl)) pa_nil)))
      (pss_cons (ps_asg (pe_cl c_start_of_inner (hr.mono (by first | decide | omega)) rfl (pa_cons (pv 6) (pa_cons (pv 3) pa_nil))) (pg_tup rfl (pgs_cons (pg_name (i := 7) scway_around.nd rfl (Or.inl rfl)) (pgs_cons (pg_name (i := 8) scway_around.nd rfl (Or.inl rfl)) pgs_nil))))
      (pss_cons (ps_par (i := 1) (j := 2) rfl scway_around.nd rfl rfl (by decide) rfl rfl (pa_cons (pe_op op_sub (pv 1) (pv 7)) (pa_cons (pe_op op_sub (pv 2) (pv 8)) pa_nil)) rfl)
      (pss_one (ps_set (i := 6) scway_around.nd rfl (Or.inl rfl) (pe_cl c_last_at (hr.mono (by first | decide | omega)) rfl (pa_cons (pe_ix ix_tup (pv 6) (pe_glob (v := .int 5) rfl mPARTS ⟨_, rfl⟩) (fun _ _ => rfl)) (pa_cons (pv 1) (pa_cons (pv 2) (pa_cons (pv 4) pa_nil)))))))))))
    (pss_cons (ps_expr (pe_bm0 PySem.F.plainAttrs_list PySem.F.slot_list_reverse PySem.F.type_list_reverse mt_reverse (pv 5)))
    (pss_one (ps_ret (pv 5))))))), ?_⟩
  refine ⟨(by show 0 ≤ sizeLine; decide), ?_⟩
  (intro wl wl0; generalize hh_ : upd _ wl _ = H1; have hwl := upd_is hh_; have s1 := same_is hh_ wl0; clear hh_)
  refine ⟨_, rfl, a, _, 0, _, rfl, rfl, SqT.of (s1 _ _ h1), atI_nat (j := 0) rfl, (by show 1 ≤ sizeLine; decide), ?_⟩
  (intro t1 t10; generalize hh_ : upd _ t1 _ = H2; have ht1 := upd_is hh_; have s2 := same_is hh_ t10; clear hh_)
  have s02 := s1.trans s2
  refine ⟨_, rfl, _, rfl, _, rfl, md, t1, [p], x, y, 6, rfl, s02 _ _ hmd, SqT.of ht1, (by intro k hk; rw [List.mem_singleton.mp hk]; exact h2.tp (Tp.same s02)), ?_⟩
  generalize ht : wayO g 6 x y (lastIn [p] x y) = total at *
  refine ⟨fun m σ Hx => ∃ (cur : Option Pt) (xs : List Str) (x y : Int) (k6 k7 : Option V), σ = [some (.ref a), some (.int x), some (.int y), some plv, some (.ref md), some (.ref wl), some (lastV cur), k6, k7] ∧ Hx wl = some (.lst (xs.map V.str)) ∧ xs ++ wayO g m x y cur = total ∧ (∀ k, cur = some k → PartAt Hx m k) ∧ (m ≤ 6 ∧ xs.length + m ≤ 6) ∧ Same H Hx, ?_, ?_⟩
  · exact ⟨6, lastIn [p] x y, [], x, y, none, none, rfl, s2 _ _ hwl, ht, (fun k hk => by have := last_mem hk; rw [List.mem_singleton.mp this]; exact h2.tp (Tp.same s02)), ⟨by decide, by decide⟩, s02⟩
  clear ht hwl ht1 t10 s1 s2 s02
  rintro m σ Hx ⟨cur, xs, x, y, k6, k7, rfl, y1, y2, y3, y4, sx⟩
  cases cur with
  | none =>
    refine ⟨_, rfl, _, rfl, ite2 (fun z => absurd z (by simp [lastV])) fun _ => ?_⟩
    have e : xs = total := by rw [← y2]; exact (List.append_nil xs).symm
    subst e
    refine ⟨_, rfl, .inl ⟨rfl, _, SqL.of y1⟩, wl, _, rfl, rfl, y1, ?_⟩
    refine ⟨_, rfl, ?_⟩
    refine k wl _ wl0 ?_ (fun p o e => by rw [upd_ne (ne_of_none e wl0)]; exact sx _ _ e)
    rw [upd_same, List.map_reverse]
  | some c =>
    refine ⟨_, rfl, _, rfl, ite2 (fun _ => ?_) fun z => absurd (by simp [lastV]) z⟩
    have pc := y3 c rfl
    cases m with
    | zero => exact pc.elim
    | succ d =>
    obtain ⟨bx, ws, kq, ear, sh, c1, c2, c3, c4, c5, c6⟩ := pc
    refine ⟨fun σ' H' => ∃ m', m' < d + 1 ∧ ∃ (cur : Option Pt) (xs : List Str) (x y : Int) (k6 k7 : Option V), σ' = [some (.ref a), some (.int x), some (.int y), some plv, some (.ref md), some (.ref wl), some (lastV cur), k6, k7] ∧ H' wl = some (.lst (xs.map V.str)) ∧ xs ++ wayO g m' x y cur = total ∧ (∀ k, cur = some k → PartAt H' m' k) ∧ (m' ≤ 6 ∧ xs.length + m' ≤ 6) ∧ Same H H', fun σ' H' ⟨m', hm, z⟩ => ⟨m', hm, z⟩, ?_⟩
    refine ⟨_, rfl, .inl ⟨rfl, _, SqL.of y1⟩, _, rfl, c.a, _, 0, _, rfl, rfl, SqT.of c1, atI_nat (j := 0) rfl, wl, _, _, rfl, rfl, y1, Nat.lt_of_lt_of_le (by rw [List.length_map]; omega : _ < 1000) (by decide), ?_⟩
    have tp1 : Tp Hx (upd Hx wl (.lst (xs.map V.str ++ [V.str c.nm]))) := Tp.put y1
    have e1 : (upd Hx wl (.lst (xs.map V.str ++ [V.str c.nm]))) wl = some (.lst ((xs ++ [c.nm]).map V.str)) := by rw [upd_same, List.map_append]; rfl
    have sy : Same H (upd Hx wl (.lst (xs.map V.str ++ [V.str c.nm]))) := fun p o e => by rw [upd_ne (ne_of_none e wl0)]; exact sx _ _ e
    generalize upd Hx wl (.lst (xs.map V.str ++ [V.str c.nm])) = Hy at *
    have pcy : PartAt Hy (d + 1) c := PartAt.tp tp1 ⟨bx, ws, kq, ear, sh, c1, c2, c3, c4, c5, c6⟩
    refine ⟨_, rfl, _, rfl, c, d + 1, plv, g, rfl, pcy, hg.same sy, fun q Hz q0 hq sz => ?_⟩
    refine ⟨q, _, rfl, SqT.of hq, rfl, _, _, rfl, _, _, rfl, rfl, ?_⟩
    refine ⟨_, rfl, _, rfl, _, _, rfl, rfl, _, rfl, _, rfl, _, _, rfl, rfl, _, _, rfl, ?_⟩
    refine ⟨_, rfl, c.a, _, 5, _, rfl, rfl, SqT.of (sz _ _ (tp1 _ _ c1)), atI_nat (j := 5) rfl, _, rfl, _, rfl, _, rfl, md, kq, c.ks, _, _, d, rfl, (sy.trans sz) _ _ hmd, SqT.of (sz _ _ (tp1 _ _ c4)), (fun k hk => ((c6 k hk).tp tp1).tp (Tp.same sz)), ?_⟩
    rw [show wayO g (d + 1) x y (some c) = wayN g (d + 1) c x y from rfl, wayN_succ] at y2
    refine ⟨d, by omega, _, xs ++ [c.nm], _, _, _, _, rfl, sz _ _ e1, ?_, fun k hk => ((c6 k (last_mem hk)).tp tp1).tp (Tp.same sz), ⟨by omega, by simp; omega⟩, sy.trans sz⟩
    rw [List.append_assoc]
    exact y2
theorem ok_way (D : DfK K mg "way_at" sway_at ["scene", "x", "y", "places"] 3 ["places"] [.non]) (T : Txt K mg) (cway_around : Cl P w K mg base 2 "way_around" (spAround K)) :
    ClK P w K mg base 3 "way_at" 3 ["places"] (spWay K) ∧ ClD P w K mg base 3 "way_at" [.non] (spWay K) := by
  refine D.ok scway_at (fun vs H Q E h => ?_) (fun f cdv A outer s H vs Q E hr h => ?_)
  · obtain ⟨_, _, _, _, _, _, rfl, _⟩ := h
    rfl
  obtain ⟨a, p, x, y, plv, g, rfl, hs, hg, k⟩ := h
  have hu := hu_of hr
  refine ⟨_, -- return way_around(scene, x, y, places, {})
    (pss_one (ps_ret (pe_cl cway_around (hr.mono (by first | decide | omega)) rfl (pa_cons (pv 0) (pa_cons (pv 1) (pa_cons (pv 2) (pa_cons (pv 3) (pa_cons pe_dnewK pa_nil)))))))), ?_⟩
  refine ⟨_, rfl, _, rfl, _, rfl, _, rfl, ?_⟩
  (intro md md0; generalize hh_ : upd _ md _ = H1; have hmd := upd_is hh_; have s1 := same_is hh_ md0; clear hh_)
  exact ⟨md, a, p, x, y, plv, g, rfl, hmd, hs.tp (Tp.same s1), hg.same s1, fun q H' q0 hq s2 => k q H' (s1.free q0) hq (s1.trans s2)⟩
end
end SG
namespace SG
open PySem PySem.Spec PyProof.Rows L2
/-! ### corners -/
abbrev ZS := List (Fl × Addr)
def ent (zs : ZS) : List (Key × V) := zs.map fun z => ((Sum.inr z.1.p.nm : Key), V.ref z.2)
def CAt (H : Hp) (zs : ZS) : Prop := ∀ z ∈ zs, H z.2 = some (.tup [.int z.1.x, .int z.1.y])
theorem merge_app : ∀ (a b kvs : List (Key × V)), mergeK kvs (a ++ b) = mergeK (mergeK kvs a) b
  | [], _, _ => rfl
  | p :: r, b, kvs => merge_app r b (putK kvs p.1 p.2)
theorem flatL_snoc (g : Pl) (sx sy : Int) (ab : List Str) (k : Pt) : ∀ ks : List Pt, flatL g sx sy ab (ks ++ [k]) = flatL g sx sy ab ks ++ flatF g sx sy ab k
  | [] => by
    show flatF g sx sy ab k ++ [] = _
    rw [List.append_nil]
    rfl
  | p :: r => by
    show flatF g sx sy ab p ++ flatL g sx sy ab (r ++ [k]) = (flatF g sx sy ab p ++ flatL g sx sy ab r) ++ _
    rw [flatL_snoc g sx sy ab k r, List.append_assoc]
theorem Fr.tpd {H H' : Hp} {d : Addr} {kvs : List (Key × V)} (f : Fr [d] H H') (h : H d = some (.dK kvs)) : Tp H H' := fun b xs e => f _ _ e (not_in_one (ne_of e h (by intro z; cases z)))
theorem PlAt.frd {H H' : Hp} {d : Addr} {v : V} {g : Pl} (h : PlAt H v g) (f : Fr [d] H H') (n : ∀ q, v = .ref q → q ≠ d) : PlAt H' v g := h.keep fun q _ e o => f _ _ o (not_in_one (n q e))
theorem szL_take (ks : List Pt) (i : Nat) : szL (ks.take i) ≤ szL ks := by
  have := szL_app (ks.take i) (ks.drop i)
  rw [List.take_append_drop] at this
  omega
def spPut (d : Nat) : Sp := fun vs H Q _ => ∃ (fd sq : Addr) (p : Pt) (plv : V) (g : Pl) (sx sy : Int) (ab : List Str) (kvs : List (Key × V)), vs = [.ref fd, .ref p.a, .ref sq, plv] ∧ H fd = some (.dK kvs) ∧ PartAt H d p ∧ H sq = some (.tup [.int sx, .int sy]) ∧ PlAt H plv g ∧ (∀ q, plv = .ref q → q ≠ fd) ∧
  kvs.length + p.sz ≤ 900 ∧ ∀ (zs : ZS) (H' : Hp), Fr [fd] H H' → H' fd = some (.dK (mergeK kvs (ent zs))) → CAt H' zs → zs.map Prod.fst = flatF g sx sy ab p → Q .non H'
section
variable {P : Program} {w : World} {K : PySem.W.Frag} {mg : Str → Option Value} {base : Heap}
theorem ok_put (D : Df K mg "_put_corners" s_put_corners ["found", "part", "start", "places"]) (T : Txt K mg) (c_start_of_inner : Cl P w K mg base 1 "_start_of_inner" spStart) : ∀ d : Nat, Cl P w K mg base (d + 2) "_put_corners" (spPut d)
  | 0 => (D.none fun vs H Q E h => by
    obtain ⟨_, _, _, _, _, _, _, _, _, _, _, h, _⟩ := h
    exact h).mono (by omega)
  | d + 1 => by
    have c_put_corners := ok_put D T c_start_of_inner d
    refine D.ok sc_put_corners (fun vs H Q E h => ?_) (fun f cdv A outer s H vs Q E hr h => ?_)
    · obtain ⟨_, _, _, _, _, _, _, _, _, rfl, _⟩ := h
      rfl
    obtain ⟨fd, sq, p, plv, g, sx, sy, ab, kvs, rfl, hfd, pa, hsq, hg, nq, few, k⟩ := h
    have hu := hu_of hr
    refine ⟨_, -- name, (left, top, _, _), _, _, _, parts = part
    (pss_cons (ps_asg (pv 1) (pg_tup rfl (pgs_cons (pg_name (i := 4) sc_put_corners.nd rfl (Or.inl rfl)) (pgs_cons (pg_tup rfl (pgs_cons (pg_name (i := 5) sc_put_corners.nd rfl (Or.inl rfl)) (pgs_cons (pg_name (i := 6) sc_put_corners.nd rfl (Or.inl rfl)) (pgs_cons (pg_name (i := 7) sc_put_corners.nd rfl (Or.inl rfl)) (pgs_cons (pg_name (i := 7) sc_put_corners.nd rfl (Or.inl rfl)) pgs_nil))))) (pgs_cons (pg_name (i := 7) sc_put_corners.nd rfl (Or.inl rfl)) (pgs_cons (pg_name (i := 7) sc_put_corners.nd rfl (Or.inl rfl)) (pgs_cons (pg_name (i := 7) sc_put_corners.nd rfl (Or.inl rfl)) (pgs_cons (pg_name (i := 8) sc_put_corners.nd rfl (Or.inl rfl)) pgs_nil))))))))
    (pss_cons (ps_asg (pv 2) (pg_tup rfl (pgs_cons (pg_name (i := 9) sc_put_corners.nd rfl (Or.inl rfl)) (pgs_cons (pg_name (i := 10) sc_put_corners.nd rfl (Or.inl rfl)) pgs_nil))))
    (pss_cons (ps_dput hu (pv 0) (pv 4) (pe_tup (pa_cons (pe_op op_add (pv 9) (pv 5)) (pa_cons (pe_op op_add (pv 10) (pv 6)) pa_nil))) rfl)
    (pss_cons (ps_asg (pe_cl c_start_of_inner (hr.mono (by first | decide | omega)) rfl (pa_cons (pv 1) (pa_cons (pv 3) pa_nil))) (pg_tup rfl (pgs_cons (pg_name (i := 11) sc_put_corners.nd rfl (Or.inl rfl)) (pgs_cons (pg_name (i := 12) sc_put_corners.nd rfl (Or.inl rfl)) pgs_nil))))
    (pss_one (ps_for PassesOwn.never rfl (pi_tup (pv 8)) (pg_name (i := 13) sc_put_corners.nd rfl (Or.inl rfl))
      (pss_one (ps_expr (pe_cl c_put_corners (hr.mono (by first | decide | omega)) rfl (pa_cons (pv 0) (pa_cons (pv 13) (pa_cons (pe_tup (pa_cons (pe_op op_add (pv 9) (pv 11)) (pa_cons (pe_op op_add (pv 10) (pv 12)) pa_nil))) (pa_cons (pv 3) pa_nil))))))))))))), ?_⟩
    have pa0 := pa
    obtain ⟨bx, ws, kq, ear, sh, h1, h2, h3, h4, h5, h6⟩ := pa
    refine ⟨_, rfl, p.a, _, rfl, SqT.of h1, rfl, _, _, rfl, _, _, rfl, bx, _, rfl, SqT.of h2, rfl, _, _, rfl, _, _, rfl, _, _, rfl, _, _, rfl, rfl, _, _, rfl, _, _, rfl, _, _, rfl, _, _, rfl, rfl, ?_⟩
    refine ⟨_, rfl, sq, _, rfl, SqT.of hsq, rfl, _, _, rfl, _, _, rfl, rfl, ?_⟩
    dsimp only
    change tSeq _ _ _ [some (.ref fd), some (.ref p.a), some (.ref sq), some plv, some (.str p.nm), some (.int p.x), some (.int p.y), some (.ref ws), some (.ref kq), some (.int sx), some (.int sy), none, none, none] H
    have fH : ∀ {o : HO}, Fr [fd] H (upd H fd o) := Fr.put (by simp)
    refine ⟨_, rfl, _, rfl, _, _, rfl, rfl, _, rfl, _, rfl, _, _, rfl, rfl, (by show 2 ≤ sizeLine; decide), ?_⟩
    (intro a0 a00; generalize hh_ : upd _ a0 _ = H1; have ha0 := upd_is hh_; have s1 := same_is hh_ a00; clear hh_)
    have hfd1 := s1 _ _ hfd
    have lk : kvs.length < sizeLine := Nat.lt_of_lt_of_le (by omega : kvs.length < 1000) (by decide)
    refine ⟨_, rfl, _, rfl, fd, _, rfl, DPut.k (k := Sum.inr p.nm) (v := .ref a0) hfd1 lk, ?_⟩
    have f12 : Fr [fd] H1 (upd H1 fd (.dK (putK kvs (Sum.inr p.nm) (.ref a0)))) := Fr.put (by simp)
    have hfd2 : (upd H1 fd (.dK (putK kvs (Sum.inr p.nm) (.ref a0)))) fd = some (.dK (putK kvs (Sum.inr p.nm) (.ref a0))) := upd_same
    have f2 : Fr [fd] H (upd H1 fd (.dK (putK kvs (Sum.inr p.nm) (.ref a0)))) := (Fr.same s1 _).trans f12
    have ha2 := (Fr.tpd f12 hfd1) _ _ ha0
    generalize upd H1 fd (.dK (putK kvs (Sum.inr p.nm) (.ref a0))) = H2 at *
    have tp2 := Fr.tpd f2 hfd
    refine ⟨_, rfl, _, rfl, p, d + 1, plv, g, rfl, pa0.tp tp2, hg.frd f2 nq, fun q Hz q0 hq sz => ?_⟩
    refine ⟨q, _, rfl, SqT.of hq, rfl, _, _, rfl, _, _, rfl, rfl, ?_⟩
    have fz : Fr [fd] H Hz := f2.trans (Fr.same sz _)
    have hfdz := sz _ _ hfd2
    have haz := sz _ _ ha2
    have tpz := Fr.tpd fz hfd
    have lp := length_putK kvs (Sum.inr p.nm : Key) (.ref a0)
    have psz : p.sz = szL p.ks + 1 := by cases p; rfl
    dsimp only
    change tFor _ _ _ _ [some (.ref fd), some (.ref p.a), some (.ref sq), some plv, some (.str p.nm), some (.int p.x), some (.int p.y), some (.ref ws), some (.ref kq), some (.int sx), some (.int sy), some (.int (inX g p 0)), some (.int (inY g p 0)), none] Hz
    have h4z := tpz _ _ h4
    refine ⟨_, rfl, kq, rfl, ⟨_, SqT.of h4z⟩, for_tup (K := K) (a := kq) (xs := p.ks.map fun k => V.ref k.a) (fun i σ Hx => ∃ (k13 : Option V) (zs : ZS), σ = [some (.ref fd), some (.ref p.a), some (.ref sq), some plv, some (.str p.nm), some (.int p.x), some (.int p.y), some (.ref ws), some (.ref kq), some (.int sx), some (.int sy), some (.int (inX g p 0)), some (.int (inY g p 0)), k13] ∧
      Hx fd = some (.dK (mergeK (putK kvs (Sum.inr p.nm) (.ref a0)) (ent zs))) ∧ CAt Hx zs ∧ zs.map Prod.fst = flatL g (inX g p sx) (inY g p sy) (p.nm :: ab) (p.ks.take i) ∧ Fr [fd] Hz Hx) ?_ (fun i σ Hx _ ⟨_, _, _, _, _, _, fx⟩ => SqT.of ((Fr.tpd fx hfdz) _ _ h4z)) ?_ ?_⟩
    · exact ⟨none, [], rfl, hfdz, (fun z hz => nomatch hz), rfl, Fr.refl _ _⟩
    · rintro i v σ Hx hi ⟨k13, zs, rfl, x1, x2, x3, fx⟩
      rw [List.getElem?_map] at hi
      obtain ⟨c, hc, rfl⟩ := Option.map_eq_some_iff.mp hi
      obtain ⟨hil, ei⟩ := List.getElem?_eq_some_iff.mp hc
      have fx0 := fz.trans fx
      have tpx := Fr.tpd fx0 hfd
      have lz : (ent zs).length = szL (p.ks.take i) := by
        rw [← flatL_len g (inX g p sx) (inY g p sy) (p.nm :: ab) (p.ks.take i), ← x3, List.length_map]
        unfold ent
        rw [List.length_map]
      have lm := length_mergeK (ent zs) (putK kvs (Sum.inr p.nm : Key) (.ref a0))
      have sp : szL (p.ks.take (i + 1)) ≤ szL p.ks := szL_take _ _
      rw [List.take_succ_eq_append_getElem hil, ei, szL_app] at sp
      have sp' : szL (p.ks.take i) + (c.sz + 0) ≤ szL p.ks := sp
      refine ⟨_, rfl, _, rfl, _, rfl, _, rfl, _, _, rfl, rfl, _, rfl, _, rfl, _, _, rfl, rfl, (by show 2 ≤ sizeLine; decide), ?_⟩
      (intro sq2 sq0; generalize hh_ : upd _ sq2 _ = Hw; have hsq2 := upd_is hh_; have sw := same_is hh_ sq0; clear hh_)
      refine ⟨_, rfl, fd, sq2, c, plv, g, sx + inX g p 0, sy + inY g p 0, p.nm :: ab, _, rfl, sw _ _ x1, ((h6 c (List.mem_of_getElem? hc)).tp tpx).tp (Tp.same sw), hsq2, (hg.frd fx0 nq).same sw, nq, by omega, fun zs2 H5 f5 e5 c5 m5 => ?_⟩
      have fx5 : Fr [fd] Hx H5 := (Fr.same sw _).trans f5
      have tp5 := Fr.tpd fx5 x1
      refine ⟨_, zs ++ zs2, rfl, ?_, ?_, ?_, fx.trans fx5⟩
      · rw [e5]
        unfold ent
        rw [List.map_append, merge_app]
      · intro z hz
        rcases List.mem_append.mp hz with hz | hz
        · exact tp5 _ _ (x2 z hz)
        · exact c5 z hz
      · rw [List.map_append, x3, m5, List.take_succ_eq_append_getElem hil, ei, flatL_snoc, (in0 g p sx sy).1, (in0 g p sx sy).2]
    · rintro σ Hx ⟨k13, zs, rfl, x1, x2, x3, fx⟩
      rw [List.take_of_length_le (by rw [List.length_map]; exact Nat.le_refl _)] at x3
      refine k ((⟨p, sx + p.x, sy + p.y, ab⟩, a0) :: zs) Hx (fz.trans fx) x1 ?_ ?_
      · intro z hz
        rcases List.mem_cons.mp hz with rfl | hz
        · exact (Fr.tpd fx hfdz) _ _ haz
        · exact x2 z hz
      · rw [List.map_cons, x3, flatF_eq]
theorem PlAt.ne {H : Hp} {v : V} {fd : Addr} : ∀ {g : Pl}, PlAt H v g → H fd = none → ∀ q, v = .ref q → q ≠ fd
  | none, h, _, q, e => by
    have h' : v = .non := h
    rw [h'] at e
    cases e
  | some f, ⟨q', kvs, e', h1, _⟩, h0, q, e => by
    rw [e'] at e
    injection e with e
    rw [← e]
    exact ne_of_none h1 h0
def spCorners : Sp := fun vs H Q _ => ∃ (a : Addr) (p : Pt) (plv : V) (g : Pl), vs = [.ref a, plv] ∧ SceneAt H a p ∧ PlAt H plv g ∧
  ∀ (q : Addr) (zs : ZS) (H' : Hp), Same H H' → H' q = some (.dK (mergeK [] (ent zs))) → CAt H' zs → zs.map Prod.fst = flatF g 0 0 [] p → Q (.ref q) H'
theorem ok_corners (D : DfK K mg "corners" scorners ["scene", "places"] 1 ["places"] [.non]) (T : Txt K mg) (c_put_corners : Cl P w K mg base 8 "_put_corners" (spPut 6)) :
    ClK P w K mg base 9 "corners" 1 ["places"] spCorners ∧ ClD P w K mg base 9 "corners" [.non] spCorners := by
  refine D.ok sccorners (fun vs H Q E h => ?_) (fun f cdv A outer s H vs Q E hr h => ?_)
  · obtain ⟨_, _, _, _, rfl, _⟩ := h
    rfl
  obtain ⟨a, p, plv, g, rfl, ⟨⟨b, hd, h1⟩, h2, h3, h4⟩, hg, k⟩ := h
  refine ⟨_, -- found = {}
    (pss_cons (ps_set (i := 2) sccorners.nd rfl (Or.inl rfl) pe_dnewK)
    (pss_cons (ps_expr (pe_cl c_put_corners (hr.mono (by first | decide | omega)) rfl (pa_cons (pv 2) (pa_cons (pe_ix ix_tup (pv 0) pe_int (fun _ _ => rfl)) (pa_cons (pe_tup (pa_cons pe_int (pa_cons pe_int pa_nil))) (pa_cons (pv 1) pa_nil))))))
    (pss_one (ps_ret (pv 2))))), ?_⟩
  (intro fd fd0; generalize hh_ : upd _ fd _ = H1; have hfd := upd_is hh_; have s1 := same_is hh_ fd0; clear hh_)
  refine ⟨_, rfl, _, rfl, a, _, 0, _, rfl, rfl, SqT.of (s1 _ _ h1), atI_nat (j := 0) rfl, (by show 2 ≤ sizeLine; decide), ?_⟩
  (intro sq sq0; generalize hh_ : upd _ sq _ = H2; have hsq := upd_is hh_; have s2 := same_is hh_ sq0; clear hh_)
  have s02 := s1.trans s2
  refine ⟨_, rfl, fd, sq, p, plv, g, 0, 0, [], [], rfl, s2 _ _ hfd, h2.tp (Tp.same s02), hsq, hg.same s02, hg.ne fd0, by show 0 + p.sz ≤ 900; omega, fun zs H3 f3 e3 c3 m3 => ?_⟩
  refine ⟨_, rfl, ?_⟩
  exact k fd zs H3 (fun q o e => f3 _ _ (s02 _ _ e) (not_in_one (ne_of_none e fd0))) e3 c3 m3
end
end SG
namespace SG
open PySem PySem.Spec PyProof.Rows L2
/-! ### the law's own going through -/
section
variable {K : PySem.W.Frag} {H H' H1 H2 : Hp} {t c p : Addr} {n m : Nat}
end
structure WI where
  q : Addr
  ab : Addr
  d : Nat
  p : Pt
  x : Int
  y : Int
  abs : List Str
def WAt (H : Hp) (l fo : Addr) (i : WI) : Prop := H i.q = some (.tup [.ref i.p.a, .int i.x, .int i.y, .ref i.ab]) ∧ H i.ab = some (.lst (i.abs.map V.str)) ∧ i.abs.length + i.d ≤ 6 ∧ PartAt H i.d i.p ∧ i.ab ≠ l ∧ i.ab ≠ fo
structure FE where
  q : Addr
  ab : Addr
  d : Nat
  f : Fl
def FeAt (H : Hp) (e : FE) : Prop := H e.q = some (.tup [.ref e.f.p.a, .int e.f.x, .int e.f.y, .ref e.ab]) ∧ H e.ab = some (.lst (e.f.ab.map V.str)) ∧ PartAt H e.d e.f.p ∧ e.f.ab.length ≤ 6
def restF (g : Pl) : List WI → List Fl
  | [] => []
  | i :: r => flatF g i.x i.y i.abs i.p ++ restF g r
theorem restF_app (g : Pl) : ∀ a b : List WI, restF g (a ++ b) = restF g a ++ restF g b
  | [], _ => rfl
  | i :: r, b => by
    show flatF g i.x i.y i.abs i.p ++ restF g (r ++ b) = (flatF g i.x i.y i.abs i.p ++ restF g r) ++ restF g b
    rw [restF_app g r b, List.append_assoc]
theorem FeAt.same {H H' : Hp} {e : FE} (h : FeAt H e) (s : Same H H') : FeAt H' e := ⟨s _ _ h.1, s _ _ h.2.1, h.2.2.1.tp (Tp.same s), h.2.2.2⟩
theorem FeAt.put {H : Hp} {e : FE} {l : Addr} {xs : List V} {o : HO} (h : FeAt H e) (hl : H l = some (.lst xs)) (n : e.ab ≠ l) : FeAt (upd H l o) e := ⟨Tp.put hl _ _ h.1, by rw [upd_ne n]; exact h.2.1, h.2.2.1.tp (Tp.put hl), h.2.2.2⟩
theorem WAt.same {H H' : Hp} {l fo : Addr} {i : WI} (h : WAt H l fo i) (s : Same H H') : WAt H' l fo i := ⟨s _ _ h.1, s _ _ h.2.1, h.2.2.1, h.2.2.2.1.tp (Tp.same s), h.2.2.2.2⟩
theorem WAt.put {H : Hp} {l fo p : Addr} {i : WI} {xs : List V} {o : HO} (h : WAt H l fo i) (hl : H p = some (.lst xs)) (n : i.ab ≠ p) : WAt (upd H p o) l fo i := ⟨Tp.put hl _ _ h.1, by rw [upd_ne n]; exact h.2.1, h.2.2.1, h.2.2.2.1.tp (Tp.put hl), h.2.2.2.2⟩
theorem WAt.to {H : Hp} {l l' fo : Addr} {i : WI} (h : WAt H l fo i) (e : H l' = none) : WAt H l' fo i := ⟨h.1, h.2.1, h.2.2.1, h.2.2.2.1, (ne_of_none h.2.1 e), h.2.2.2.2.2⟩
theorem at0_4 {a b c d : V} : atI [a, b, c, d] 0 = some a := atI_nat (j := 0) rfl
theorem at1_4 {a b c d : V} : atI [a, b, c, d] 1 = some b := atI_nat (j := 1) rfl
theorem at2_4 {a b c d : V} : atI [a, b, c, d] 2 = some c := atI_nat (j := 2) rfl
theorem at3_4 {a b c d : V} : atI [a, b, c, d] 3 = some d := atI_nat (j := 3) rfl
theorem at0_6 {a b c d e f : V} : atI [a, b, c, d, e, f] 0 = some a := atI_nat (j := 0) rfl
theorem at1_6 {a b c d e f : V} : atI [a, b, c, d, e, f] 1 = some b := atI_nat (j := 1) rfl
theorem at3_6 {a b c d e f : V} : atI [a, b, c, d, e, f] 3 = some d := atI_nat (j := 3) rfl
theorem at5_6 {a b c d e f : V} : atI [a, b, c, d, e, f] 5 = some f := atI_nat (j := 5) rfl
theorem at0_3 {a b c : V} : atI [a, b, c] 0 = some a := atI_nat (j := 0) rfl
theorem rest_len (g : Pl) : ∀ its : List WI, its.length ≤ (restF g its).length
  | [] => Nat.le_refl _
  | i :: r => by
    have h1 := rest_len g r
    have h2 := flatF_len g i.x i.y i.abs i.p
    have h3 := sz_pos i.p
    show r.length + 1 ≤ (flatF g i.x i.y i.abs i.p ++ restF g r).length
    rw [List.length_append]
    omega
def spFlat : Sp := fun vs H Q _ => ∃ (a sp : Addr) (p : Pt) (kvs : List (Key × V)) (f : Str → Int), vs = [.ref a, .ref sp] ∧ SceneAt H a p ∧ H sp = some (.dK kvs) ∧ (∀ s : Str, (valV kvs (Sum.inr s : Key)).getD (.int 0) = .int (f s)) ∧
  ∀ (q : Addr) (es : List FE) (H' : Hp), Same H H' → H' q = some (.lst (es.map fun e => V.ref e.q)) → (∀ e ∈ es, FeAt H' e) → es.map FE.f = flatF (some f) 0 0 [] p → Q (.ref q) H'
section
variable {P : Program} {w : World} {K : PySem.W.Frag} {mg : Str → Option Value} {base : Heap}
theorem ok_flat (D : Df K mg "_law_flat" s_law_flat ["_law_scene_here", "_law_spots_here"]) (T : Txt K mg) : Cl P w K mg base 1 "_law_flat" spFlat := by
  refine D.ok sc_law_flat (fun vs H Q E h => ?_) (fun f cdv A outer s H vs Q E hr h => ?_)
  · obtain ⟨_, _, _, _, _, rfl, _⟩ := h
    rfl
  obtain ⟨a, sp, p, kvs, gf, rfl, ⟨⟨b, hd, h1⟩, h2, h30, h4⟩, hsp, hget, k⟩ := h
  have hu := hu_of hr
  refine ⟨_, -- _law_left = [(_law_scene_here[0], 0, 0, [])]
    (pss_cons (ps_set (i := 2) sc_law_flat.nd rfl (Or.inl rfl) (pe_lst (pa_cons (pe_tup (pa_cons (pe_ix ix_tup (pv 0) pe_int (fun _ _ => rfl)) (pa_cons pe_int (pa_cons pe_int (pa_cons (pe_lst pa_nil) pa_nil))))) pa_nil)))
    (pss_cons (ps_set (i := 3) sc_law_flat.nd rfl (Or.inl rfl) (pe_lst pa_nil))
    (pss_cons (ps_while PassesOwn.never (pt_cmpR (op_neNil hr.units) (pv 2) (pe_lst pa_nil) (nomark _))
      (pss_cons (ps_asg (pe_bm PySem.F.plainAttrs_list PySem.F.slot_list_pop PySem.F.type_list_pop mt_popAt (pv 2) (pa_cons pe_int pa_nil)) (pg_tup rfl (pgs_cons (pg_name (i := 4) sc_law_flat.nd rfl (Or.inr rfl)) (pgs_cons (pg_name (i := 5) sc_law_flat.nd rfl (Or.inr rfl)) (pgs_cons (pg_name (i := 6) sc_law_flat.nd rfl (Or.inr rfl)) (pgs_cons (pg_name (i := 7) sc_law_flat.nd rfl (Or.inr rfl)) pgs_nil))))))
      (pss_cons (ps_asg (pe_tup (pa_cons (pe_op op_add (pv 5) (pe_ix ix_tup (pe_ix ix_tup (pv 4) pe_int (fun _ _ => rfl)) pe_int (fun _ _ => rfl))) (pa_cons (pe_op op_add (pv 6) (pe_ix ix_tup (pe_ix ix_tup (pv 4) pe_int (fun _ _ => rfl)) pe_int (fun _ _ => rfl))) pa_nil))) (pg_tup rfl (pgs_cons (pg_name (i := 5) sc_law_flat.nd rfl (Or.inr rfl)) (pgs_cons (pg_name (i := 6) sc_law_flat.nd rfl (Or.inr rfl)) pgs_nil))))
      (pss_cons (ps_expr (pe_bm PySem.F.plainAttrs_list PySem.F.slot_list_append PySem.F.type_list_append mt_append (pv 3) (pa_cons (pe_tup (pa_cons (pv 4) (pa_cons (pv 5) (pa_cons (pv 6) (pa_cons (pv 7) pa_nil))))) pa_nil)))
      (C8.pss_cut (ps_if (PW.pt (pw_and (pt_cmp (pc_notN (pe_ix ix_tup (pv 4) pe_int (fun _ _ => rfl)))) (pw_and1 (pt_cmpR op_eq (pe_ix ix_tup (pe_ix ix_tup (pv 4) pe_int (fun _ _ => rfl)) pe_int (fun _ _ => rfl)) pe_str (nomark _)))))
        (pss_one (ps_set (i := 5) sc_law_flat.nd rfl (Or.inr rfl) (pe_op op_add (pv 5) (pe_dget2 hu (pv 1) (pe_ix ix_tup (pv 4) pe_int (fun _ _ => rfl)) pe_int ⟨by rfl, by rfl, by rfl, by rfl⟩))))
        pss_nil)
      (C8.pss_cut (ps_if (PW.pt (pw_and (pt_cmp (pc_notN (pe_ix ix_tup (pv 4) pe_int (fun _ _ => rfl)))) (pw_and1 (pt_cmpR op_eq (pe_ix ix_tup (pe_ix ix_tup (pv 4) pe_int (fun _ _ => rfl)) pe_int (fun _ _ => rfl)) pe_str (nomark _)))))
        (pss_one (ps_set (i := 6) sc_law_flat.nd rfl (Or.inr rfl) (pe_op op_add (pv 6) (pe_dget2 hu (pv 1) (pe_ix ix_tup (pv 4) pe_int (fun _ _ => rfl)) pe_int ⟨by rfl, by rfl, by rfl, by rfl⟩))))
        pss_nil)
      (pss_one (ps_set (i := 2) sc_law_flat.nd rfl (Or.inl rfl) (pe_op op_cat (pe_lc (own := [("_law_one", 8)]) rfl sc_law_flat.nd (pi_tup (pe_ix ix_tup (pv 4) pe_int (fun _ _ => rfl))) (blkOk_by (N := N_law_flat) (sc := defScope s_law_flat) (by decide +kernel)) (fun _ _ _ _ _ => (pg_name (i := 8) sc_law_flat.nd rfl (Or.inl rfl))) (fun _ _ _ _ _ => pts_nil) (fun _ _ _ _ _ => (pe_tup (pa_cons (pv 8) (pa_cons (pv 5) (pa_cons (pv 6) (pa_cons (pe_op op_cat (pe_lst (pa_cons (pe_ix (r := rIxT K) ix_tup (pv 4) pe_int (fun _ _ => rfl)) pa_nil)) (pv 7)) pa_nil))))))) (pv 2))))))))))
    (pss_one (ps_ret (pv 3)))))), ?_⟩
  refine ⟨_, rfl, a, _, 0, _, rfl, rfl, SqT.of h1, at0_3, (by show 0 ≤ sizeLine; decide), ?_⟩
  (intro ab ab0; generalize hh_ : upd _ ab _ = Ha; have hab := upd_is hh_; have sa := same_is hh_ ab0; clear hh_)
  refine ⟨(by show 4 ≤ sizeLine; decide), ?_⟩
  (intro q q0; generalize hh_ : upd _ q _ = Hb; have hq := upd_is hh_; have sb := same_is hh_ q0; clear hh_)
  refine ⟨(by show 1 ≤ sizeLine; decide), ?_⟩
  (intro l l0; generalize hh_ : upd _ l _ = Hc; have hl := upd_is hh_; have sc := same_is hh_ l0; clear hh_)
  refine ⟨(by show 0 ≤ sizeLine; decide), ?_⟩
  (intro fo fo0; generalize hh_ : upd _ fo _ = Hd; have hfo := upd_is hh_; have sd := same_is hh_ fo0; clear hh_)
  have s0 := (sa.trans sb).trans (sc.trans sd)
  have lH := (sa.trans sb).free l0
  have foH := ((sa.trans sb).trans sc).free fo0
  have lfo : fo ≠ l := ne_fresh hl fo0
  have i0 : WAt Hd l fo ⟨q, ab, 6, p, 0, 0, []⟩ := ⟨(sc.trans sd) _ _ hq, (sb.trans (sc.trans sd)) _ _ hab, by show 0 + 6 ≤ 6; decide, h2.tp (Tp.same s0), (ne_fresh (sb _ _ hab) l0).symm, (ne_fresh ((sb.trans sc) _ _ hab) fo0).symm⟩
  have tl : (flatF (some gf) 0 0 [] p).length = p.sz := flatF_len _ _ _ _ _
  generalize htot : flatF (some gf) 0 0 [] p = total at *
  refine ⟨fun m σ Hx => ∃ (l : Addr) (its : List WI) (es : List FE) (k4 k5 k6 k7 : Option V), σ = [some (.ref a), some (.ref sp), some (.ref l), some (.ref fo), k4, k5, k6, k7, none] ∧ Hx l = some (.lst (its.map fun i => V.ref i.q)) ∧ (∀ i ∈ its, WAt Hx l fo i) ∧ Hx fo = some (.lst (es.map fun e => V.ref e.q)) ∧
    (∀ e ∈ es, FeAt Hx e ∧ e.ab ≠ fo ∧ e.ab ≠ l) ∧ es.map FE.f ++ restF (some gf) its = total ∧ m = (restF (some gf) its).length ∧ Same H Hx ∧ H l = none ∧ l ≠ fo, ?_, ?_⟩
  · refine ⟨total.length, l, [⟨q, ab, 6, p, 0, 0, []⟩], [], none, none, none, none, rfl, sd _ _ hl, (fun i hi => by rw [List.mem_singleton.mp hi]; exact i0), hfo, (fun e he => nomatch he), ?_, ?_, s0, lH, lfo.symm⟩
    · show [] ++ (flatF (some gf) 0 0 [] p ++ []) = total
      rw [List.append_nil, htot]
      rfl
    · show total.length = (flatF (some gf) 0 0 [] p ++ []).length
      rw [List.append_nil, htot]
  clear hl hfo i0 s0 lH lfo l0 fo0 sa sb sc sd hab hq ab0 q0
  rintro m σ Hx ⟨l, its, es, k4, k5, k6, k7, rfl, x1, x2, x3, x4, x5, rfl, sx, lH, lfo⟩
  refine ⟨_, rfl, (by show 0 ≤ sizeLine; decide), ?_⟩
  (intro e e0; generalize hh_ : upd _ e _ = He; have he := upd_is hh_; have se := same_is hh_ e0; clear hh_)
  refine ⟨l, e, _, rfl, rfl, SqL.of (se _ _ x1), SqL.of he, _, rfl, ?_⟩
  have y1 := se _ _ x1
  have y3 := se _ _ x3
  have sxe := sx.trans se
  have i2 : ∀ i ∈ its, WAt He l fo i := fun i hi => (x2 i hi).same se
  have i4 : ∀ e ∈ es, FeAt He e ∧ e.ab ≠ fo ∧ e.ab ≠ l := fun e he => ⟨(x4 e he).1.same se, (x4 e he).2⟩
  clear x1 x2 x3 x4 sx se e0
  cases its with
  | nil =>
    refine iteF ?_
    refine ⟨_, rfl, k fo es He sxe y3 (fun e he => (i4 e he).1) ?_⟩
    rw [← x5]
    exact (List.append_nil _).symm
  | cons it its =>
    refine iteT ?_
    obtain ⟨g1, g2, g3, g4, g5, g6⟩ := i2 it List.mem_cons_self
    have i2' : ∀ i ∈ its, WAt He l fo i := fun i hi => i2 i (List.mem_cons_of_mem _ hi)
    obtain ⟨q, ab, d, c, x, y, abs⟩ := it
    cases d with
    | zero => exact g4.elim
    | succ d =>
    dsimp only at g1 g2 g3 g4 g5 g6
    obtain ⟨bx, ws, kq, ear, sh, p1, p2, p3, p4, p5, p6⟩ := g4
    have e5 : es.map FE.f ++ (⟨c, x + c.x, y + c.y, abs⟩ :: (flatL (some gf) (inX (some gf) c x) (inY (some gf) c y) (c.nm :: abs) c.ks ++ restF (some gf) its)) = total := by
      rw [← x5]
      show _ = es.map FE.f ++ (flatF (some gf) x y abs c ++ restF (some gf) its)
      rw [flatF_eq]
      rfl
    have ln := congrArg List.length e5
    rw [List.length_append, List.length_cons, List.length_append, List.length_map, tl] at ln
    have lk := flatL_len (some gf) (inX (some gf) c x) (inY (some gf) c y) (c.nm :: abs) c.ks
    have lks := len_szL c.ks
    have lr := rest_len (some gf) its
    refine ⟨fun σ' H' => ∃ m', m' < (restF (some gf) (⟨q, ab, d + 1, c, x, y, abs⟩ :: its)).length ∧ ∃ (l : Addr) (its : List WI) (es : List FE) (k4 k5 k6 k7 : Option V), σ' = [some (.ref a), some (.ref sp), some (.ref l), some (.ref fo), k4, k5, k6, k7, none] ∧ H' l = some (.lst (its.map fun i => V.ref i.q)) ∧ (∀ i ∈ its, WAt H' l fo i) ∧ H' fo = some (.lst (es.map fun e => V.ref e.q)) ∧
      (∀ e ∈ es, FeAt H' e ∧ e.ab ≠ fo ∧ e.ab ≠ l) ∧ es.map FE.f ++ restF (some gf) its = total ∧ m' = (restF (some gf) its).length ∧ Same H H' ∧ H l = none ∧ l ≠ fo, fun σ' H' ⟨m', hm, z⟩ => ⟨m', hm, z⟩, ?_⟩
    refine ⟨_, rfl, .inl ⟨rfl, _, SqL.of y1⟩, l, _, 0, 0, .ref q, rfl, rfl, y1, by decide, by decide, seq0 (by simp), rfl, ?_⟩
    have pt : Tp He (upd He l (.lst (its.map fun i => V.ref i.q))) := Tp.put y1
    have y3' : (upd He l (.lst (its.map fun i => V.ref i.q))) fo = some (.lst (es.map fun e => V.ref e.q)) := by rw [upd_ne lfo.symm]; exact y3
    have g2' : (upd He l (.lst (its.map fun i => V.ref i.q))) ab = some (.lst (abs.map V.str)) := by rw [upd_ne g5]; exact g2
    have yl : (upd He l (.lst (its.map fun i => V.ref i.q))) l = some (.lst (its.map fun i => V.ref i.q)) := upd_same
    have j2 : ∀ i ∈ its, WAt (upd He l (.lst (its.map fun i => V.ref i.q))) l fo i := fun i hi => (i2' i hi).put y1 (i2' i hi).2.2.2.2.1
    have sl : Same H (upd He l (.lst (its.map fun i => V.ref i.q))) := fun p o e => by rw [upd_ne (ne_of_none e lH)]; exact sxe _ _ e
    have i4' : ∀ e ∈ es, FeAt (upd He l (.lst (its.map fun i => V.ref i.q))) e ∧ e.ab ≠ fo ∧ e.ab ≠ l := fun e he => ⟨(i4 e he).1.put y1 (i4 e he).2.2, (i4 e he).2⟩
    have pc : PartAt (upd He l (.lst (its.map fun i => V.ref i.q))) (d + 1) c := PartAt.tp pt ⟨bx, ws, kq, ear, sh, p1, p2, p3, p4, p5, p6⟩
    have g1' := pt _ _ g1
    refine ⟨q, _, rfl, SqT.of g1', rfl, _, _, rfl, _, _, rfl, _, _, rfl, _, _, rfl, rfl, ?_⟩
    change (tSeq _ _) _ _ (upd He l (.lst (its.map fun i => V.ref i.q)))
    clear g1 g2 p1 p2 p3 p4 p6 i4 i2 i2' y1 y3 sxe he pt
    generalize (upd He l (.lst (its.map fun i => V.ref i.q))) = H1 at *
    have pc0 := pc
    obtain ⟨bx, ws, kq, ear, sh, p1, p2, p3, p4, p5, p6⟩ := pc
    refine ⟨_, rfl, _, rfl, c.a, _, 1, .ref bx, rfl, rfl, SqT.of p1, at1_6, bx, _, 0, _, rfl, rfl, SqT.of p2, at0_4, _, _, rfl, rfl, _, rfl, _, rfl, c.a, _, 1, .ref bx, rfl, rfl, SqT.of p1, at1_6, bx, _, 1, _, rfl, rfl, SqT.of p2, at1_4, _, _, rfl, rfl, (by show 2 ≤ sizeLine; decide), ?_⟩
    (intro t2 t20; generalize hh_ : upd _ t2 _ = H2; have ht2 := upd_is hh_; have s2 := same_is hh_ t20; clear hh_)
    refine ⟨t2, _, rfl, SqT.of ht2, rfl, _, _, rfl, _, _, rfl, rfl, ?_⟩
    refine ⟨_, rfl, .inl ⟨rfl, _, SqL.of (s2 _ _ y3')⟩, _, rfl, _, rfl, _, rfl, _, rfl, (by show 4 ≤ sizeLine; decide), ?_⟩
    (intro t4 t40; generalize hh_ : upd _ t4 _ = H3; have ht4 := upd_is hh_; have s3 := same_is hh_ t40; clear hh_)
    have s13 := s2.trans s3
    have y3a := s13 _ _ y3'
    refine ⟨fo, _, _, rfl, rfl, y3a, Nat.lt_of_lt_of_le (by rw [List.length_map]; omega : _ < 1000) (by decide), ?_⟩
    have abfo : ab ≠ fo := g6
    have pf : Tp H3 (upd H3 fo (.lst ((es.map fun e => V.ref e.q) ++ [.ref t4]))) := Tp.put y3a
    have pa : Tp H1 (upd H3 fo (.lst ((es.map fun e => V.ref e.q) ++ [.ref t4]))) := (Tp.same s13).trans pf
    have z3 : (upd H3 fo (.lst ((es.map fun e => V.ref e.q) ++ [.ref t4]))) fo = some (.lst ((es ++ [(⟨t4, ab, d + 1, ⟨c, x + c.x, y + c.y, abs⟩⟩ : FE)]).map fun e => V.ref e.q)) := by rw [upd_same, List.map_append]; rfl
    have zab : (upd H3 fo (.lst ((es.map fun e => V.ref e.q) ++ [.ref t4]))) ab = some (.lst (abs.map V.str)) := by rw [upd_ne abfo]; exact s13 _ _ g2'
    have zl : (upd H3 fo (.lst ((es.map fun e => V.ref e.q) ++ [.ref t4]))) l = some (.lst (its.map fun i => V.ref i.q)) := by rw [upd_ne lfo]; exact s13 _ _ yl
    have jz : ∀ i ∈ its, WAt (upd H3 fo (.lst ((es.map fun e => V.ref e.q) ++ [.ref t4]))) l fo i := fun i hi => ((j2 i hi).same s13).put y3a (j2 i hi).2.2.2.2.2
    have iz : ∀ e ∈ es ++ [(⟨t4, ab, d + 1, ⟨c, x + c.x, y + c.y, abs⟩⟩ : FE)], FeAt (upd H3 fo (.lst ((es.map fun e => V.ref e.q) ++ [.ref t4]))) e ∧ e.ab ≠ fo ∧ e.ab ≠ l := fun e he => by
      rcases List.mem_append.mp he with he | he
      · exact ⟨((i4' e he).1.same s13).put y3a (i4' e he).2.1, (i4' e he).2⟩
      · rw [List.mem_singleton.mp he]
        exact ⟨⟨pf _ _ ht4, zab, pc0.tp pa, by show abs.length ≤ 6; omega⟩, abfo, g5⟩
    have sz' : Same H (upd H3 fo (.lst ((es.map fun e => V.ref e.q) ++ [.ref t4]))) := fun p o e => by rw [upd_ne (ne_of_none e foH)]; exact s13 _ _ (sl _ _ e)
    have pz0 := pc0.tp pa
    have zsp := sz' _ _ hsp
    clear s2 s3 s13 y3a pf pa y3' g2' yl j2 sl i4' g1' ht2 ht4 t20 t40 p1 p2 p3 p4 p5 p6 pc0
    generalize (upd H3 fo (.lst ((es.map fun e => V.ref e.q) ++ [.ref t4]))) = H4 at *
    generalize hes : es ++ [(⟨t4, ab, d + 1, ⟨c, x + c.x, y + c.y, abs⟩⟩ : FE)] = es' at *
    obtain ⟨bx, ws, kq, ear, sh, p1, p2, p3, p4, p5, p6⟩ := pz0
    refine ⟨fun σ' H' => σ' = [some (.ref a), some (.ref sp), some (.ref l), some (.ref fo), some (.ref c.a), some (.int (inX (some gf) c x)), some (.int (y + c.y)), some (.ref ab), none] ∧ H' = H4, ?_, ?_⟩
    · refine ⟨_, rfl, c.a, _, 3, sh, rfl, rfl, SqT.of p1, at3_6, _, rfl, ?_⟩
      cases esh : c.sh with
      | none =>
        rw [esh] at p3
        have e : sh = .non := p3
        subst e
        refine iteF ?_
        have e : inX (some gf) c x = x + c.x := by
          unfold inX off
          rw [esh]
          exact Int.add_zero _
        rw [e]
        exact ⟨rfl, rfl⟩
      | some sh3 =>
        obtain ⟨b, i, j⟩ := sh3
        rw [esh] at p3
        obtain ⟨⟨sq, rfl, hs⟩, _, _⟩ := p3
        refine iteT ?_
        change tTest _ [some (V.ref a), some (V.ref sp), some (V.ref l), some (V.ref fo), some (V.ref c.a), some (V.int (x + c.x)), some (V.int (y + c.y)), some (V.ref ab), none] H4 _
        refine ⟨_, rfl, c.a, _, 3, .ref sq, rfl, rfl, SqT.of p1, at3_6, sq, _, 0, _, rfl, rfl, SqT.of hs, at0_3, rfl, _, rfl, ?_⟩
        rw [way_dec]
        refine ite2 (fun hb => ?_) (fun hb => ?_)
        · refine ⟨_, rfl, _, rfl, sp, rfl, .inl ⟨_, .inl zsp⟩, _, rfl, c.a, _, 0, .str c.nm, rfl, rfl, SqT.of p1, at0_6, _, DGet.k (k := Sum.inr c.nm) zsp, ?_⟩
          rw [hget c.nm]
          refine ⟨_, _, rfl, rfl, ?_⟩
          have e : inX (some gf) c x = x + c.x + gf c.nm := by
            unfold inX off
            rw [esh]
            cases b <;> simp at hb ⊢
          rw [e]
          exact ⟨rfl, rfl⟩
        · have e : inX (some gf) c x = x + c.x := by
            unfold inX off
            rw [esh]
            cases b <;> simp at hb ⊢
          rw [e]
          exact ⟨rfl, rfl⟩
    rintro σ' Hq ⟨rfl, rfl⟩
    refine ⟨fun σ' H' => σ' = [some (.ref a), some (.ref sp), some (.ref l), some (.ref fo), some (.ref c.a), some (.int (inX (some gf) c x)), some (.int (inY (some gf) c y)), some (.ref ab), none] ∧ H' = Hq, ?_, ?_⟩
    · refine ⟨_, rfl, c.a, _, 3, sh, rfl, rfl, SqT.of p1, at3_6, _, rfl, ?_⟩
      cases esh : c.sh with
      | none =>
        rw [esh] at p3
        have e : sh = .non := p3
        subst e
        refine iteF ?_
        have e : inY (some gf) c y = y + c.y := by
          unfold inY off
          rw [esh]
          exact Int.add_zero _
        rw [e]
        exact ⟨rfl, rfl⟩
      | some sh3 =>
        obtain ⟨b, i, j⟩ := sh3
        rw [esh] at p3
        obtain ⟨⟨sq, rfl, hs⟩, _, _⟩ := p3
        refine iteT ?_
        change tTest _ [some (V.ref a), some (V.ref sp), some (V.ref l), some (V.ref fo), some (V.ref c.a), some (V.int (inX (some gf) c x)), some (V.int (y + c.y)), some (V.ref ab), none] Hq _
        refine ⟨_, rfl, c.a, _, 3, .ref sq, rfl, rfl, SqT.of p1, at3_6, sq, _, 0, _, rfl, rfl, SqT.of hs, at0_3, rfl, _, rfl, ?_⟩
        rw [way_dec2]
        refine ite2 (fun hb => ?_) (fun hb => ?_)
        · refine ⟨_, rfl, _, rfl, sp, rfl, .inl ⟨_, .inl zsp⟩, _, rfl, c.a, _, 0, .str c.nm, rfl, rfl, SqT.of p1, at0_6, _, DGet.k (k := Sum.inr c.nm) zsp, ?_⟩
          rw [hget c.nm]
          refine ⟨_, _, rfl, rfl, ?_⟩
          have e : inY (some gf) c y = y + c.y + gf c.nm := by
            unfold inY off
            rw [esh]
            cases b <;> simp at hb ⊢
          rw [e]
          exact ⟨rfl, rfl⟩
        · have e : inY (some gf) c y = y + c.y := by
            unfold inY off
            rw [esh]
            cases b <;> simp at hb ⊢
          rw [e]
          exact ⟨rfl, rfl⟩
    rintro σ' Hr ⟨rfl, rfl⟩
    refine ⟨_, rfl, c.a, _, 5, .ref kq, rfl, rfl, SqT.of p1, at5_6, kq, rfl, ⟨_, SqT.of p4⟩, ?_⟩
    have zab' := zab
    intro dd dd0
    have ddf := ne_fresh z3 dd0
    refine lc_tup (K := K) (a := kq) (xs := c.ks.map fun k => V.ref k.a) (fun i Hy => ∃ (qn : List WI), Hy dd = some (.lst (qn.map fun i => V.ref i.q)) ∧ (∀ j ∈ qn, WAt Hy dd fo j) ∧ restF (some gf) qn = flatL (some gf) (inX (some gf) c x) (inY (some gf) c y) (c.nm :: abs) (c.ks.take i) ∧ qn.length = i ∧ Same Hr Hy) ⟨[], upd_same, (fun j hj => nomatch hj), rfl, rfl, same_new dd0⟩ (fun i Hy _ ⟨_, _, _, _, _, sy⟩ => SqT.of (sy _ _ p4)) ?_ ?_
    · rintro i v Hy hi ⟨qn, u1, u2, u3, u4, sy⟩
      have hil : i < c.ks.length := by
        have := (List.getElem?_eq_some_iff.mp hi).1
        rwa [List.length_map] at this
      rw [List.getElem?_map, List.getElem?_eq_getElem hil] at hi
      obtain rfl := Option.some.inj hi
      refine ⟨rfl, ?_⟩
      refine ⟨_, rfl, _, rfl, _, rfl, _, rfl, c.a, _, 0, .str c.nm, rfl, rfl, SqT.of (sy _ _ p1), at0_6, (by show 1 ≤ sizeLine; decide), ?_⟩
      (intro a1 a10; generalize hh_ : upd _ a1 _ = Hz; have ha1 := upd_is hh_; have sz1 := same_is hh_ a10; clear hh_)
      refine ⟨_, rfl, a1, ab, _, _, rfl, rfl, ha1, sz1 _ _ (sy _ _ zab), sz (by simp; omega), ?_⟩
      (intro a2 a20; generalize hh_ : upd _ a2 _ = Hw; have ha2 := upd_is hh_; have sz2 := same_is hh_ a20; clear hh_)
      refine ⟨(by show 4 ≤ sizeLine; decide), ?_⟩
      (intro qx qx0; generalize hh_ : upd _ qx _ = Hv; have hqx := upd_is hh_; have sz3 := same_is hh_ qx0; clear hh_)
      have szz := (sz1.trans sz2).trans sz3
      have u1' := szz _ _ u1
      refine ⟨_, u1', Nat.lt_of_lt_of_le (by rw [List.length_map]; omega : (qn.map fun i => V.ref i.q).length < 1000) (sz (by decide : 1000 ≤ 100000)), ?_⟩
      have a2dd : a2 ≠ dd := ne_fresh (sz1 _ _ u1) a20
      have a2fo : a2 ≠ fo := ne_fresh (sz1 _ _ (sy _ _ z3)) a20
      have pp : Tp Hr Hv := Tp.same (sy.trans szz)
      have inew : WAt Hv dd fo ⟨qx, a2, d, c.ks[i], inX (some gf) c x, inY (some gf) c y, c.nm :: abs⟩ := ⟨hqx, sz3 _ _ ha2, by show abs.length + 1 + d ≤ 6; omega, (p6 _ (List.getElem_mem hil)).tp pp, a2dd, a2fo⟩
      refine ⟨qn ++ [⟨qx, a2, d, c.ks[i], inX (some gf) c x, inY (some gf) c y, c.nm :: abs⟩], by rw [upd_same, List.map_append]; rfl, ?_, ?_, by simp [u4], fun p o e => by rw [upd_ne (ne_of_none e dd0)]; exact szz _ _ (sy _ _ e)⟩
      · intro j hj
        rcases List.mem_append.mp hj with hj | hj
        · exact ((u2 j hj).same szz).put u1' (u2 j hj).2.2.2.2.1
        · rw [List.mem_singleton.mp hj]
          exact inew.put u1' a2dd
      · rw [restF_app, u3, List.take_add_one, List.getElem?_eq_getElem hil]
        show _ = flatL _ _ _ _ (c.ks.take i ++ [c.ks[i]])
        rw [flatL_snoc]
        show _ ++ (flatF _ _ _ _ _ ++ []) = _
        rw [List.append_nil]
    rintro Hy ⟨qn, u1, u2, u3, u4, sy⟩
    rw [List.length_map] at u3 u4
    rw [List.take_length] at u3
    refine ⟨_, rfl, dd, l, _, _, rfl, rfl, u1, sy _ _ zl, sz (by rw [List.length_map, List.length_map]; omega), ?_⟩
    (intro ln ln0; generalize hh_ : upd _ ln _ = Hz; have hln := upd_is hh_; have szn := same_is hh_ ln0; clear hh_)
    have syz := sy.trans szn
    have er : restF (some gf) (qn ++ its) = flatL (some gf) (inX (some gf) c x) (inY (some gf) c y) (c.nm :: abs) c.ks ++ restF (some gf) its := by rw [restF_app, u3]
    refine ⟨(restF (some gf) (qn ++ its)).length, ?_, ln, qn ++ its, es', _, _, _, _, rfl, by rw [hln, List.map_append], ?_, syz _ _ z3, ?_, ?_, rfl, sz'.trans syz, sz'.free (sy.free ln0), ne_fresh (sy _ _ z3) ln0⟩
    · rw [er]
      show _ < (flatF (some gf) x y abs c ++ restF (some gf) its).length
      rw [flatF_eq]
      simp
    · intro j hj
      rcases List.mem_append.mp hj with hj | hj
      · exact ((u2 j hj).to ln0).same szn
      · exact (((jz j hj).same sy).to ln0).same szn
    · intro e he
      exact ⟨(iz e he).1.same syz, (iz e he).2.1, (ne_fresh (sy _ _ (iz e he).1.2.1) ln0).symm⟩
    · rw [er, ← e5, ← hes, List.map_append, List.append_assoc]
      rfl
end
end SG
namespace SG
open PySem PySem.Spec PyProof.Rows L2
def TAt (H : Hp) (z : FE × Addr) : Prop := H z.2 = some (.tup [.str z.1.f.p.nm, .ref z.1.ab]) ∧ FeAt H z.1
def spLWay : Sp := fun vs H Q _ => ∃ (q : Addr) (es : List FE) (p : Pt) (X Y : Int) (g : Pl), vs = [.ref q, .int X, .int Y] ∧ H q = some (.lst (es.map fun e => V.ref e.q)) ∧ (∀ e ∈ es, FeAt H e) ∧ es.map FE.f = flatF g 0 0 [] p ∧ PartAt H 6 p ∧ p.sz ≤ 30 ∧ p.nms.Nodup ∧
  ∀ (r : Addr) (H' : Hp), H r = none → H' r = some (.lst ((wayO g 6 X Y (lastIn [p] X Y)).reverse.map V.str)) → Same H H' → Q (.ref r) H'
theorem eqvA_strs : ∀ ws us : List Str, PyData.eqvAll (ws.map PyData.str) (us.map PyData.str) = decide (ws = us)
  | [], [] => by simp [PyData.eqvAll]
  | [], _ :: _ => by simp [PyData.eqvAll]
  | _ :: _, [] => by simp [PyData.eqvAll]
  | a :: r, b :: t => by
    show (PyData.eqv (.str a) (.str b) && PyData.eqvAll (r.map PyData.str) (t.map PyData.str)) = _
    rw [eqvA_strs r t]
    simp only [PyData.eqv]
    rw [Bool.eq_iff_iff]
    simp
theorem eqv_strs (ws us : List Str) : PyData.eqv (.list (ws.map PyData.str)) (.list (us.map PyData.str)) = decide (ws = us) := by
  rw [← eqvA_strs]
  simp only [PyData.eqv]
theorem rEq_strs {K : PySem.W.Frag} {H : Hp} {a b : Addr} {ws us : List Str} {Q : VK} (h1 : H a = some (.lst (ws.map V.str))) (h2 : H b = some (.lst (us.map V.str))) (q : Q (.bl (decide (ws = us))) H) : rEqP K (.ref a) (.ref b) H Q :=
  ⟨_, _, dp_strL h1, dp_strL h2, plain_strs _, plain_strs _, by show min (PyData.depthAll _ + 1) (PyData.depthAll _ + 1) ≤ 64; rw [depth_strs, depth_strs]; decide, by rw [eqv_strs]; exact q⟩
theorem TAt.same {H H' : Hp} {z : FE × Addr} (h : TAt H z) (s : Same H H') : TAt H' z := ⟨s _ _ h.1, h.2.same s⟩
/-- the names of those whose path is W -/
theorem lc_path {K : PySem.W.Frag} {th : Addr} {ts : List (FE × Addr)} {W : List Str} {te : TT} {s0 s1 s2 s3 s4 s5 s6 s7 s8 s9 s10 : Option V} {H : Hp} {D : Addr} {Qd : Hp → Prop} (hth : H th = some (.lst (ts.map fun z => V.ref z.2))) (hts : ∀ z ∈ ts, TAt H z) (few : ts.length ≤ 30) (D0 : H D = none)
    (hte : ∀ (ab : Addr) (abs : List Str) (n : Str) (Hx : Hp) (Q : Bool → Hp → Prop), Same H Hx → Hx ab = some (.lst (abs.map V.str)) → (∀ H', Same Hx H' → Q (decide (abs = W)) H') → te [s0, s1, s2, s3, s4, s5, s6, some (.ref ab), s8, s9, some (.str n)] Hx Q)
    (hd : ∀ Hx, Same H Hx → Hx D = some (.lst ((((ts.map Prod.fst).map FE.f).filter fun f => decide (f.ab = W)).map fun f => V.str f.p.nm)) → Qd Hx) :
    ∃ Wf : Nat → Nat → Hp → Prop, (∃ m, Wf 0 m (upd H D (.lst []))) ∧ ∀ i m Hi, Wf i m Hi →
      ((Itl K th).stop i Hi ∧ Qd Hi) ∨ ((Itl K th).go i Hi ∧ ∃ Nx : Hp → Prop, (∀ H', Nx H' → ∃ m', m' < m ∧ Wf (i + 1) m' H') ∧ ∀ x H', (Itl K th).yld i Hi x H' → gTup K 2 (gCons (gName 10) (gCons (gName 7) gNil)) x (wipe [s0, s1, s2, s3, s4, s5, s6, s7, s8, s9, s10] [10, 7]) H' fun σ2 H2 => wipe σ2 [10, 7] = wipe [s0, s1, s2, s3, s4, s5, s6, s7, s8, s9, s10] [10, 7] ∧ te σ2 H2 fun b H3 =>
        if b = true then tVar 10 σ2 H3 fun y H4 => ∃ acc, H4 D = some (.lst acc) ∧ acc.length < sizeLine ∧ Nx (upd H4 D (.lst (acc ++ [y]))) else Nx H3) := by
  refine lc_list (K := K) (a := th) (xs := ts.map fun z => V.ref z.2) (fun i Hx => Hx D = some (.lst (((((ts.take i).map Prod.fst).map FE.f).filter fun f => decide (f.ab = W)).map fun f => V.str f.p.nm)) ∧ Same H Hx) ⟨upd_same, same_new D0⟩ (fun i Hx _ ⟨_, sx⟩ => SqL.of (sx _ _ hth)) ?_ ?_
  · rintro i v Hx hi ⟨x1, sx⟩
    rw [List.getElem?_map] at hi
    obtain ⟨z, hz, rfl⟩ := Option.map_eq_some_iff.mp hi
    obtain ⟨hil, ei⟩ := List.getElem?_eq_some_iff.mp hz
    obtain ⟨t1, t2, t3, t4, t5⟩ := (hts z (List.mem_of_getElem? hz)).same sx
    have e1 : (((ts.take (i + 1)).map Prod.fst).map FE.f).filter (fun f => decide (f.ab = W)) = (((ts.take i).map Prod.fst).map FE.f).filter (fun f => decide (f.ab = W)) ++ (if z.1.f.ab = W then [z.1.f] else []) := by
      rw [List.take_succ_eq_append_getElem hil, ei, List.map_append, List.map_append, List.filter_append]
      by_cases w : z.1.f.ab = W
      · rw [if_pos w]
        show _ ++ List.filter _ [z.1.f] = _
        rw [List.filter_cons_of_pos (by simpa using w), List.filter_nil]
      · rw [if_neg w]
        show _ ++ List.filter _ [z.1.f] = _
        rw [List.filter_cons_of_neg (by simpa using w), List.filter_nil]
    have few2 : (((((ts.take i).map Prod.fst).map FE.f).filter fun f => decide (f.ab = W)).map fun f => V.str f.p.nm).length ≤ 100 := by
      rw [List.length_map]
      refine Nat.le_trans (List.length_filter_le _ _) ?_
      rw [List.length_map, List.length_map, List.length_take]
      omega
    refine ⟨z.2, _, rfl, SqT.of t1, rfl, _, _, rfl, _, _, rfl, rfl, ?_⟩
    refine ⟨rfl, ?_⟩
    refine hte z.1.ab z.1.f.ab z.1.f.p.nm Hx _ sx t3 (fun H' s' => ?_)
    have x1' := s' _ _ x1
    have sx' := sx.trans s'
    refine ite2 (fun w => ?_) fun w => ?_
    · refine ⟨_, rfl, _, x1', Nat.lt_of_le_of_lt few2 (by decide), ?_, fun p o e => by rw [upd_ne (ne_of_none e D0)]; exact sx' _ _ e⟩
      rw [upd_same, e1, if_pos (of_decide_eq_true w), List.map_append]
      rfl
    · rw [e1, if_neg (of_decide_eq_false (Bool.eq_false_iff.mpr w)), List.append_nil]
      exact ⟨x1', sx'⟩
  · rintro Hx ⟨x1, sx⟩
    rw [List.take_of_length_le (by rw [List.length_map]; exact Nat.le_refl _)] at x1
    exact hd Hx sx x1
section
variable {P : Program} {w : World} {K : PySem.W.Frag} {mg : Str → Option Value} {base : Heap}
theorem ok_lway (D : Df K mg "_law_way" s_law_way ["_law_flat_here", "_law_x", "_law_y"]) (T : Txt K mg) : Cl P w K mg base 1 "_law_way" spLWay := by
  refine D.ok sc_law_way (fun vs H Q E h => ?_) (fun f cdv A outer s H vs Q E hr h => ?_)
  · obtain ⟨_, _, _, _, _, _, rfl, _⟩ := h
    rfl
  obtain ⟨a, es, p, X, Y, g, rfl, ha, hes, hfl, hp, h30, hnd, k⟩ := h
  have hu := hu_of hr
  refine ⟨_, -- _law_there = []
    (pss_cons (ps_set (i := 3) sc_law_way.nd rfl (Or.inl rfl) (pe_lst pa_nil))
    (pss_cons (ps_for PassesOwn.never rfl (pi_list (pv 0)) (pg_tup rfl (pgs_cons (pg_name (i := 4) sc_law_way.nd rfl (Or.inl rfl)) (pgs_cons (pg_name (i := 5) sc_law_way.nd rfl (Or.inl rfl)) (pgs_cons (pg_name (i := 6) sc_law_way.nd rfl (Or.inl rfl)) (pgs_cons (pg_name (i := 7) sc_law_way.nd rfl (Or.inl rfl)) pgs_nil)))))
      (pss_one (ps_if (PW.pt (pw_and (pt_chain op_le op_lt (pv 5) (pv 1) (pe_op op_add (pv 5) (pe_ix ix_tup (pe_ix ix_tup (pv 4) pe_int (fun _ _ => rfl)) pe_int (fun _ _ => rfl)))) (pw_and1 (pt_chain op_le op_lt (pv 6) (pv 2) (pe_op op_add (pv 6) (pe_ix ix_tup (pe_ix ix_tup (pv 4) pe_int (fun _ _ => rfl)) pe_int (fun _ _ => rfl)))))))
        (pss_one (ps_expr (pe_bm PySem.F.plainAttrs_list PySem.F.slot_list_append PySem.F.type_list_append mt_append (pv 3) (pa_cons (pe_tup (pa_cons (pe_ix ix_tup (pv 4) pe_int (fun _ _ => rfl)) (pa_cons (pv 7) pa_nil))) pa_nil))))
        pss_nil)))
    (pss_cons (ps_set (i := 8) sc_law_way.nd rfl (Or.inr rfl) (pe_lst pa_nil))
    (pss_cons (ps_setLc (i := 9) (own := [("_law_name", 10), ("_law_about", 7)]) rfl sc_law_way.nd rfl rfl (sw_true rfl rfl rfl (by decide +kernel)) (pi_list (pv 3)) (blkOk_by (N := N_law_way) (sc := defScope s_law_way) (by decide +kernel)) (fun _ _ _ _ _ => (pg_two (K := K) (i := 10) (j := 7) rfl rfl sc_law_way.nd rfl rfl (Or.inl rfl) (Or.inl rfl))) (fun _ _ _ _ _ => pts_one (pt_cmpR (r := rEqP K) (op_eqP hr.units) (pv 7) (pe_lst pa_nil) (nomark _))) (fun _ _ _ _ _ => (pv 10)))
    (pss_cons (ps_while PassesOwn.never (pt_cmpR (op_neNil hr.units) (pv 9) (pe_lst pa_nil) (nomark _))
      (pss_cons (ps_set (i := 8) sc_law_way.nd rfl (Or.inr rfl) (pe_op op_cat (pe_lst (pa_cons (pe_ix ix_list (pv 9) (pe_un un_neg pe_int) (fun _ _ => rfl)) pa_nil)) (pv 8)))
      (pss_one (ps_setLc (i := 9) (own := [("_law_name", 10), ("_law_about", 7)]) rfl sc_law_way.nd rfl rfl (sw_true rfl rfl rfl (by decide +kernel)) (pi_list (pv 3)) (blkOk_by (N := N_law_way) (sc := defScope s_law_way) (by decide +kernel)) (fun _ _ _ _ _ => (pg_two (K := K) (i := 10) (j := 7) rfl rfl sc_law_way.nd rfl rfl (Or.inl rfl) (Or.inl rfl))) (fun _ _ _ _ _ => pts_one (pt_cmpR (r := rEqP K) (op_eqP hr.units) (pv 7) (pv 8) (nomark _))) (fun _ _ _ _ _ => (pv 10))))))
    (pss_one (ps_ret (pv 8)))))))), ?_⟩
  refine ⟨(by show 0 ≤ sizeLine; decide), ?_⟩
  (intro th th0; generalize hh_ : upd _ th _ = H1; have hth := upd_is hh_; have s1 := same_is hh_ th0; clear hh_)
  have ln := congrArg List.length hfl
  rw [List.length_map, flatF_len] at ln
  have abth : ∀ e ∈ es, e.ab ≠ th := fun e he => ne_of_none (hes e he).2.1 th0
  have ath : a ≠ th := ne_of_none ha th0
  refine ⟨_, rfl, a, rfl, ⟨_, SqL.of (s1 _ _ ha)⟩, for_list (K := K) (a := a) (xs := es.map fun e => V.ref e.q) (fun i σ Hx => ∃ (k4 k5 k6 k7 : Option V) (ts : List (FE × Addr)), σ = [some (.ref a), some (.int X), some (.int Y), some (.ref th), k4, k5, k6, k7, none, none, none] ∧
    Hx th = some (.lst (ts.map fun z => V.ref z.2)) ∧ (∀ z ∈ ts, TAt Hx z ∧ z.1.ab ≠ th) ∧ ts.map Prod.fst = (es.take i).filter (fun e => insF X Y e.f) ∧ Fr [th] H1 Hx) ?_ (fun i σ Hx _ ⟨_, _, _, _, _, _, _, _, _, fx⟩ => SqL.of (fx _ _ (s1 _ _ ha) (not_in_one ath))) ?_ ?_⟩
  · exact ⟨none, none, none, none, [], rfl, hth, (fun z hz => nomatch hz), rfl, Fr.refl _ _⟩
  · rintro i v σ Hx hi ⟨k4, k5, k6, k7, ts, rfl, x1, x2, x3, fx⟩
    rw [List.getElem?_map] at hi
    obtain ⟨e, he, rfl⟩ := Option.map_eq_some_iff.mp hi
    obtain ⟨hil, ei⟩ := List.getElem?_eq_some_iff.mp he
    have em := List.mem_of_getElem? he
    have tpx : Tp H1 Hx := fun b xs e => fx _ _ e (not_in_one (ne_of e hth (by intro z; cases z)))
    have e0 := hes e em
    have e2 : Hx e.ab = some (.lst (e.f.ab.map V.str)) := fx _ _ (s1 _ _ e0.2.1) (not_in_one (abth e em))
    have ee : FeAt Hx e := ⟨tpx _ _ (s1 _ _ e0.1), e2, (e0.2.2.1.tp (Tp.same s1)).tp tpx, e0.2.2.2⟩
    have ee' := ee
    obtain ⟨q1, q2, q3, q4⟩ := ee
    have tsl : ts.length ≤ 30 := by
      have := congrArg List.length x3
      rw [List.length_map] at this
      rw [this]
      refine Nat.le_trans (List.length_filter_le _ _) ?_
      rw [List.length_take]
      omega
    obtain ⟨eq, eab, ed, ef⟩ := e
    dsimp only at q1 q2 q3 q4 e2
    cases ed with
    | zero => exact q3.elim
    | succ d =>
    obtain ⟨bx, ws, kq, ear, sh, h1, h2, h3, h4, h5, h6⟩ := q3
    refine ⟨eq, _, rfl, SqT.of q1, rfl, _, _, rfl, _, _, rfl, _, _, rfl, _, _, rfl, rfl, ?_⟩
    dsimp only
    refine if_mk ?_
    refine and_mk (c := decide (ef.x ≤ X) && decide (X < ef.x + ef.p.w)) (d := decide (ef.y ≤ Y) && decide (Y < ef.y + ef.p.h)) (fun Q1 q1 => ?_) (fun _ Q1 q1 => ?_) ?_
    · refine ⟨_, rfl, _, rfl, _, _, rfl, rfl, _, rfl, ite2 (fun z => ?_) fun z => ?_⟩
      · rw [show decide (ef.x ≤ X) = true from z, Bool.true_and] at q1
        refine ⟨_, rfl, _, rfl, ef.p.a, _, 1, .ref bx, rfl, rfl, SqT.of h1, at1_6, bx, _, 2, _, rfl, rfl, SqT.of h2, at2_4, _, _, rfl, rfl, ?_⟩
        exact ⟨_, _, rfl, rfl, _, rfl, q1⟩
      · rw [show decide (ef.x ≤ X) = false from Bool.eq_false_iff.mpr z, Bool.false_and] at q1
        exact ⟨_, rfl, q1⟩
    · refine ⟨_, rfl, _, rfl, _, _, rfl, rfl, _, rfl, ite2 (fun z => ?_) fun z => ?_⟩
      · rw [show decide (ef.y ≤ Y) = true from z, Bool.true_and] at q1
        refine ⟨_, rfl, _, rfl, ef.p.a, _, 1, .ref bx, rfl, rfl, SqT.of h1, at1_6, bx, _, 3, _, rfl, rfl, SqT.of h2, at3_4, _, _, rfl, rfl, ?_⟩
        exact ⟨_, _, rfl, rfl, _, rfl, q1⟩
      · rw [show decide (ef.y ≤ Y) = false from Bool.eq_false_iff.mpr z, Bool.false_and] at q1
        exact ⟨_, rfl, q1⟩
    change if insF X Y ef = true then _ else _
    have e1 : ∀ e0 : FE, e0 = ⟨eq, eab, d + 1, ef⟩ → (es.take (i + 1)).filter (fun e => insF X Y e.f) = (es.take i).filter (fun e => insF X Y e.f) ++ (if insF X Y ef = true then [e0] else []) := by
      rintro _ rfl
      rw [List.take_succ_eq_append_getElem hil, ei, List.filter_append]
      by_cases w : insF X Y ef = true
      · rw [if_pos w, List.filter_cons_of_pos (by exact w), List.filter_nil]
      · rw [if_neg w, List.filter_cons_of_neg (by exact w), List.filter_nil]
    refine ite2 (fun w => ?_) fun w => ?_
    · change tDrop _ _ [some (V.ref a), some (V.int X), some (V.int Y), some (V.ref th), some (V.ref ef.p.a), some (V.int ef.x), some (V.int ef.y), some (V.ref eab), none, none, none] Hx
      refine ⟨_, rfl, .inl ⟨rfl, _, SqL.of x1⟩, _, rfl, ef.p.a, _, 0, .str ef.p.nm, rfl, rfl, SqT.of h1, at0_6, _, rfl, (by show 2 ≤ sizeLine; decide), ?_⟩
      (intro t2 t20; generalize hh_ : upd _ t2 _ = H2; have ht2 := upd_is hh_; have s2 := same_is hh_ t20; clear hh_)
      have x1' := s2 _ _ x1
      refine ⟨th, _, _, rfl, rfl, x1', Nat.lt_of_lt_of_le (by rw [List.length_map]; omega : _ < 1000) (by decide), ?_⟩
      have ft : Fr [th] H2 (upd H2 th (.lst ((ts.map fun z => V.ref z.2) ++ [.ref t2]))) := Fr.put (by simp)
      have tpt : Tp H2 (upd H2 th (.lst ((ts.map fun z => V.ref z.2) ++ [.ref t2]))) := Tp.put x1'
      have fx2 : Fr [th] Hx (upd H2 th (.lst ((ts.map fun z => V.ref z.2) ++ [.ref t2]))) := (Fr.same s2 _).trans ft
      have tx2 : Tp Hx (upd H2 th (.lst ((ts.map fun z => V.ref z.2) ++ [.ref t2]))) := (Tp.same s2).trans tpt
      have ne : eab ≠ th := abth _ em
      refine ⟨_, _, _, _, ts ++ [(⟨eq, eab, d + 1, ef⟩, t2)], rfl, by rw [upd_same, List.map_append]; rfl, ?_, ?_, fx.trans fx2⟩
      · intro z hz
        rcases List.mem_append.mp hz with hz | hz
        · obtain ⟨⟨z1, z2, z3, z4, z5⟩, zn⟩ := x2 z hz
          exact ⟨⟨tx2 _ _ z1, tx2 _ _ z2, fx2 _ _ z3 (not_in_one zn), z4.tp tx2, z5⟩, zn⟩
        · rw [List.mem_singleton.mp hz]
          exact ⟨⟨tpt _ _ ht2, tx2 _ _ ee'.1, fx2 _ _ e2 (not_in_one ne), ee'.2.2.1.tp tx2, ee'.2.2.2⟩, ne⟩
      · rw [e1 _ rfl, if_pos w, List.map_append, x3]
        rfl
    · refine ⟨_, _, _, _, ts, rfl, x1, x2, ?_, fx⟩
      rw [e1 _ rfl, if_neg w, List.append_nil]
      exact x3
  rintro σ H2 ⟨k4, k5, k6, k7, ts, rfl, x1, x2, x3, fx⟩
  rw [List.take_of_length_le (by rw [List.length_map]; exact Nat.le_refl _)] at x3
  have sx : Same H H2 := fun b o e => fx _ _ (s1 _ _ e) (not_in_one (ne_of_none e th0))
  have x2' : ∀ z ∈ ts, TAt H2 z := fun z hz => (x2 z hz).1
  have tsl : ts.length ≤ 30 := by
    have := congrArg List.length x3
    rw [List.length_map] at this
    rw [this]
    refine Nat.le_trans (List.length_filter_le _ _) ?_
    omega
  have ns : ∀ W : List Str, ((ts.map Prod.fst).map FE.f).filter (fun f => decide (f.ab = W)) = more (flatF g 0 0 [] p) X Y W := by
    intro W
    unfold more
    rw [x3, ← hfl, List.filter_map (f := FE.f) (p := insF X Y)]
    rfl
  have pa2 := hp.tp (Tp.same sx)
  clear x2 x3 fx hth s1 abth ath
  refine ⟨(by show 0 ≤ sizeLine; decide), ?_⟩
  (intro wl wl0; generalize hh_ : upd _ wl _ = H3; have hwl := upd_is hh_; have s3 := same_is hh_ wl0; clear hh_)
  refine ⟨_, rfl, th, rfl, ⟨_, SqL.of (s3 _ _ x1)⟩, ?_⟩
  intro ml ml0
  refine lc_path (W := []) (s3 _ _ x1) (fun z hz => (x2' z hz).same s3) tsl ml0 (fun ab abs n Hx Q1 sx1 hab q1 => ?_) ?_
  · refine ⟨_, rfl, (by show 0 ≤ sizeLine; decide), ?_⟩
    (intro e e0; generalize hh_ : upd _ e _ = Hy; have he := upd_is hh_; have sy := same_is hh_ e0; clear hh_)
    exact rEq_strs (us := []) (sy _ _ hab) he ⟨_, rfl, q1 _ sy⟩
  intro H4 s4 hml
  rw [ns, more_root, List.map_map, Int.sub_zero, Int.sub_zero] at hml
  have s24 := s3.trans s4
  have i0 : wayO g 6 (X - 0) (Y - 0) (lastIn [p] (X - 0) (Y - 0)) = wayO g 6 X Y (lastIn [p] X Y) := by rw [Int.sub_zero, Int.sub_zero]
  generalize htot : (wayO g 6 X Y (lastIn [p] X Y)).reverse = total at *
  refine ⟨fun m σ Hx => ∃ (wl ml : Addr) (k4 k5 k6 k7 k10 : Option V) (W : List Str) (cs : List Pt) (x y : Int), σ = [some (.ref a), some (.int X), some (.int Y), some (.ref th), k4, k5, k6, k7, some (.ref wl), some (.ref ml), k10] ∧
    Hx wl = some (.lst (W.map V.str)) ∧ Hx ml = some (.lst ((cs.filter (inside (X - x) (Y - y))).map fun k => V.str k.nm)) ∧ (∀ k ∈ cs, Loc g 0 0 [] p x y W k ∧ PartAt H2 m k) ∧ True ∧ W.length + m = 6 ∧
    (wayO g m (X - x) (Y - y) (lastIn cs (X - x) (Y - y))).reverse ++ W = total ∧ H wl = none ∧ Same H2 Hx, ?_, ?_⟩
  · refine ⟨6, wl, ml, _, _, _, _, _, [], [p], 0, 0, rfl, s4 _ _ hwl, ?_, ?_, trivial, rfl, ?_, sx.free wl0, s24⟩
    · rw [hml, Int.sub_zero, Int.sub_zero]
      rfl
    · intro k hk
      rw [List.mem_singleton.mp hk]
      exact ⟨.here, pa2⟩
    · rw [List.append_nil, i0, htot]
  clear hml i0 hwl wl0 s3 s4 s24 ml0
  rintro m σ Hx ⟨wl, ml, k4, k5, k6, k7, k10, W, cs, x, y, rfl, w1, w2, w3, w4, w5, w6, w7, sxx⟩
  refine ⟨_, rfl, (by show 0 ≤ sizeLine; decide), ?_⟩
  (intro e e0; generalize hh_ : upd _ e _ = He; have he := upd_is hh_; have se := same_is hh_ e0; clear hh_)
  refine ⟨ml, e, _, rfl, rfl, SqL.of (se _ _ w2), SqL.of he, _, rfl, ?_⟩
  have w1e := se _ _ w1
  have w2e := se _ _ w2
  have sxe := sxx.trans se
  cases hfc : (cs.filter (inside (X - x) (Y - y))).getLast? with
  | none =>
    have hf0 := List.getLast?_eq_none_iff.mp hfc
    rw [hf0]
    refine iteF ?_
    have ll : lastIn cs (X - x) (Y - y) = none := hfc
    rw [ll] at w6
    have w6' : W = total := w6
    refine ⟨_, rfl, k wl He w7 ?_ (sx.trans sxe)⟩
    rw [w1e, w6']
  | some c =>
    have ll : lastIn cs (X - x) (Y - y) = some c := hfc
    obtain ⟨ys, hys⟩ := List.getLast?_eq_some_iff.mp hfc
    have cm : c ∈ cs := last_mem ll
    obtain ⟨lc, pc⟩ := w3 c cm
    rw [hys, List.map_append]
    rw [hys, List.map_append] at w2e
    have ne : (!((ys.map fun k => V.str k.nm) ++ ([c].map fun k => V.str k.nm)).isEmpty) = true := by cases ys <;> rfl
    rw [ne]
    refine iteT ?_
    cases m with
    | zero => exact pc.elim
    | succ m =>
    refine ⟨fun σ Hx => ∃ m', m' < m + 1 ∧ ∃ (wl ml : Addr) (k4 k5 k6 k7 k10 : Option V) (W : List Str) (cs : List Pt) (x y : Int), σ = [some (.ref a), some (.int X), some (.int Y), some (.ref th), k4, k5, k6, k7, some (.ref wl), some (.ref ml), k10] ∧
    Hx wl = some (.lst (W.map V.str)) ∧ Hx ml = some (.lst ((cs.filter (inside (X - x) (Y - y))).map fun k => V.str k.nm)) ∧ (∀ k ∈ cs, Loc g 0 0 [] p x y W k ∧ PartAt H2 m' k) ∧ True ∧ W.length + m' = 6 ∧
    (wayO g m' (X - x) (Y - y) (lastIn cs (X - x) (Y - y))).reverse ++ W = total ∧ H wl = none ∧ Same H2 Hx, fun σ' H' z => z, ?_⟩
    refine ⟨_, rfl, _, rfl, ml, _, _, .str c.nm, rfl, rfl, SqL.of w2e, atI_last _ _, (by show 1 ≤ sizeLine; decide), ?_⟩
    (intro n1 n10; generalize hh_ : upd _ n1 _ = H3; have hn1 := upd_is hh_; have s3 := same_is hh_ n10; clear hh_)
    refine ⟨_, rfl, n1, wl, _, _, rfl, rfl, hn1, s3 _ _ w1e, sz (by simp; omega), ?_⟩
    (intro n2 n20; generalize hh_ : upd _ n2 _ = H4; have hn2 := upd_is hh_; have s4 := same_is hh_ n20; clear hh_)
    have hn2' : H4 n2 = some (.lst ((c.nm :: W).map V.str)) := hn2
    have sx4 := (sxe.trans s3).trans s4
    have tsH : ∀ z ∈ ts, TAt H4 z := fun z hz => (x2' z hz).same sx4
    refine ⟨_, rfl, th, rfl, ⟨_, SqL.of (sx4 _ _ x1)⟩, ?_⟩
    intro md md0
    change ∃ Wf : Nat → Nat → Hp → Prop, (∃ m, Wf 0 m (upd H4 md (.lst []))) ∧ ∀ i m Hi, Wf i m Hi →
      ((Itl K th).stop i Hi ∧ _) ∨ ((Itl K th).go i Hi ∧ ∃ Nx : Hp → Prop, (∀ H', Nx H' → ∃ m', m' < m ∧ Wf (i + 1) m' H') ∧ ∀ x H', (Itl K th).yld i Hi x H' → gTup K 2 (gCons (gName 10) (gCons (gName 7) gNil)) x (wipe [some (V.ref a), some (V.int X), some (V.int Y), some (V.ref th), k4, k5, k6, k7, some (V.ref n2), some (V.ref ml), k10] [10, 7]) H' _)
    refine lc_path (W := c.nm :: W) (sx4 _ _ x1) tsH tsl md0 (fun ab abs n Hx Q1 sx1 hab q1 => ?_) ?_
    · exact ⟨_, rfl, _, rfl, rEq_strs hab (sx1 _ _ hn2') ⟨_, rfl, q1 _ (Same.refl _)⟩⟩
    intro H5 s5 hmd
    rw [ns, more_at lc hnd, List.map_map] at hmd
    obtain ⟨o1, o2⟩ := in0 g c x y
    refine ⟨m, Nat.lt_succ_self _, n2, md, _, _, _, _, _, c.nm :: W, c.ks, inX g c x, inY g c y, rfl, s5 _ _ hn2', hmd, ?_, ?_, ?_, ?_, sx.free ((sxe.trans s3).free n20), sx4.trans s5⟩
    · obtain ⟨bx, ws, kq, ear, sh, h1, h2, h3, h4, h5, h6⟩ := pc
      exact fun k hk => ⟨lc.step hk, h6 k hk⟩
    · trivial
    · rw [List.length_cons]
      omega
    · rw [ll] at w6
      have w6' : (wayN g (m + 1) c (X - x) (Y - y)).reverse ++ W = total := w6
      rw [wayN_succ, List.reverse_cons, List.append_assoc] at w6'
      rw [show X - inX g c x = X - x - inX g c 0 by omega, show Y - inY g c y = Y - y - inY g c 0 by omega]
      exact w6'
end
end SG
namespace SG
open PySem PySem.Spec PyProof.Rows L2
def SpotsD (kvs : List (Key × V)) : Prop := (∀ kv ∈ kvs, ∃ (s : Str) (i : Int), kv = (Sum.inr s, V.int i)) ∧ (kvs.map Prod.fst).Nodup
theorem SpotsD.put {kvs : List (Key × V)} (h : SpotsD kvs) (s : Str) (z : Int) : SpotsD (putK kvs (Sum.inr s) (.int z)) := by
  obtain ⟨h1, h2⟩ := h
  unfold putK
  by_cases c : (kvs.any fun kv => decide (kv.fst = (Sum.inr s : Key))) = true
  · rw [if_pos c]
    refine ⟨fun kv hkv => ?_, ?_⟩
    · obtain ⟨x, hx, rfl⟩ := List.mem_map.mp hkv
      obtain ⟨t, i, rfl⟩ := h1 x hx
      by_cases e : (Sum.inr t : Key) = Sum.inr s
      · exact ⟨t, z, by rw [if_pos e]⟩
      · exact ⟨t, i, by rw [if_neg e]⟩
    · rw [List.map_map]
      have : (Prod.fst ∘ fun kv : Key × V => if kv.fst = (Sum.inr s : Key) then (kv.fst, V.int z) else kv) = Prod.fst := by
        funext kv
        show (if _ then _ else _ : Key × V).1 = _
        split <;> rfl
      rw [this]
      exact h2
  · rw [if_neg c]
    refine ⟨fun kv hkv => ?_, ?_⟩
    · rcases List.mem_append.mp hkv with hkv | hkv
      · exact h1 kv hkv
      · rw [List.mem_singleton.mp hkv]
        exact ⟨s, z, rfl⟩
    · rw [List.map_append, List.nodup_append]
      refine ⟨h2, by simp, ?_⟩
      intro a ha b hb e
      obtain ⟨kv, hkv, rfl⟩ := List.mem_map.mp ha
      obtain rfl : b = Sum.inr s := by simpa using hb
      exact c (List.any_eq_true.mpr ⟨kv, hkv, decide_eq_true e⟩)
theorem merge_nodup : ∀ (kvs acc : List (Key × V)), ((acc ++ kvs).map (·.1)).Nodup → mergeK acc kvs = acc ++ kvs
  | [], acc, _ => by rw [List.append_nil]; rfl
  | kv :: kvs, acc, h => by
    have hn : valV acc kv.1 = none := by
      cases e : valV acc kv.1 with
      | none => rfl
      | some v =>
        have s := valV_any kv.1 acc
        rw [e] at s
        rw [Option.isSome_some, List.any_eq_true] at s
        obtain ⟨p, hp, e2⟩ := s
        rw [List.map_append, List.nodup_append] at h
        exact (h.2.2 p.1 (List.mem_map.mpr ⟨p, hp, rfl⟩) kv.1 (by simp) (of_decide_eq_true e2)).elim
    show mergeK (putK acc kv.1 kv.2) kvs = _
    rw [putK_new _ hn, merge_nodup kvs _ (by rw [List.append_assoc]; exact h), List.append_assoc]
    rfl
def spSpots : Sp := fun vs H Q _ => ∃ (t c a : Addr) (n : Nat) (p : Pt), vs = [.ref t, .ref a] ∧ TapeAt H t c n ∧ SceneAt H a p ∧ n ≤ 10000000 ∧
  ∀ (q : Addr) (kvs : List (Key × V)) (H' : Hp) (n' : Nat), H q = none → H' q = some (.dK kvs) → SpotsD kvs → kvs.length ≤ 100 → TapeAt H' t c n' → n' ≤ n + 100 → Fr [t] H H' → Q (.ref q) H'
section
variable {P : Program} {w : World} {K : PySem.W.Frag} {mg : Str → Option Value} {base : Heap}
theorem ok_spots (D : Df K mg "_law_spots" s_law_spots ["_law_tape_here", "_law_scene_here"]) (T : Txt K mg) (c_law_draw : Cl P w K mg base 1 "_law_draw" spDraw) (c_law_flat : Cl P w K mg base 1 "_law_flat" spFlat) : Cl P w K mg base 2 "_law_spots" spSpots := by
  refine D.ok sc_law_spots (fun vs H Q E h => ?_) (fun f cdv A outer s H vs Q E hr h => ?_)
  · obtain ⟨_, _, _, _, _, rfl, _⟩ := h
    rfl
  obtain ⟨t, c, a, n, p, rfl, ht, ha, hn, k⟩ := h
  have hu := hu_of hr
  refine ⟨_, -- _law_found = {}
    (pss_cons (ps_set (i := 2) sc_law_spots.nd rfl (Or.inl rfl) pe_dnewK)
    (pss_cons (ps_for PassesOwn.never rfl (pi_list (pe_cl c_law_flat (hr.mono (by first | decide | omega)) rfl (pa_cons (pv 1) (pa_cons pe_dnewK pa_nil)))) (pg_tup rfl (pgs_cons (pg_name (i := 3) sc_law_spots.nd rfl (Or.inl rfl)) (pgs_cons (pg_name (i := 4) sc_law_spots.nd rfl (Or.inl rfl)) (pgs_cons (pg_name (i := 5) sc_law_spots.nd rfl (Or.inl rfl)) (pgs_cons (pg_name (i := 6) sc_law_spots.nd rfl (Or.inl rfl)) pgs_nil)))))
      (pss_one (ps_if (pt_cmp (pc_notN (pe_ix ix_tup (pv 3) pe_int (fun _ _ => rfl))))
        (pss_cons (ps_asg (pe_ix ix_tup (pv 3) pe_int (fun _ _ => rfl)) (pg_tup rfl (pgs_cons (pg_name (i := 7) sc_law_spots.nd rfl (Or.inl rfl)) (pgs_cons (pg_name (i := 8) sc_law_spots.nd rfl (Or.inl rfl)) (pgs_cons (pg_name (i := 9) sc_law_spots.nd rfl (Or.inl rfl)) pgs_nil)))))
        (pss_cons (ps_set (i := 10) sc_law_spots.nd rfl (Or.inl rfl) (pe_ix ix_list (pe_lst (pa_cons pe_int (pa_cons (pv 8) (pa_cons (pv 9) (pa_cons (pe_op op_add (pv 8) (pe_cl c_law_draw (hr.mono (by first | decide | omega)) rfl (pa_cons (pv 0) (pa_cons (pe_op op_add (pe_op op_sub (pv 9) (pv 8)) pe_int) pa_nil)))) (pa_cons pe_non pa_nil)))))) (pe_cl c_law_draw (hr.mono (by first | decide | omega)) rfl (pa_cons (pv 0) (pa_cons pe_int pa_nil))) (fun _ _ => rfl)))
        (pss_one (ps_expr (pe_bm PySem.F.plainAttrs_dict PySem.F.slot_dict_update PySem.F.type_dict_update mt_upd (pv 2) (pa_cons (pe_callTy (call_dictP rfl) (by rfl) T.m_dict (by decide +kernel) (pa_cons (pe_ifExp (pt_cmp (pc_notN (pv 10))) (pe_lst (pa_cons (pe_tup (pa_cons (pe_ix ix_tup (pv 3) pe_int (fun _ _ => rfl)) (pa_cons (pv 10) pa_nil))) pa_nil)) (pe_lst pa_nil)) pa_nil)) pa_nil))))))
        pss_nil)))
    (pss_one (ps_ret (pv 2))))), ?_⟩
  (intro fd fd0; generalize hh_ : upd _ fd _ = H1; have hfd := upd_is hh_; have s1 := same_is hh_ fd0; clear hh_)
  refine ⟨_, rfl, ?_⟩
  (intro em em0; generalize hh_ : upd _ em _ = H2; have hem := upd_is hh_; have s2 := same_is hh_ em0; clear hh_)
  have s12 := s1.trans s2
  refine ⟨a, em, p, [], (fun _ => 0), rfl, ha.tp (Tp.same s12), hem, (fun _ => rfl), fun q es H3 s3 hq hes hfl => ?_⟩
  have s13 := s12.trans s3
  have T3 := ht.same s13
  have hfd3 := s3 _ _ (s2 _ _ hfd)
  have fdt : fd ≠ t := ht.ne_new fd0
  have fdc : fd ≠ c := ht.ne_newc fd0
  have ln := congrArg List.length hfl
  rw [List.length_map, flatF_len] at ln
  have h30 := ha.2.2.1
  clear s12 s1 s2 s3 hem em0 hfd
  have tpx : ∀ {Hx : Hp}, Fr [t, fd] H3 Hx → Tp H3 Hx := fun fx b xs e => fx _ _ e (by
    have h1 : b ≠ t := by
      obtain ⟨cs, s, l, h1, _⟩ := T3
      exact ne_of e h1 (by intro z; cases z)
    have h2 : b ≠ fd := ne_of e hfd3 (by intro z; cases z)
    simp [h1, h2])
  have nq : q ∉ [t, fd] := by
    have h1 : q ≠ t := by
      obtain ⟨cs, s, l, h1, _⟩ := T3
      exact ne_of hq h1 (by intro z; cases z)
    have h2 : q ≠ fd := ne_of hq hfd3 (by intro z; cases z)
    simp [h1, h2]
  refine ⟨q, rfl, ⟨_, SqL.of hq⟩, for_list (K := K) (a := q) (xs := es.map fun e => V.ref e.q) (fun i σ Hx => ∃ (k3 k4 k5 k6 k7 k8 k9 k10 : Option V) (kvs : List (Key × V)) (n' : Nat), σ = [some (.ref t), some (.ref a), some (.ref fd), k3, k4, k5, k6, k7, k8, k9, k10] ∧
    Hx fd = some (.dK kvs) ∧ SpotsD kvs ∧ kvs.length ≤ i ∧ TapeAt Hx t c n' ∧ n' ≤ n + 2 * i ∧ Fr [t, fd] H3 Hx) ?_ (fun i σ Hx _ ⟨_, _, _, _, _, _, _, _, _, _, _, _, _, _, _, _, fx⟩ => SqL.of (fx _ _ hq nq)) ?_ ?_⟩
  · exact ⟨_, _, _, _, _, _, _, _, [], n, rfl, hfd3, ⟨(fun kv h => nomatch h), List.nodup_nil⟩, Nat.le_refl _, T3, Nat.le_refl _, Fr.refl _ _⟩
  · rintro i v σ Hx hi ⟨k3, k4, k5, k6, k7, k8, k9, k10, kvs, n', rfl, x1, x2, x3, x4, x5, fx⟩
    rw [List.getElem?_map] at hi
    obtain ⟨e, he, rfl⟩ := Option.map_eq_some_iff.mp hi
    obtain ⟨hil, ei⟩ := List.getElem?_eq_some_iff.mp he
    have tp := tpx fx
    have e0 := hes e (List.mem_of_getElem? he)
    have q1 := tp _ _ e0.1
    have q3 := e0.2.2.1.tp tp
    obtain ⟨eq, eab, ed, ef⟩ := e
    dsimp only at q1 q3
    cases ed with
    | zero => exact q3.elim
    | succ d =>
    obtain ⟨bx, ws, kq, ear, sh, h1, h2, h3, h4, h5, h6⟩ := q3
    refine ⟨eq, _, rfl, SqT.of q1, rfl, _, _, rfl, _, _, rfl, _, _, rfl, _, _, rfl, rfl, ?_⟩
    refine ⟨_, rfl, ef.p.a, _, 3, sh, rfl, rfl, SqT.of h1, at3_6, _, rfl, ?_⟩
    cases esh : ef.p.sh with
    | none =>
      rw [esh] at h3
      have e : sh = .non := h3
      subst e
      refine iteF ?_
      exact ⟨_, _, _, _, _, _, _, _, kvs, n', rfl, x1, x2, by omega, x4, by omega, fx⟩
    | some sh3 =>
      obtain ⟨b, lo, hi'⟩ := sh3
      rw [esh] at h3
      obtain ⟨⟨sq, rfl, hsq⟩, hlo, hhi⟩ := h3
      refine iteT ?_
      refine ⟨_, rfl, ef.p.a, _, 3, .ref sq, rfl, rfl, SqT.of h1, at3_6, ?_⟩
      refine ⟨sq, _, rfl, SqT.of hsq, rfl, _, _, rfl, _, _, rfl, _, _, rfl, rfl, ?_⟩
      refine ⟨_, rfl, _, rfl, _, rfl, _, rfl, _, rfl, _, rfl, _, _, rfl, rfl, _, _, rfl, rfl, t, c, hi' - lo + 1, n', rfl, x4, ⟨by omega, by omega⟩, by omega, fun r H4 hr4 T4 f4 => ?_⟩
      refine ⟨_, _, rfl, rfl, (by show 5 ≤ sizeLine; decide), fun pk hpk => ⟨_, rfl, pick_draw (xs := [.int 0, .int lo, .int hi', .int (lo + r), .non]) (i := 5) T4 (by omega) rfl ⟨by simp, by simp⟩ (fun sv H5 hsv T5 f5 => ?_) pk hpk⟩⟩
      have hsv' : sv = .non ∨ ∃ z : Int, sv = .int z := by
        simp only [List.mem_cons, List.not_mem_nil, or_false] at hsv
        rcases hsv with rfl | rfl | rfl | rfl | rfl
        · exact .inr ⟨_, rfl⟩
        · exact .inr ⟨_, rfl⟩
        · exact .inr ⟨_, rfl⟩
        · exact .inr ⟨_, rfl⟩
        · exact .inl rfl
      clear hsv
      have f45 := f4.trans f5
      have fdn : fd ∉ [t] := not_in_one fdt
      have x15 := f45 _ _ x1 fdn
      have tp5 : Tp Hx H5 := fun b xs e => f45 _ _ e (not_in_one (by
        obtain ⟨cs, s, l, h1, _⟩ := x4
        exact ne_of e h1 (by intro z; cases z)))
      have h15 := tp5 _ _ h1
      change gName 10 sv [some (V.ref t), some (V.ref a), some (V.ref fd), some (V.ref ef.p.a), some (V.int ef.x), some (V.int ef.y), some (V.ref eab), some (V.str (wayS b)), some (V.int lo), some (V.int hi'), k10] H5 _
      rcases hsv' with rfl | ⟨z, rfl⟩
      · refine ⟨_, rfl, .inr (.inr (.inl ⟨rfl, .inl ⟨_, x15⟩⟩)), ?_⟩
        refine ⟨_, rfl, _, rfl, iteF ?_⟩
        refine ⟨(by show 0 ≤ sizeLine; decide), ?_⟩
        (intro l l0; generalize hh_ : upd _ l _ = H6; have hl := upd_is hh_; have s6 := same_is hh_ l0; clear hh_)
        refine ⟨l, [], [], rfl, SqL.of hl, .nil, ?_⟩
        (intro d2 d20; generalize hh_ : upd _ d2 _ = H7; have hd2 := upd_is hh_; have s7 := same_is hh_ d20; clear hh_)
        have x17 := s7 _ _ (s6 _ _ x15)
        have d2fd : fd ≠ d2 := (ne_fresh (s6 _ _ x15) d20).symm
        refine ⟨fd, d2, kvs, [], rfl, rfl, d2fd, x17, hd2, Nat.le_trans (by show kvs.length ≤ 100; omega) (by decide), ?_⟩
        have T7 := ((T5.same s6).same s7).put (o := .dK (mergeK kvs [])) fdt fdc
        have f7 : Fr [t, fd] Hx (upd H7 fd (.dK (mergeK kvs []))) := ((f45.trans (Fr.same (s6.trans s7) _)).mono (by simp)).trans (Fr.put (by simp))
        exact ⟨_, _, _, _, _, _, _, _, mergeK kvs [], n' + 2, rfl, upd_same, x2, by show kvs.length ≤ i + 1; omega, T7, by omega, fx.trans f7⟩
      · refine ⟨_, rfl, .inr (.inr (.inl ⟨rfl, .inl ⟨_, x15⟩⟩)), ?_⟩
        refine ⟨_, rfl, _, rfl, iteT ?_⟩
        refine ⟨_, rfl, ef.p.a, _, 0, .str ef.p.nm, rfl, rfl, SqT.of h15, at0_6, _, rfl, (by show 2 ≤ sizeLine; decide), ?_⟩
        (intro tt tt0; generalize hh_ : upd _ tt _ = H6; have htt := upd_is hh_; have s6 := same_is hh_ tt0; clear hh_)
        refine ⟨(by show 1 ≤ sizeLine; decide), ?_⟩
        (intro l l0; generalize hh_ : upd _ l _ = H7; have hl := upd_is hh_; have s7 := same_is hh_ l0; clear hh_)
        refine ⟨l, [tt], [((Sum.inr ef.p.nm : Key), V.int z)], rfl, SqL.of hl, .cons (SqT.of (s7 _ _ htt)) .nil, ?_⟩
        (intro d2 d20; generalize hh_ : upd _ d2 _ = H8; have hd2 := upd_is hh_; have s8 := same_is hh_ d20; clear hh_)
        have s68 := (s6.trans s7).trans s8
        have x18 := s68 _ _ x15
        have d2fd : fd ≠ d2 := (ne_fresh (s7 _ _ (s6 _ _ x15)) d20).symm
        refine ⟨fd, d2, kvs, [((Sum.inr ef.p.nm : Key), V.int z)], rfl, rfl, d2fd, x18, hd2, Nat.le_trans (by show kvs.length + 1 ≤ 100; omega) (by decide), ?_⟩
        have T8 := (T5.same s68).put (o := .dK (mergeK kvs [((Sum.inr ef.p.nm : Key), V.int z)])) fdt fdc
        have f8 : Fr [t, fd] Hx (upd H8 fd (.dK (mergeK kvs [((Sum.inr ef.p.nm : Key), V.int z)]))) := ((f45.trans (Fr.same s68 _)).mono (by simp)).trans (Fr.put (by simp))
        have lp := length_putK kvs (Sum.inr ef.p.nm : Key) (V.int z)
        exact ⟨_, _, _, _, _, _, _, _, mergeK kvs [((Sum.inr ef.p.nm : Key), V.int z)], n' + 2, rfl, upd_same, x2.put _ _, by show (putK kvs (Sum.inr ef.p.nm) (V.int z)).length ≤ i + 1; omega, T8, by omega, fx.trans f8⟩
  rintro σ Hx ⟨k3, k4, k5, k6, k7, k8, k9, k10, kvs, n', rfl, x1, x2, x3, x4, x5, fx⟩
  rw [List.length_map] at x3 x5
  refine ⟨_, rfl, k fd kvs Hx n' fd0 x1 x2 (by omega) x4 (by omega) ?_⟩
  intro b o e nb
  have nfd : b ≠ fd := ne_of_none e fd0
  refine fx _ _ (s13 _ _ e) ?_
  simp only [List.mem_cons, List.not_mem_nil, or_false, not_or] at nb ⊢
  exact ⟨nb, nfd⟩
end
end SG
namespace SG
open PySem PySem.Spec PyProof.Rows L2
/-! ### no places are places at 0 -/
def z0 : Str → Int := fun _ => 0
theorem off0 (p : Pt) : off none p = off (some z0) p := by
  unfold off z0
  rcases p.sh with _ | ⟨b, i, j⟩
  · rfl
  · cases b <;> rfl
theorem inX0 (p : Pt) (x : Int) : inX none p x = inX (some z0) p x := by unfold inX; rw [off0]
theorem inY0 (p : Pt) (x : Int) : inY none p x = inY (some z0) p x := by unfold inY; rw [off0]
mutual
theorem flatF0 : ∀ (sx sy : Int) (ab : List Str) (p : Pt), flatF none sx sy ab p = flatF (some z0) sx sy ab p
  | sx, sy, ab, .mk a nm x y w h sh ks => by
    show _ :: flatL none _ _ _ ks = _ :: flatL (some z0) _ _ _ ks
    rw [flatL0 _ _ _ ks, inX0, inY0]
theorem flatL0 : ∀ (sx sy : Int) (ab : List Str) (ks : List Pt), flatL none sx sy ab ks = flatL (some z0) sx sy ab ks
  | _, _, _, [] => rfl
  | sx, sy, ab, p :: r => by
    show flatF none sx sy ab p ++ flatL none sx sy ab r = flatF (some z0) sx sy ab p ++ flatL (some z0) sx sy ab r
    rw [flatF0 _ _ _ p, flatL0 _ _ _ r]
end
theorem wayN0 : ∀ (d : Nat) (p : Pt) (x y : Int), wayN none d p x y = wayN (some z0) d p x y
  | 0, _, _, _ => rfl
  | d + 1, p, x, y => by
    rw [wayN_succ, wayN_succ, inX0, inY0]
    congr 1
    cases lastIn p.ks (x - inX (some z0) p 0) (y - inY (some z0) p 0) with
    | none => rfl
    | some k => exact wayN0 d k _ _
theorem wayO0 (d : Nat) (x y : Int) (o : Option Pt) : wayO none d x y o = wayO (some z0) d x y o := by
  cases o with
  | none => rfl
  | some k => exact wayN0 d k _ _
def gz : Pl → (Str → Int)
  | none => z0
  | some f => f
theorem flat_gz (g : Pl) (sx sy : Int) (ab : List Str) (p : Pt) : flatF (some (gz g)) sx sy ab p = flatF g sx sy ab p := by
  cases g with
  | none => exact (flatF0 _ _ _ _).symm
  | some f => rfl
theorem way_gz (g : Pl) (d : Nat) (x y : Int) (o : Option Pt) : wayO (some (gz g)) d x y o = wayO g d x y o := by
  cases g with
  | none => exact (wayO0 _ _ _ _).symm
  | some f => rfl
/-- what drawn places say -/
def spotF (kvs : List (Key × V)) : Str → Int := fun s => match valV kvs (Sum.inr s : Key) with
  | some (.int i) => i
  | _ => 0
theorem spot_get {kvs : List (Key × V)} (h : SpotsD kvs) (s : Str) : (valV kvs (Sum.inr s : Key)).getD (.int 0) = .int (spotF kvs s) := by
  unfold spotF
  cases e : valV kvs (Sum.inr s : Key) with
  | none => rfl
  | some v =>
    unfold valV at e
    obtain ⟨kv, e1, e2⟩ := Option.map_eq_some_iff.mp e
    obtain ⟨t, i, rfl⟩ := h.1 kv (List.mem_of_find?_eq_some e1)
    obtain rfl : V.int i = v := e2
    rfl
theorem val_nodup {kvs : List (Key × V)} (h : (kvs.map Prod.fst).Nodup) {kv : Key × V} (hm : kv ∈ kvs) : valV kvs kv.1 = some kv.2 := by
  induction kvs with
  | nil => cases hm
  | cons a r ih =>
    rw [List.map_cons, List.nodup_cons] at h
    unfold valV
    rcases List.mem_cons.mp hm with rfl | hm
    · rw [List.find?_cons_of_pos (by simp)]
      rfl
    · have ne : ¬ a.1 = kv.1 := fun e => h.1 (by rw [e]; exact List.mem_map.mpr ⟨kv, hm, rfl⟩)
      rw [List.find?_cons_of_neg (by simpa using ne)]
      exact ih h.2 hm
theorem tape_is (c : Addr) (s l : Int) : mergeK [] [((Sum.inr ("cells" : Str) : Key), V.ref c), (Sum.inr ("spot" : Str), .int s), (Sum.inr ("left" : Str), .int l)] = tapeD c s l := by
  simp [mergeK, putK, tapeD, n12, n13, n23]
def spTape (K : PySem.W.Frag) : Sp := fun vs H Q _ => ∃ (a : Addr) (ns : List Int), vs = [.ref a] ∧ SqL K H a (ns.map V.int) ∧ ns.length ≤ 63 ∧ ∀ (t c : Addr) (H' : Hp), TapeAt H' t c 0 → Same H H' → Q (.ref t) H'
/-- the places drawn -/
def SpV (H : Hp) (t : Addr) (v : V) : Option (List (Key × V)) → Prop
  | none => v = .non
  | some kvs => ∃ q : Addr, v = .ref q ∧ H q = some (.dK kvs) ∧ SpotsD kvs ∧ kvs.length ≤ 100 ∧ q ≠ t
theorem SpV.fr {H H' : Hp} {t : Addr} {v : V} : ∀ {o : Option (List (Key × V))}, SpV H t v o → Fr [t] H H' → SpV H' t v o
  | none, h, _ => h
  | some _, ⟨q, e, h1, h2, h3, h4⟩, f => ⟨q, e, f _ _ h1 (not_in_one h4), h2, h3, h4⟩
theorem SpV.pl {H : Hp} {t : Addr} {v : V} : ∀ {o : Option (List (Key × V))}, SpV H t v o → PlAt H v (o.map spotF)
  | none, h => h
  | some kvs, ⟨q, e, h1, h2, h3, h4⟩ => ⟨q, kvs, e, h1, spot_get h2⟩
theorem or_sp {K : PySem.W.Frag} {σ : L2.St} {H : Hp} {t : Addr} {v : V} {o : Option (List (Key × V))} {Q : VK} (h : SpV H t v o) (k : ∀ (d : Addr) (H' : Hp), Same H H' → H' d = some (.dK (o.getD [])) → Q (.ref d) H') : ∃ b, TruV K v H b ∧ if b = true then Q v H else tDNewK σ H Q := by
  cases o with
  | none =>
    have e : v = .non := h
    subst e
    exact ⟨false, rfl, iteF fun p hp => k p _ (same_new hp) upd_same⟩
  | some kvs =>
    obtain ⟨q, rfl, h1, h2, h3, h4⟩ := h
    cases kvs with
    | nil => exact ⟨false, .inr (.inr ⟨[], h1, rfl⟩), iteF fun p hp => k p _ (same_new hp) upd_same⟩
    | cons a r => exact ⟨true, .inr (.inr ⟨_, h1, rfl⟩), iteT (k q H (Same.refl _) h1)⟩
theorem SpV.get {H : Hp} {t : Addr} {v : V} {o : Option (List (Key × V))} (h : SpV H t v o) (s : Str) : (valV (o.getD []) (Sum.inr s : Key)).getD (.int 0) = .int (gz (o.map spotF) s) := by
  cases o with
  | none => rfl
  | some kvs =>
    obtain ⟨q, rfl, h1, h2, h3, h4⟩ := h
    exact spot_get h2 s
theorem paired_map {α β γ : Type} {R : β → γ → Prop} {f : α → β} {g : α → γ} : ∀ {us : List α}, (∀ u ∈ us, R (f u) (g u)) → Paired R (us.map f) (us.map g)
  | [], _ => .nil
  | u :: r, h => .cons (h u List.mem_cons_self) (paired_map fun v hv => h v (List.mem_cons_of_mem _ hv))
def DuAt (H : Hp) (u : Addr × (Fl × Addr)) : Prop := H u.1 = some (.tup [.str u.2.1.p.nm, .ref u.2.2]) ∧ H u.2.2 = some (.tup [.int u.2.1.x, .int u.2.1.y])
theorem DuAt.tp {H H' : Hp} {u : Addr × (Fl × Addr)} (h : DuAt H u) (t : Tp H H') : DuAt H' u := ⟨t _ _ h.1, t _ _ h.2⟩
theorem ent_nodup {zs : ZS} {g : Pl} {p : Pt} (h : zs.map Prod.fst = flatF g 0 0 [] p) (nd : p.nms.Nodup) : ((ent zs).map Prod.fst).Nodup := by
  have e : (ent zs).map Prod.fst = p.nms.map fun s => (Sum.inr s : Key) := by
    rw [← flatF_nms g 0 0 [] p, ← h]
    unfold ent
    simp only [List.map_map]
    rfl
  rw [e]
  exact List.pairwise_map.mpr (nd.imp fun ne e => ne (Sum.inr.inj e))
theorem ent_merge {zs : ZS} {g : Pl} {p : Pt} (h : zs.map Prod.fst = flatF g 0 0 [] p) (nd : p.nms.Nodup) : mergeK [] (ent zs) = ent zs := by
  rw [merge_nodup _ [] (by rw [List.nil_append]; exact ent_nodup h nd), List.nil_append]
theorem ne_ents {K : PySem.W.Frag} {H : Hp} {a b : Addr} {xs ys : ZS} {g : Pl} {p : Pt} {Q : VK} (ha : H a = some (.dK (mergeK [] (ent xs)))) (hb : H b = some (.dK (mergeK [] (ent ys)))) (cx : CAt H xs) (cy : CAt H ys) (hx : xs.map Prod.fst = flatF g 0 0 [] p) (hy : ys.map Prod.fst = flatF g 0 0 [] p) (nd : p.nms.Nodup)
    (q : Q (.bl false) H) : rNeDP K (.ref a) (.ref b) H Q := by
  rw [ent_merge hx nd] at ha
  rw [ent_merge hy nd] at hb
  have l := congrArg List.length (hx.trans hy.symm)
  rw [List.length_map, List.length_map] at l
  refine ⟨a, b, _, _, rfl, rfl, ha, hb, by unfold ent; rw [List.length_map, List.length_map]; exact l, ?_, q⟩
  intro kv hkv
  obtain ⟨z, hz, rfl⟩ := List.mem_map.mp hkv
  have m1 : z.1 ∈ ys.map Prod.fst := by
    rw [hy, ← hx]
    exact List.mem_map.mpr ⟨z, hz, rfl⟩
  obtain ⟨y, hym, e⟩ := List.mem_map.mp m1
  have vy := val_nodup (ent_nodup hy nd) (kv := (Sum.inr y.1.p.nm, V.ref y.2)) (List.mem_map.mpr ⟨y, hym, rfl⟩)
  have cy' := cy y hym
  rw [e] at vy cy'
  exact ⟨_, .tuple [.int z.1.x, .int z.1.y], vy, .tup (SqT.of (cx z hz)) (.cons (.int _) (.cons (.int _) .nil)), .tup (SqT.of cy') (.cons (.int _) (.cons (.int _) .nil)), rfl, by show 1 ≤ 64; decide⟩
theorem ne_spots {K : PySem.W.Frag} {H : Hp} {a b : Addr} {kvs : List (Key × V)} {Q : VK} (ha : H a = some (.dK kvs)) (hb : H b = some (.dK kvs)) (h : SpotsD kvs) (q : Q (.bl false) H) : rNeDP K (.ref a) (.ref b) H Q := by
  refine ⟨a, b, _, _, rfl, rfl, ha, hb, rfl, ?_, q⟩
  intro kv hkv
  have v := val_nodup h.2 hkv
  obtain ⟨s, i, rfl⟩ := h.1 kv hkv
  exact ⟨_, .int i, v, .int i, .int i, rfl, by show 0 ≤ 64; decide⟩
theorem ne_strs {K : PySem.W.Frag} {H : Hp} {a b : Addr} {ws : List Str} {Q : VK} (h1 : H a = some (.lst (ws.map V.str))) (h2 : H b = some (.lst (ws.map V.str))) (q : Q (.bl false) H) : rNeP K (.ref a) (.ref b) H Q :=
  ⟨_, _, dp_strL h1, dp_strL h2, plain_strs _, plain_strs _, by show min (PyData.depthAll _ + 1) (PyData.depthAll _ + 1) ≤ 64; rw [depth_strs]; decide, by rw [eqv_strs, decide_eq_true rfl]; exact q⟩
theorem and_mkS {a b : TT} {σ : L2.St} {H : Hp} {Q : Bool → Hp → Prop} {c d : Bool} (ha : ∀ Q1 : Bool → Hp → Prop, Q1 c H → a σ H Q1) (hb : c = true → ∀ Q1 : Bool → Hp → Prop, (∀ H', Same H H' → Q1 d H') → b σ H Q1) (q : ∀ H', Same H H' → Q (c && d) H') : tAnd a b σ H Q := by
  refine ha _ ?_
  cases c with
  | true => exact hb rfl _ q
  | false => exact q H (Same.refl _)
theorem next_is {D : Ends} {σ : L2.St} {H : Hp} : tNext D σ H = D.nx σ H := rfl
theorem turn_at {i : Nat} (h : i < 4) : ∃ m : Nat, atI [V.int 3, V.int 6, V.int 12, V.int 30] (0 + (i : Int)) = some (.int (m : Int)) ∧ 1 ≤ m ∧ m ≤ 30 := by
  match i, h with
  | 0, _ => exact ⟨3, rfl, by decide, by decide⟩
  | 1, _ => exact ⟨6, rfl, by decide, by decide⟩
  | 2, _ => exact ⟨12, rfl, by decide, by decide⟩
  | 3, _ => exact ⟨30, rfl, by decide, by decide⟩
theorem Tp.tape {H H' : Hp} {t c : Addr} {n : Nat} (h : TapeAt H t c n) (f : Fr [t] H H') : Tp H H' := fun b xs e => f _ _ e (not_in_one (by
  obtain ⟨cs, s, l, h1, _⟩ := h
  exact ne_of e h1 (by intro z; cases z)))
def spLaw (K : PySem.W.Frag) : Sp := fun vs H Q _ => ∃ (a : Addr) (ns : List Int), vs = [.ref a] ∧ SqL K H a (ns.map V.int) ∧ ns.length ≤ 63 ∧ ∀ H', Q (.bl true) H'
section
variable {P : Program} {w : World} {K : PySem.W.Frag} {mg : Str → Option Value} {base : Heap}
theorem ok_tape (D : Df K mg "_law_tape" s_law_tape ["_law_script"]) (T : Txt K mg) : Cl P w K mg base 1 "_law_tape" (spTape K) := by
  refine D.ok sc_law_tape (fun vs H Q E h => ?_) (fun f cdv A outer s H vs Q E hr h => ?_)
  · obtain ⟨a, ns, rfl, _⟩ := h
    rfl
  obtain ⟨a, ns, rfl, hS, h63, k⟩ := h
  refine ⟨_, -- return {'cells': _law_script[:63], 'spot': 0, 'left': 0}
    (pss_one (ps_ret (pe_disp (pps_cons pe_str (pe_slice sl_list (pv 0) po_none (po_some pe_int)) (pps_cons pe_str pe_int (pps_cons pe_str pe_int pps_nil))) rfl rfl (by decide) (by decide)))), ?_⟩
  (intro t t0; generalize hh_ : upd _ t _ = H1; have ht := upd_is hh_; have s1 := same_is hh_ t0; clear hh_)
  refine ⟨_, rfl, _, rfl, a, _, rfl, s1.seq hS, ?_⟩
  (intro c c0; generalize hh_ : upd _ c _ = H2; have hc := upd_is hh_; have s2 := same_is hh_ c0; clear hh_)
  have ec : ∃ cs : List Int, cutV (ns.map V.int) none (some 63) = cs.map V.int ∧ cs.length ≤ 63 := by
    refine ⟨(ns.drop (HT.sIx ns.length 0 none)).take (HT.sIx ns.length ns.length (some 63) - HT.sIx ns.length 0 none), ?_, ?_⟩
    · unfold cutV
      rw [List.map_take, List.map_drop, List.length_map]
    · rw [List.length_take, List.length_drop]
      omega
  obtain ⟨cs, ec, lc⟩ := ec
  rw [ec] at hc
  refine ⟨s2 _ _ ht, [((Sum.inr ("cells" : Str) : Key), V.ref c), (Sum.inr ("spot" : Str), .int 0), (Sum.inr ("left" : Str), .int 0)], rfl, (by show 3 ≤ 15; decide), ?_⟩
  rw [tape_is]
  have tc : t ≠ c := ne_of (s2 _ _ ht) hc (by intro z; cases z)
  have tH := t0
  exact k t c _ ⟨cs, 0, 0, upd_same, by rw [upd_ne tc.symm]; exact hc, by decide, by decide, by decide, lc⟩ fun p o e => by
    rw [upd_ne (ne_of_none e tH)]
    exact s2 _ _ (s1 _ _ e)
theorem ok_law {f : Addr} {fd : FuncData} (F : Fun K "law" "law" slaw f fd) (T : Txt K mg) (c_law_tape : Cl P w K mg base 1 "_law_tape" (spTape K)) (c_law_draw : Cl P w K mg base 1 "_law_draw" spDraw) (c_law_scene : Cl P w K mg base 10 "_law_scene" spScene)
    (c_law_spots : Cl P w K mg base 2 "_law_spots" spSpots) (c_law_flat : Cl P w K mg base 1 "_law_flat" spFlat) (c_law_way : Cl P w K mg base 1 "_law_way" spLWay)
    (cway_atK : ClK P w K mg base 3 "way_at" 3 ["places"] (spWay K)) (cway_atD : ClD P w K mg base 3 "way_at" [.non] (spWay K)) (ccornersK : ClK P w K mg base 9 "corners" 1 ["places"] spCorners) (ccornersD : ClD P w K mg base 9 "corners" [.non] spCorners) : FnOk P w K mg base CX0 11 f fd ["_law_script"] (spLaw K) := by
  refine F.ok sclaw (fun vs H Q E h => ?_) (fun cdv A outer s H vs Q E hr h => ?_)
  · obtain ⟨a, ns, rfl, _⟩ := h
    rfl
  obtain ⟨a, ns, rfl, hS, h63, k⟩ := h
  have hu := hu_of hr
  refine ⟨_, -- _law_tape_here = _law_tape(_law_script)
    (pss_cons (ps_set (i := 1) sclaw.nd rfl (Or.inl rfl) (pe_cl c_law_tape (hr.mono (by first | decide | omega)) rfl (pa_cons (pv 0) pa_nil)))
    (pss_cons (ps_for PassesOwn.never rfl (pi_range1 rfl T.m_range (pa_cons pe_int pa_nil)) (pg_name (i := 2) sclaw.nd rfl (Or.inl rfl))
      (pss_cons (ps_set (i := 3) sclaw.nd rfl (Or.inl rfl) (pe_cl c_law_scene (hr.mono (by first | decide | omega)) rfl (pa_cons (pv 1) (pa_cons (pe_ix ix_list (pe_lst (pa_cons pe_int (pa_cons pe_int (pa_cons pe_int (pa_cons pe_int pa_nil))))) (pv 2) (fun _ _ => rfl)) (pa_cons pe_int pa_nil)))))
      (pss_cons (ps_set (i := 4) sclaw.nd rfl (Or.inl rfl) (pe_ix ix_list (pe_lst (pa_cons pe_non (pa_cons (pe_cl c_law_spots (hr.mono (by first | decide | omega)) rfl (pa_cons (pv 1) (pa_cons (pv 3) pa_nil))) (pa_cons (pe_cl c_law_spots (hr.mono (by first | decide | omega)) rfl (pa_cons (pv 1) (pa_cons (pv 3) pa_nil))) pa_nil)))) (pe_cl c_law_draw (hr.mono (by first | decide | omega)) rfl (pa_cons (pv 1) (pa_cons pe_int pa_nil))) (fun _ _ => rfl)))
      (C8.pss_cut (ps_set (i := 5) sclaw.nd rfl (Or.inl rfl) (pe_cl c_law_flat (hr.mono (by first | decide | omega)) rfl (pa_cons (pv 3) (pa_cons (pe_orT (pv 4) (pe_one pe_dnewK)) pa_nil))))
      (C8.pss_cut (ps_set (i := 6) sclaw.nd rfl (Or.inl rfl) (pe_callTy call_dictD (by rfl) T.m_dict (by decide +kernel) (pa_cons (pe_orT (pv 4) (pe_one pe_dnewK)) pa_nil)))
      (pss_cons (ps_set (i := 11) sclaw.nd rfl (Or.inl rfl) (pe_callTy (call_dictP rfl) (by rfl) T.m_dict (by decide +kernel) (pa_cons (pe_lc (own := [("_law_part_here", 7), ("_law_left", 8), ("_law_top", 9), ("_law_about", 10)]) rfl sclaw.nd (pi_list (pv 5)) (blkOk_by (N := Nlaw) (sc := defScope slaw) (by decide +kernel)) (fun _ _ _ _ _ => (pg_four (K := K) (i := 7) (j := 8) (l := 9) (m := 10) rfl rfl sclaw.nd rfl rfl rfl rfl (Or.inl rfl) (Or.inl rfl) (Or.inl rfl) (Or.inl rfl))) (fun _ _ _ _ _ => pts_nil) (fun _ _ _ _ _ => (pe_tup (pa_cons (pe_ix (r := rIxT K) ix_tup (pv 7) pe_int (fun _ _ => rfl)) (pa_cons (pe_tup (pa_cons (pv 8) (pa_cons (pv 9) pa_nil))) pa_nil))))) pa_nil)))
      (C8.pss_cut (ps_set (i := 12) sclaw.nd rfl (Or.inl rfl) (pe_ifExp (pt_cmp (pc_notN (pv 4))) (pe_clK ccornersK (hr.mono (by first | decide | omega)) rfl (pa_cons (pv 3) pa_nil) (pk_cons (pv 4) pk_nil)) (pe_clD ccornersD (hr.mono (by first | decide | omega)) rfl (pa_cons (pv 3) pa_nil))))
      (pss_cons (ps_if (pt_cmpR (op_neDP (hin_of hr)) (pv 12) (pv 11) (nomark _))
        (pss_one (ps_ret pe_bl))
        pss_nil)
      (pss_cons (ps_for PassesOwn.never rfl (pi_range1 rfl T.m_range (pa_cons pe_int pa_nil)) (pg_name (i := 13) sclaw.nd rfl (Or.inl rfl))
        (pss_cons (ps_asg (pe_ix ix_list (pv 5) (pe_cl c_law_draw (hr.mono (by first | decide | omega)) rfl (pa_cons (pv 1) (pa_cons (pe_callB call_len_seq (by rfl) T.m_len PySem.boot_len (pa_cons (pv 5) pa_nil)) pa_nil))) (fun _ _ => rfl)) (pg_tup rfl (pgs_cons (pg_name (i := 7) sclaw.nd rfl (Or.inl rfl)) (pgs_cons (pg_name (i := 8) sclaw.nd rfl (Or.inl rfl)) (pgs_cons (pg_name (i := 9) sclaw.nd rfl (Or.inl rfl)) (pgs_cons (pg_name (i := 10) sclaw.nd rfl (Or.inl rfl)) pgs_nil))))))
        (pss_cons (ps_set (i := 14) sclaw.nd rfl (Or.inl rfl) (pe_op op_add (pv 8) (pe_ix ix_list (pe_lst (pa_cons pe_int (pa_cons (pe_un un_neg pe_int) (pa_cons (pe_op op_sub (pe_ix ix_tup (pe_ix ix_tup (pv 7) pe_int (fun _ _ => rfl)) pe_int (fun _ _ => rfl)) pe_int) (pa_cons (pe_ix ix_tup (pe_ix ix_tup (pv 7) pe_int (fun _ _ => rfl)) pe_int (fun _ _ => rfl)) (pa_cons (pe_cl c_law_draw (hr.mono (by first | decide | omega)) rfl (pa_cons (pv 1) (pa_cons (pe_ix ix_tup (pe_ix ix_tup (pv 7) pe_int (fun _ _ => rfl)) pe_int (fun _ _ => rfl)) pa_nil))) pa_nil)))))) (pe_cl c_law_draw (hr.mono (by first | decide | omega)) rfl (pa_cons (pv 1) (pa_cons pe_int pa_nil))) (fun _ _ => rfl))))
        (pss_cons (ps_set (i := 15) sclaw.nd rfl (Or.inl rfl) (pe_op op_add (pv 9) (pe_ix ix_list (pe_lst (pa_cons pe_int (pa_cons (pe_un un_neg pe_int) (pa_cons (pe_op op_sub (pe_ix ix_tup (pe_ix ix_tup (pv 7) pe_int (fun _ _ => rfl)) pe_int (fun _ _ => rfl)) pe_int) (pa_cons (pe_ix ix_tup (pe_ix ix_tup (pv 7) pe_int (fun _ _ => rfl)) pe_int (fun _ _ => rfl)) (pa_cons (pe_cl c_law_draw (hr.mono (by first | decide | omega)) rfl (pa_cons (pv 1) (pa_cons (pe_ix ix_tup (pe_ix ix_tup (pv 7) pe_int (fun _ _ => rfl)) pe_int (fun _ _ => rfl)) pa_nil))) pa_nil)))))) (pe_cl c_law_draw (hr.mono (by first | decide | omega)) rfl (pa_cons (pv 1) (pa_cons pe_int pa_nil))) (fun _ _ => rfl))))
        (pss_cons (ps_if (pt_cmpR (op_neP hr.units) (pe_clK cway_atK (hr.mono (by first | decide | omega)) rfl (pa_cons (pv 3) (pa_cons (pv 14) (pa_cons (pv 15) pa_nil))) (pk_cons (pv 4) pk_nil)) (pe_cl c_law_way (hr.mono (by first | decide | omega)) rfl (pa_cons (pv 5) (pa_cons (pv 14) (pa_cons (pv 15) pa_nil)))) (nomark _))
          (pss_one (ps_ret pe_bl))
          pss_nil)
        (pss_one (ps_if (PW.pt (pw_and (pt_cmp (pc_isN (pv 4))) (pw_and1 (pt_cmpR (op_neP hr.units) (pe_clD cway_atD (hr.mono (by first | decide | omega)) rfl (pa_cons (pv 3) (pa_cons (pv 14) (pa_cons (pv 15) pa_nil)))) (pe_cl c_law_way (hr.mono (by first | decide | omega)) rfl (pa_cons (pv 5) (pa_cons (pv 14) (pa_cons (pv 15) pa_nil)))) (nomark _)))))
          (pss_one (ps_ret pe_bl))
          pss_nil)))))))
      (pss_one (ps_if (PW.pt (pw_and (pt_cmp (pc_notN (pv 4))) (pw_and1 (pt_cmpR (op_neDP (hin_of hr)) (pv 4) (pv 6) (nomark _)))))
        (pss_one (ps_ret pe_bl))
        pss_nil)))))))))))
    (pss_one (ps_ret pe_bl)))), ?_⟩
  refine ⟨_, rfl, a, ns, rfl, hS, h63, fun t c H0 T0 s0 => ?_⟩
  refine ⟨4, rfl, by decide, by decide, for_range (n := 4) (fun i σ Hx => ∃ (k2 k3 k4 k5 k6 k7 k8 k9 k10 k11 k12 k13 k14 k15 : Option V), σ = [some (.ref a), some (.ref t), k2, k3, k4, k5, k6, k7, k8, k9, k10, k11, k12, k13, k14, k15] ∧ TapeAt Hx t c (41000 * i)) ⟨_, _, _, _, _, _, _, _, _, _, _, _, _, _, rfl, T0⟩ ?_ ?_⟩
  · rintro i σ Hx hi ⟨k2, k3, k4, k5, k6, k7, k8, k9, k10, k11, k12, k13, k14, k15, rfl, Tx⟩
    obtain ⟨m, em, m1, m30⟩ := turn_at hi
    refine ⟨_, rfl, (by show 4 ≤ sizeLine; decide), ?_⟩
    (intro l l0; generalize hh_ : upd _ l _ = H1; have hl := upd_is hh_; have s1 := same_is hh_ l0; clear hh_)
    have T1 := Tx.same s1
    refine ⟨_, rfl, l, _, _, _, rfl, rfl, SqL.of hl, em, t, c, _, m, rfl, T1, m1, m30, by omega, fun sa p H2 S2 T2 f2 => ?_⟩
    refine ⟨_, rfl, _, rfl, t, c, sa, _, p, rfl, T2, S2, by omega, fun q1 kv1 H3 n3 q10 hq1 sp1 len1 T3 hn3 f3 => ?_⟩
    have S3 := S2.tp (Tp.tape T2 f3)
    have q1t : q1 ≠ t := T2.ne_new q10
    refine ⟨_, rfl, _, rfl, t, c, sa, _, p, rfl, T3, S3, by omega, fun q2 kv2 H4 n4 q20 hq2 sp2 len2 T4 hn4 f4 => ?_⟩
    have S4 := S3.tp (Tp.tape T3 f4)
    have q2t : q2 ≠ t := T3.ne_new q20
    have hq14 := f4 _ _ hq1 (not_in_one q1t)
    refine ⟨(by show 3 ≤ sizeLine; decide), fun pk hpk => ⟨_, rfl, pick_draw (xs := [.non, .ref q1, .ref q2]) (i := 3) T4 (by omega) rfl ⟨by simp, by simp⟩ (fun sv H5 hsv T5 f5 => ?_) pk hpk⟩⟩
    have S5 := S4.tp (Tp.tape T4 f5)
    obtain ⟨o, hv⟩ : ∃ o, SpV H5 t sv o := by
      simp only [List.mem_cons, List.not_mem_nil, or_false] at hsv
      rcases hsv with rfl | rfl | rfl
      · exact ⟨none, rfl⟩
      · exact ⟨some kv1, q1, rfl, f5 _ _ hq14 (not_in_one q1t), sp1, len1, q1t⟩
      · exact ⟨some kv2, q2, rfl, f5 _ _ hq2 (not_in_one q2t), sp2, len2, q2t⟩
    have hn5 : n4 + 1 ≤ 41000 * i + 40300 := by omega
    clear hsv hq14 hq1 hq2 sp1 sp2 len1 len2 q10 q20 q1t q2t S4 S3 S2 T4 T3 T2 T1 f2 f3 f4 f5 hl l0 s1 hn3 hn4 em
    generalize n4 + 1 = n5 at *
    change gName 4 sv [some (V.ref a), some (V.ref t), some (V.int (0 + (i : Int))), some (V.ref sa), k4, k5, k6, k7, k8, k9, k10, k11, k12, k13, k14, k15] H5 _
    refine ⟨fun σ' H' => ∃ (fq : Addr) (es : List FE), σ' = [some (V.ref a), some (V.ref t), some (V.int (0 + (i : Int))), some (V.ref sa), some sv, some (.ref fq), k6, k7, k8, k9, k10, k11, k12, k13, k14, k15] ∧ H' fq = some (.lst (es.map fun e => V.ref e.q)) ∧ (∀ e ∈ es, FeAt H' e) ∧ es.map FE.f = flatF (o.map spotF) 0 0 [] p ∧ Same H5 H', ?_, ?_⟩
    · refine ⟨_, rfl, _, rfl, or_sp hv (fun d H6 s6 hd => ?_)⟩
      refine ⟨sa, d, p, _, gz (o.map spotF), rfl, S5.tp (Tp.same s6), hd, hv.get, fun q es H7 s7 hq hes hfl => ?_⟩
      exact ⟨q, es, rfl, hq, hes, by rw [hfl, flat_gz], s6.trans s7⟩
    rintro σ' H6 ⟨fq, es, rfl, hfq, hes, hfl, s6⟩
    have T6 := T5.same s6
    have S6 := S5.tp (Tp.same s6)
    have hv6 := hv.fr (Fr.same s6 _)
    clear S5 hv T5 s6
    have ln := congrArg List.length hfl
    rw [List.length_map, flatF_len] at ln
    have h30 := S6.2.2.1
    refine ⟨fun σ' H' => ∃ (kp : Addr), σ' = [some (V.ref a), some (V.ref t), some (V.int (0 + (i : Int))), some (V.ref sa), some sv, some (V.ref fq), some (.ref kp), k7, k8, k9, k10, k11, k12, k13, k14, k15] ∧ H' kp = some (.dK (o.getD [])) ∧ Same H6 H' ∧ H6 kp = none, ?_, ?_⟩
    · refine ⟨_, rfl, or_sp hv6 (fun d H7 s7 hd => ?_)⟩
      refine ⟨d, _, rfl, .inl hd, ?_⟩
      (intro kp kp0; generalize hh_ : upd _ kp _ = H8; have hkp := upd_is hh_; have s8 := same_is hh_ kp0; clear hh_)
      exact ⟨kp, rfl, hkp, s7.trans s8, s7.free kp0⟩
    rintro σ' H7 ⟨kp, rfl, hkp, s7, kp0⟩
    have kpt : kp ≠ t := T6.ne_new kp0
    have T7 := T6.same s7
    have S7 := S6.tp (Tp.same s7)
    have hv7 := hv6.fr (Fr.same s7 _)
    have hfq7 := s7 _ _ hfq
    have hes7 : ∀ e ∈ es, FeAt H7 e := fun e he => (hes e he).same s7
    clear T6 S6 hv6 hfq hes s7 kp0
    refine ⟨_, rfl, fq, rfl, ⟨_, SqL.of hfq7⟩, ?_⟩
    intro dd dd0
    refine lc_list (K := K) (a := fq) (xs := es.map fun e => V.ref e.q) (fun j Hx => ∃ us : List (Addr × (Fl × Addr)), Hx dd = some (.lst (us.map fun u => V.ref u.1)) ∧ (∀ u ∈ us, DuAt Hx u) ∧ (us.map Prod.snd).map Prod.fst = (es.take j).map FE.f ∧ Same H7 Hx) ⟨[], upd_same, (fun u hu => nomatch hu), rfl, same_new dd0⟩ (fun j Hx _ ⟨_, _, _, _, sx⟩ => SqL.of (sx _ _ hfq7)) ?_ ?_
    · rintro j x Hx hj ⟨us, x1, x2, x3, sx⟩
      rw [List.getElem?_map] at hj
      obtain ⟨e, he, rfl⟩ := Option.map_eq_some_iff.mp hj
      obtain ⟨hjl, ej⟩ := List.getElem?_eq_some_iff.mp he
      obtain ⟨q1, q2, q3, q4⟩ := (hes7 e (List.mem_of_getElem? he)).same sx
      have lu := congrArg List.length x3
      rw [List.length_map, List.length_map, List.length_map, List.length_take] at lu
      obtain ⟨eq, eab, ed, ef⟩ := e
      dsimp only at q1 q2 q3 q4
      cases ed with
      | zero => exact q3.elim
      | succ d =>
      obtain ⟨bx, ws, kq, ear, sh, h1, h2, h3, h4, h5, h6⟩ := q3
      refine ⟨eq, _, rfl, SqT.of q1, rfl, _, _, rfl, _, _, rfl, _, _, rfl, _, _, rfl, rfl, ?_⟩
      refine ⟨rfl, ?_⟩
      refine ⟨_, rfl, ef.p.a, _, 0, .str ef.p.nm, rfl, rfl, SqT.of h1, at0_6, _, rfl, _, rfl, (by show 2 ≤ sizeLine; decide), ?_⟩
      (intro xy xy0; generalize hh_ : upd _ xy _ = Hy; have hxy := upd_is hh_; have sy := same_is hh_ xy0; clear hh_)
      refine ⟨(by show 2 ≤ sizeLine; decide), ?_⟩
      (intro pr pr0; generalize hh_ : upd _ pr _ = Hz; have hpr := upd_is hh_; have sz1 := same_is hh_ pr0; clear hh_)
      have syz := sy.trans sz1
      have x1' := syz _ _ x1
      refine ⟨_, x1', Nat.lt_of_lt_of_le (by rw [List.length_map]; omega : _ < 1000) (sz (by decide : 1000 ≤ 100000)), ?_⟩
      have tu : Tp Hz (upd Hz dd (.lst (us.map (fun u => V.ref u.1) ++ [.ref pr]))) := Tp.put x1'
      refine ⟨us ++ [(pr, (ef, xy))], by rw [upd_same, List.map_append]; rfl, ?_, ?_, fun p o e => by rw [upd_ne (ne_of_none e dd0)]; exact syz _ _ (sx _ _ e)⟩
      · intro u hu
        rcases List.mem_append.mp hu with hu | hu
        · exact ((x2 u hu).tp (Tp.same syz)).tp tu
        · rw [List.mem_singleton.mp hu]
          exact ⟨tu _ _ hpr, tu _ _ (sz1 _ _ hxy)⟩
      · rw [List.map_append, List.map_append, x3, List.take_succ_eq_append_getElem hjl, ej, List.map_append]
        rfl
    rintro H8 ⟨us, x1, x2, x3, s8⟩
    rw [List.length_map, List.take_length, hfl] at x3
    refine ⟨dd, us.map Prod.fst, us.map (fun u => ((Sum.inr u.2.1.p.nm : Key), V.ref u.2.2)), rfl, by rw [List.map_map]; exact SqL.of x1, paired_map (fun u hu => by exact SqT.of (x2 u hu).1), ?_⟩
    (intro du du0; generalize hh_ : upd _ du _ = H9; have hdu := upd_is hh_; have s9 := same_is hh_ du0; clear hh_)
    have hdu : H9 du = some (.dK (mergeK [] (ent (us.map Prod.snd)))) := by
      rw [hdu]
      unfold ent
      rw [List.map_map]
      rfl
    have s79 := s8.trans s9
    have cu : CAt H9 (us.map Prod.snd) := by
      intro z hz
      obtain ⟨u, hu, rfl⟩ := List.mem_map.mp hz
      exact s9 _ _ (x2 u hu).2
    have T9 := T7.same s79
    have S9 := S7.tp (Tp.same s79)
    have hv9 := hv7.fr (Fr.same s79 _)
    have hfq9 := s79 _ _ hfq7
    have hes9 : ∀ e ∈ es, FeAt H9 e := fun e he => (hes7 e he).same s79
    have hkp9 := s79 _ _ hkp
    clear T7 S7 hv7 hfq7 hes7 hkp s79 s8 s9 x1 x2 du0 dd0
    refine ⟨fun σ' H' => ∃ (fo : Addr) (zs : ZS), σ' = [some (V.ref a), some (V.ref t), some (V.int (0 + (i : Int))), some (V.ref sa), some sv, some (V.ref fq), some (.ref kp), k7, k8, k9, k10, some (.ref du), some (.ref fo), k13, k14, k15] ∧ H' fo = some (.dK (mergeK [] (ent zs))) ∧ CAt H' zs ∧ zs.map Prod.fst = flatF (o.map spotF) 0 0 [] p ∧ Same H9 H', ?_, ?_⟩
    · cases o with
      | none =>
        have e : sv = .non := hv9
        subst e
        refine ⟨_, rfl, _, rfl, iteF ?_⟩
        refine ⟨_, rfl, sa, p, .non, none, rfl, S9, rfl, fun fo zs H' s' hfo hc hz => ?_⟩
        exact ⟨fo, zs, rfl, hfo, hc, hz, s'⟩
      | some kvs =>
        have hv9' := hv9
        obtain ⟨q, rfl, h1, h2, h3, h4⟩ := hv9'
        refine ⟨_, rfl, _, rfl, iteT ?_⟩
        refine ⟨_, rfl, _, rfl, rfl, rfl, sa, p, .ref q, some (spotF kvs), rfl, S9, hv9.pl, fun fo zs H' s' hfo hc hz => ?_⟩
        exact ⟨fo, zs, rfl, hfo, hc, hz, s'⟩
    rintro σ' H10 ⟨fo, zs, rfl, hfo, hc, hz, s10⟩
    have nd := S9.2.2.2
    refine ⟨_, rfl, _, rfl, ne_ents hfo (s10 _ _ hdu) hc (fun z hz => s10 _ _ (cu z hz)) hz x3 nd ⟨_, rfl, iteF ?_⟩⟩
    have T10 := T9.same s10
    have S10 := S9.tp (Tp.same s10)
    have hv10 := hv9.fr (Fr.same s10 _)
    have hfq10 := s10 _ _ hfq9
    have hes10 : ∀ e ∈ es, FeAt H10 e := fun e he => (hes9 e he).same s10
    have hkp10 := s10 _ _ hkp9
    clear T9 S9 hv9 hfq9 hes9 hkp9 s10 hfo hc hz cu x3 hdu
    refine ⟨14, rfl, by decide, by decide, for_range (n := 14) (fun j σ Hx => ∃ (k7 k8 k9 k10 k13 k14 k15 : Option V), σ = [some (V.ref a), some (V.ref t), some (V.int (0 + (i : Int))), some (V.ref sa), some sv, some (V.ref fq), some (.ref kp), k7, k8, k9, k10, some (.ref du), some (.ref fo), k13, k14, k15] ∧ TapeAt Hx t c (n5 + 5 * j) ∧ Fr [t] H10 Hx) ⟨_, _, _, _, _, _, _, rfl, T10, Fr.refl _ _⟩ ?_ ?_⟩
    · rintro j σ Hx hj ⟨k7, k8, k9, k10, k13, k14, k15, rfl, Tx, fx⟩
      have tpx := Tp.tape T10 fx
      have hfqx := tpx
      have hvx := hv10.fr fx
      have fqt : fq ≠ t := by
        obtain ⟨cs, s, l, h1, _⟩ := T10
        exact ne_of hfq10 h1 (by intro z; cases z)
      have hq := fx _ _ hfq10 (not_in_one fqt)
      have ps := sz_pos p
      refine ⟨_, rfl, _, rfl, _, rfl, fq, _, rfl, .inl (SqL.of hq), ?_⟩
      rw [List.length_map, ln]
      refine ⟨t, c, (p.sz : Int), _, rfl, Tx, ⟨by omega, by omega⟩, by omega, fun r H1 hr1 T1 f1 => ?_⟩
      have fx1 := fx.trans f1
      have hq1 := fx1 _ _ hfq10 (not_in_one fqt)
      obtain ⟨ev, hev, eev⟩ := at_in (xs := es.map fun e => V.ref e.q) hr1.1 (by rw [List.length_map]; omega)
      obtain ⟨e, he, rfl⟩ := List.mem_map.mp hev
      refine ⟨fq, _, _, _, rfl, rfl, SqL.of hq1, eev, ?_⟩
      have tp1 := Tp.tape T10 fx1
      have e0 := hes10 e he
      have q1 := tp1 _ _ e0.1
      have q3 := e0.2.2.1.tp tp1
      obtain ⟨eq, eab, ed, ef⟩ := e
      dsimp only at q1 q3
      cases ed with
      | zero => exact q3.elim
      | succ d =>
      obtain ⟨bx, ws, kq, ear, sh, h1, h2, h3, h4, h5, h6⟩ := q3
      obtain ⟨_, _, hw, hh⟩ := h5
      refine ⟨eq, _, rfl, SqT.of q1, rfl, _, _, rfl, _, _, rfl, _, _, rfl, _, _, rfl, rfl, ?_⟩
      have g1 : Tp H1 H1 := Tp.refl _
      refine ⟨_, rfl, _, rfl, _, rfl, ef.p.a, _, 1, .ref bx, rfl, rfl, SqT.of (g1 _ _ h1), at1_6, bx, _, 2, _, rfl, rfl, SqT.of (g1 _ _ h2), at2_4, _, _, rfl, rfl, ?_⟩
      refine ⟨_, rfl, ef.p.a, _, 1, .ref bx, rfl, rfl, SqT.of (g1 _ _ h1), at1_6, bx, _, 2, _, rfl, rfl, SqT.of (g1 _ _ h2), at2_4, ?_⟩
      refine ⟨_, rfl, _, rfl, ef.p.a, _, 1, .ref bx, rfl, rfl, SqT.of (g1 _ _ h1), at1_6, bx, _, 2, _, rfl, rfl, SqT.of (g1 _ _ h2), at2_4, t, c, ef.p.w, _, rfl, T1, ⟨by omega, by omega⟩, by omega, fun r1 H1a hr1 T1a f1a => ?_⟩
      refine ⟨(by show 5 ≤ sizeLine; decide), fun pk hpk => ⟨_, rfl, pick_draw (xs := [.int 0, .int (-1), .int (ef.p.w - 1), .int ef.p.w, .int r1]) (i := 5) T1a (by omega) rfl ⟨by simp, by simp⟩ (fun v1 H1b hv1 T1b f1b => ?_) pk hpk⟩⟩
      obtain ⟨z1, rfl⟩ : ∃ z : Int, v1 = .int z := by
        simp only [List.mem_cons, List.not_mem_nil, or_false] at hv1
        rcases hv1 with rfl | rfl | rfl | rfl | rfl
        all_goals exact ⟨_, rfl⟩
      refine ⟨_, _, rfl, rfl, ?_⟩
      have g2 : Tp H1 H1b := (Tp.tape T1 f1a).trans (Tp.tape T1a f1b)
      have T2 := T1b
      refine ⟨_, rfl, _, rfl, _, rfl, ef.p.a, _, 1, .ref bx, rfl, rfl, SqT.of (g2 _ _ h1), at1_6, bx, _, 3, _, rfl, rfl, SqT.of (g2 _ _ h2), at3_4, _, _, rfl, rfl, ?_⟩
      refine ⟨_, rfl, ef.p.a, _, 1, .ref bx, rfl, rfl, SqT.of (g2 _ _ h1), at1_6, bx, _, 3, _, rfl, rfl, SqT.of (g2 _ _ h2), at3_4, ?_⟩
      refine ⟨_, rfl, _, rfl, ef.p.a, _, 1, .ref bx, rfl, rfl, SqT.of (g2 _ _ h1), at1_6, bx, _, 3, _, rfl, rfl, SqT.of (g2 _ _ h2), at3_4, t, c, ef.p.h, _, rfl, T2, ⟨by omega, by omega⟩, by omega, fun r2 H2a hr2 T2a f2a => ?_⟩
      refine ⟨(by show 5 ≤ sizeLine; decide), fun pk hpk => ⟨_, rfl, pick_draw (xs := [.int 0, .int (-1), .int (ef.p.h - 1), .int ef.p.h, .int r2]) (i := 5) T2a (by omega) rfl ⟨by simp, by simp⟩ (fun v2 H2b hv2 T2b f2b => ?_) pk hpk⟩⟩
      obtain ⟨z2, rfl⟩ : ∃ z : Int, v2 = .int z := by
        simp only [List.mem_cons, List.not_mem_nil, or_false] at hv2
        rcases hv2 with rfl | rfl | rfl | rfl | rfl
        all_goals exact ⟨_, rfl⟩
      refine ⟨_, _, rfl, rfl, ?_⟩
      have fz := (((fx1.trans f1a).trans f1b).trans f2a).trans f2b
      have Tz := T2b
      have hqz := fz _ _ hfq10 (not_in_one fqt)
      have tpz := Tp.tape T10 fz
      have eabt : ∀ e ∈ es, e.ab ≠ t := fun e he => by
        obtain ⟨cs, s, l, h1, _⟩ := T10
        exact ne_of (hes10 e he).2.1 h1 (by intro z; cases z)
      have hesz : ∀ e ∈ es, FeAt H2b e := fun e he => ⟨tpz _ _ (hes10 e he).1, fz _ _ (hes10 e he).2.1 (not_in_one (eabt e he)), (hes10 e he).2.2.1.tp tpz, (hes10 e he).2.2.2⟩
      have Sz := S10.tp tpz
      have hvz := hv10.fr fz
      change gName 15 (.int (ef.y + z2)) [some (V.ref a), some (V.ref t), some (V.int (0 + (i : Int))), some (V.ref sa), some sv, some (V.ref fq), some (V.ref kp), some (V.ref ef.p.a), some (V.int ef.x), some (V.int ef.y), some (V.ref eab), some (V.ref du), some (V.ref fo), some (V.int (0 + (j : Int))), some (V.int (ef.x + z1)), k15] H2b _
      generalize ef.x + z1 = X at *
      generalize ef.y + z2 = Y at *
      clear f1a f1b f2a f2b T1a T1b T2a T2b T2 T1 g1 g2 hv1 hv2 hr1 hr2 h1 h2 h3 h4 h6 q1 eev hev hq1 hq fx1 f1 Tx fx
      refine ⟨_, rfl, _, rfl, _, rfl, _, rfl, rfl, rfl, sa, p, X, Y, sv, o.map spotF, rfl, Sz, hvz.pl, fun w1 Ha w10 hw1 s1 => ?_⟩
      refine ⟨_, rfl, _, rfl, _, rfl, fq, es, p, X, Y, o.map spotF, rfl, s1 _ _ hqz, (fun e he => (hesz e he).same s1), hfl, Sz.2.1.tp (Tp.same s1), h30, nd, fun w2 Hb w20 hw2 s2 => ?_⟩
      refine ne_strs (s2 _ _ hw1) hw2 ⟨_, rfl, iteF ?_⟩
      have s12 := s1.trans s2
      have hqb := s12 _ _ hqz
      have hesb : ∀ e ∈ es, FeAt Hb e := fun e he => (hesz e he).same s12
      have Sb := Sz.tp (Tp.same s12)
      have Tb := Tz.same s12
      have fb := fz.trans (Fr.same s12 _)
      clear hesz Sz hqz Tz fz hw1 hw2 w10 w20 s1 s2 s12 tpz
      rw [next_is]
      dsimp only
      refine if_mk ?_
      refine and_mkS (c := o.isNone) (d := false) (fun Q1 q1 => ?_) (fun ho Q1 q1 => ?_) (fun Hd sd => ?_)
      · cases o with
        | none =>
          have e : sv = .non := hvz
          subst e
          exact ⟨_, rfl, _, rfl, q1⟩
        | some kvs =>
          obtain ⟨q, rfl, _⟩ := hvz
          exact ⟨_, rfl, _, rfl, q1⟩
      · cases o with
        | some kvs => cases ho
        | none =>
          refine ⟨_, rfl, _, rfl, _, rfl, sa, p, X, Y, .non, none, rfl, Sb, rfl, fun w1 Ha w10 hw1 s1 => ?_⟩
          refine ⟨_, rfl, _, rfl, _, rfl, fq, es, p, X, Y, none, rfl, s1 _ _ hqb, (fun e he => (hesb e he).same s1), hfl, Sb.2.1.tp (Tp.same s1), h30, nd, fun w2 Hc w20 hw2 s2 => ?_⟩
          exact ne_strs (s2 _ _ hw1) hw2 ⟨_, rfl, q1 _ (s1.trans s2)⟩
      rw [Bool.and_false]
      refine iteF ?_
      exact ⟨_, _, _, _, _, _, _, rfl, (Tb.same sd).mono (by omega), fb.trans (Fr.same sd _)⟩
    rintro σ Hx ⟨k7, k8, k9, k10, k13, k14, k15, rfl, Tx, fx⟩
    have hvx := hv10.fr fx
    have hkpx := fx _ _ hkp10 (not_in_one kpt)
    dsimp only
    refine if_mk ?_
    refine and_mk (c := o.isSome) (d := false) (fun Q1 q1 => ?_) (fun ho Q1 q1 => ?_) ?_
    · cases o with
      | none =>
        have e : sv = .non := hvx
        subst e
        exact ⟨_, rfl, _, rfl, q1⟩
      | some kvs =>
        obtain ⟨q, rfl, _⟩ := hvx
        exact ⟨_, rfl, _, rfl, q1⟩
    · cases o with
      | none => cases ho
      | some kvs =>
        obtain ⟨q, rfl, h1, h2, h3, h4⟩ := hvx
        exact ⟨_, rfl, _, rfl, ne_spots h1 hkpx h2 ⟨_, rfl, q1⟩⟩
    rw [Bool.and_false]
    refine iteF ?_
    exact ⟨_, _, _, _, _, _, _, _, _, _, _, _, _, _, rfl, Tx.mono (by omega)⟩
  · rintro σ Hx ⟨k2, k3, k4, k5, k6, k7, k8, k9, k10, k11, k12, k13, k14, k15, rfl, Tx⟩
    exact k Hx
end
end SG
namespace SG
open PySem PySem.Spec PyProof.Rows L2
theorem dfk_way {K : PySem.W.Frag} {mg : Str → Option Value} {f D : Addr} {oc doc pm cdv ct : Value} {od an : Option Addr} {osl : Array (Option Value)}
    (l : K.lookup f = some ⟨oc, od, .func (PySem.W.fnOf "way_at" "way_at" (defArgs sway_at) (defBody sway_at) (defScope sway_at) .none (.ref D) doc pm an cdv ct), osl⟩)
    (c : PySem.W.codeIn K cdv "way_at" = true) (k : PySem.W.keepIn K (.ref f) = true) (n : PySem.W.nsIn K D "places" = some (some .none)) (m : mg "way_at" = some (.ref f)) :
    DfK K mg "way_at" sway_at ["scene", "x", "y", "places"] 3 ["places"] [.non] := by
  have F := fun_mk (st := sway_at) l c k
  have FD : FunD K "way_at" "way_at" (defArgs sway_at) (defBody sway_at) (defScope sway_at) [] [(("places" : Str), V.non)] f (PySem.W.fnOf "way_at" "way_at" (defArgs sway_at) (defBody sway_at) (defScope sway_at) .none (.ref D) doc pm an cdv ct) :=
    ⟨⟨_, _, _, _, _, _, _, _, _, _, rfl, l, c, .inl ⟨rfl, rfl⟩, .inr ⟨D, rfl, fun q hq => by rw [List.mem_singleton.mp hq]; exact ⟨_, n, rfl⟩⟩⟩, k⟩
  obtain ⟨ds, vd, b⟩ := FD.binds0 (ps := ["scene", "x", "y", "places"]) 3 (by simp) rfl (fun D doc pm an cdv ct us ks hu hk => by
    match us, hu, ks, hk with
    | [_, _, _], _, [_], _ => exact ⟨_, _, _, _, _, _, rfl, rfl, rfl⟩)
  refine ⟨⟨_, _, _, F, m, b, vd, kbn_of fun us ws hu hw => ?_⟩⟩
  match us, hu, ws, hw with
  | [_, _, _], _, [_], _ => rfl
theorem dfk_corners {K : PySem.W.Frag} {mg : Str → Option Value} {f D : Addr} {oc doc pm cdv ct : Value} {od an : Option Addr} {osl : Array (Option Value)}
    (l : K.lookup f = some ⟨oc, od, .func (PySem.W.fnOf "corners" "corners" (defArgs scorners) (defBody scorners) (defScope scorners) .none (.ref D) doc pm an cdv ct), osl⟩)
    (c : PySem.W.codeIn K cdv "corners" = true) (k : PySem.W.keepIn K (.ref f) = true) (n : PySem.W.nsIn K D "places" = some (some .none)) (m : mg "corners" = some (.ref f)) :
    DfK K mg "corners" scorners ["scene", "places"] 1 ["places"] [.non] := by
  have F := fun_mk (st := scorners) l c k
  have FD : FunD K "corners" "corners" (defArgs scorners) (defBody scorners) (defScope scorners) [] [(("places" : Str), V.non)] f (PySem.W.fnOf "corners" "corners" (defArgs scorners) (defBody scorners) (defScope scorners) .none (.ref D) doc pm an cdv ct) :=
    ⟨⟨_, _, _, _, _, _, _, _, _, _, rfl, l, c, .inl ⟨rfl, rfl⟩, .inr ⟨D, rfl, fun q hq => by rw [List.mem_singleton.mp hq]; exact ⟨_, n, rfl⟩⟩⟩, k⟩
  obtain ⟨ds, vd, b⟩ := FD.binds0 (ps := ["scene", "places"]) 1 (by simp) rfl (fun D doc pm an cdv ct us ks hu hk => by
    match us, hu, ks, hk with
    | [_], _, [_], _ => exact ⟨_, _, _, _, _, _, rfl, rfl, rfl⟩)
  refine ⟨⟨_, _, _, F, m, b, vd, kbn_of fun us ws hu hw => ?_⟩⟩
  match us, hu, ws, hw with
  | [_], _, [_], _ => rfl
end SG
namespace SG
open PySem PySem.Spec PyProof.Rows L2
theorem all_mk {l : PySem.W.OpenLaw} {w : World} {K : PySem.W.Frag} {h : Heap} {mg : Str → Option Value} {fa f1 f2 f3 f4 f5 f6 f7 f8 f9 f10 f11 f12 f13 f14 f15 f16 f17 f18 : Addr} (X : K.In h) (G : h.Ns mainGlobals mg) (hfa : mg "law" = some (.ref fa)) {od1 an1 od2 an2 od3 an3 od4 an4 od5 an5 od6 an6 od7 an7 od8 an8 od9 an9 od10 an10 od11 an11 od12 an12 od13 an13 od14 an14 od15 an15 od16 an16 od17 an17 od18 an18 : Option Addr} {sl1 sl2 sl3 sl4 sl5 sl6 sl7 sl8 sl9 sl10 sl11 sl12 sl13 sl14 sl15 sl16 sl17 sl18 : Array (Option Value)} {oc1 dc1 pm1 cd1 ct1 oc2 kV2 dc2 pm2 cd2 ct2 oc3 dc3 pm3 cd3 ct3 oc4 kV4 dc4 pm4 cd4 ct4 oc5 kV5 dc5 pm5 cd5 ct5 oc6 kV6 dc6 pm6 cd6 ct6 oc7 kV7 dc7 pm7 cd7 ct7 oc8 kV8 dc8 pm8 cd8 ct8 oc9 kV9 dc9 pm9 cd9 ct9 oc10 kV10 dc10 pm10 cd10 ct10 oc11 kV11 dc11 pm11 cd11 ct11 oc12 kV12 dc12 pm12 cd12 ct12 oc13 kV13 dc13 pm13 cd13 ct13 oc14 kV14 dc14 pm14 cd14 ct14 oc15 kV15 dc15 pm15 cd15 ct15 oc16 kV16 dc16 pm16 cd16 ct16 oc17 kV17 dc17 pm17 cd17 ct17 oc18 kV18 dc18 pm18 cd18 ct18 : Value} {kd1 kd3 : Addr} {tNAME tPARTS : Tok}
    (a1 : PySem.W.nsIn K mainGlobals "way_at" = some (some (.ref f1)))
    (l1 : K.lookup f1 = some ⟨oc1, od1, .func (PySem.W.fnOf "way_at" "way_at" (defArgs sway_at) (defBody sway_at) (defScope sway_at) .none (.ref kd1) dc1 pm1 an1 cd1 ct1), sl1⟩)
    (c1 : PySem.W.codeIn K cd1 "way_at" = true)
    (k1 : PySem.W.keepIn K (.ref f1) = true)
    (w1_0 : PySem.W.nsIn K kd1 "places" = some (some .none))
    (a2 : PySem.W.nsIn K mainGlobals "way_around" = some (some (.ref f2)))
    (l2 : K.lookup f2 = some ⟨oc2, od2, .func (PySem.W.fnOf "way_around" "way_around" (defArgs sway_around) (defBody sway_around) (defScope sway_around) .none kV2 dc2 pm2 an2 cd2 ct2), sl2⟩)
    (c2 : PySem.W.codeIn K cd2 "way_around" = true)
    (k2 : PySem.W.keepIn K (.ref f2) = true)
    (a3 : PySem.W.nsIn K mainGlobals "corners" = some (some (.ref f3)))
    (l3 : K.lookup f3 = some ⟨oc3, od3, .func (PySem.W.fnOf "corners" "corners" (defArgs scorners) (defBody scorners) (defScope scorners) .none (.ref kd3) dc3 pm3 an3 cd3 ct3), sl3⟩)
    (c3 : PySem.W.codeIn K cd3 "corners" = true)
    (k3 : PySem.W.keepIn K (.ref f3) = true)
    (w3_0 : PySem.W.nsIn K kd3 "places" = some (some .none))
    (a4 : PySem.W.nsIn K mainGlobals "_last_at" = some (some (.ref f4)))
    (l4 : K.lookup f4 = some ⟨oc4, od4, .func (PySem.W.fnOf "_last_at" "_last_at" (defArgs s_last_at) (defBody s_last_at) (defScope s_last_at) .none kV4 dc4 pm4 an4 cd4 ct4), sl4⟩)
    (c4 : PySem.W.codeIn K cd4 "_last_at" = true)
    (k4 : PySem.W.keepIn K (.ref f4) = true)
    (a5 : PySem.W.nsIn K mainGlobals "_start_of_inner" = some (some (.ref f5)))
    (l5 : K.lookup f5 = some ⟨oc5, od5, .func (PySem.W.fnOf "_start_of_inner" "_start_of_inner" (defArgs s_start_of_inner) (defBody s_start_of_inner) (defScope s_start_of_inner) .none kV5 dc5 pm5 an5 cd5 ct5), sl5⟩)
    (c5 : PySem.W.codeIn K cd5 "_start_of_inner" = true)
    (k5 : PySem.W.keepIn K (.ref f5) = true)
    (a6 : PySem.W.nsIn K mainGlobals "_put_corners" = some (some (.ref f6)))
    (l6 : K.lookup f6 = some ⟨oc6, od6, .func (PySem.W.fnOf "_put_corners" "_put_corners" (defArgs s_put_corners) (defBody s_put_corners) (defScope s_put_corners) .none kV6 dc6 pm6 an6 cd6 ct6), sl6⟩)
    (c6 : PySem.W.codeIn K cd6 "_put_corners" = true)
    (k6 : PySem.W.keepIn K (.ref f6) = true)
    (a7 : PySem.W.nsIn K mainGlobals "_law_tape" = some (some (.ref f7)))
    (l7 : K.lookup f7 = some ⟨oc7, od7, .func (PySem.W.fnOf "_law_tape" "_law_tape" (defArgs s_law_tape) (defBody s_law_tape) (defScope s_law_tape) .none kV7 dc7 pm7 an7 cd7 ct7), sl7⟩)
    (c7 : PySem.W.codeIn K cd7 "_law_tape" = true)
    (k7 : PySem.W.keepIn K (.ref f7) = true)
    (a8 : PySem.W.nsIn K mainGlobals "_law_draw" = some (some (.ref f8)))
    (l8 : K.lookup f8 = some ⟨oc8, od8, .func (PySem.W.fnOf "_law_draw" "_law_draw" (defArgs s_law_draw) (defBody s_law_draw) (defScope s_law_draw) .none kV8 dc8 pm8 an8 cd8 ct8), sl8⟩)
    (c8 : PySem.W.codeIn K cd8 "_law_draw" = true)
    (k8 : PySem.W.keepIn K (.ref f8) = true)
    (a9 : PySem.W.nsIn K mainGlobals "_law_words" = some (some (.ref f9)))
    (l9 : K.lookup f9 = some ⟨oc9, od9, .func (PySem.W.fnOf "_law_words" "_law_words" (defArgs s_law_words) (defBody s_law_words) (defScope s_law_words) .none kV9 dc9 pm9 an9 cd9 ct9), sl9⟩)
    (c9 : PySem.W.codeIn K cd9 "_law_words" = true)
    (k9 : PySem.W.keepIn K (.ref f9) = true)
    (a10 : PySem.W.nsIn K mainGlobals "_law_machine" = some (some (.ref f10)))
    (l10 : K.lookup f10 = some ⟨oc10, od10, .func (PySem.W.fnOf "_law_machine" "_law_machine" (defArgs s_law_machine) (defBody s_law_machine) (defScope s_law_machine) .none kV10 dc10 pm10 an10 cd10 ct10), sl10⟩)
    (c10 : PySem.W.codeIn K cd10 "_law_machine" = true)
    (k10 : PySem.W.keepIn K (.ref f10) = true)
    (a11 : PySem.W.nsIn K mainGlobals "_law_wish" = some (some (.ref f11)))
    (l11 : K.lookup f11 = some ⟨oc11, od11, .func (PySem.W.fnOf "_law_wish" "_law_wish" (defArgs s_law_wish) (defBody s_law_wish) (defScope s_law_wish) .none kV11 dc11 pm11 an11 cd11 ct11), sl11⟩)
    (c11 : PySem.W.codeIn K cd11 "_law_wish" = true)
    (k11 : PySem.W.keepIn K (.ref f11) = true)
    (a12 : PySem.W.nsIn K mainGlobals "_law_part" = some (some (.ref f12)))
    (l12 : K.lookup f12 = some ⟨oc12, od12, .func (PySem.W.fnOf "_law_part" "_law_part" (defArgs s_law_part) (defBody s_law_part) (defScope s_law_part) .none kV12 dc12 pm12 an12 cd12 ct12), sl12⟩)
    (c12 : PySem.W.codeIn K cd12 "_law_part" = true)
    (k12 : PySem.W.keepIn K (.ref f12) = true)
    (a13 : PySem.W.nsIn K mainGlobals "_law_pairs" = some (some (.ref f13)))
    (l13 : K.lookup f13 = some ⟨oc13, od13, .func (PySem.W.fnOf "_law_pairs" "_law_pairs" (defArgs s_law_pairs) (defBody s_law_pairs) (defScope s_law_pairs) .none kV13 dc13 pm13 an13 cd13 ct13), sl13⟩)
    (c13 : PySem.W.codeIn K cd13 "_law_pairs" = true)
    (k13 : PySem.W.keepIn K (.ref f13) = true)
    (a14 : PySem.W.nsIn K mainGlobals "_law_scene" = some (some (.ref f14)))
    (l14 : K.lookup f14 = some ⟨oc14, od14, .func (PySem.W.fnOf "_law_scene" "_law_scene" (defArgs s_law_scene) (defBody s_law_scene) (defScope s_law_scene) .none kV14 dc14 pm14 an14 cd14 ct14), sl14⟩)
    (c14 : PySem.W.codeIn K cd14 "_law_scene" = true)
    (k14 : PySem.W.keepIn K (.ref f14) = true)
    (a15 : PySem.W.nsIn K mainGlobals "_law_flat" = some (some (.ref f15)))
    (l15 : K.lookup f15 = some ⟨oc15, od15, .func (PySem.W.fnOf "_law_flat" "_law_flat" (defArgs s_law_flat) (defBody s_law_flat) (defScope s_law_flat) .none kV15 dc15 pm15 an15 cd15 ct15), sl15⟩)
    (c15 : PySem.W.codeIn K cd15 "_law_flat" = true)
    (k15 : PySem.W.keepIn K (.ref f15) = true)
    (a16 : PySem.W.nsIn K mainGlobals "_law_way" = some (some (.ref f16)))
    (l16 : K.lookup f16 = some ⟨oc16, od16, .func (PySem.W.fnOf "_law_way" "_law_way" (defArgs s_law_way) (defBody s_law_way) (defScope s_law_way) .none kV16 dc16 pm16 an16 cd16 ct16), sl16⟩)
    (c16 : PySem.W.codeIn K cd16 "_law_way" = true)
    (k16 : PySem.W.keepIn K (.ref f16) = true)
    (a17 : PySem.W.nsIn K mainGlobals "_law_spots" = some (some (.ref f17)))
    (l17 : K.lookup f17 = some ⟨oc17, od17, .func (PySem.W.fnOf "_law_spots" "_law_spots" (defArgs s_law_spots) (defBody s_law_spots) (defScope s_law_spots) .none kV17 dc17 pm17 an17 cd17 ct17), sl17⟩)
    (c17 : PySem.W.codeIn K cd17 "_law_spots" = true)
    (k17 : PySem.W.keepIn K (.ref f17) = true)
    (a18 : PySem.W.nsIn K mainGlobals "law" = some (some (.ref f18)))
    (l18 : K.lookup f18 = some ⟨oc18, od18, .func (PySem.W.fnOf "law" "law" (defArgs slaw) (defBody slaw) (defScope slaw) .none kV18 dc18 pm18 an18 cd18 ct18), sl18⟩)
    (c18 : PySem.W.codeIn K cd18 "law" = true)
    (k18 : PySem.W.keepIn K (.ref f18) = true)
    (zdict : PySem.W.nsIn K mainGlobals "dict" = some none)
    (zlen : PySem.W.nsIn K mainGlobals "len" = some none)
    (zlist : PySem.W.nsIn K mainGlobals "list" = some none)
    (zrange : PySem.W.nsIn K mainGlobals "range" = some none)
    (zreversed : PySem.W.nsIn K mainGlobals "reversed" = some none)
    (ztuple : PySem.W.nsIn K mainGlobals "tuple" = some none)
    (yNAME : PySem.W.nsIn K mainGlobals "NAME" = some (some (.int 0 tNAME)))
    (yPARTS : PySem.W.nsIn K mainGlobals "PARTS" = some (some (.int 5 tPARTS)))
    : ∃ fd : FuncData, (∀ (s : Shared) (v : Value), BindsTo s fd ⟨[v], []⟩ [("_law_script", v)]) ∧ ∀ base : Heap, K.In base → base.Ns mainGlobals mg → FnOk l.prog w K mg base CX0 11 fa fd ["_law_script"] (spLaw K) := by
  have e := hfa.symm.trans (PySem.W.mg_of X G a18)
  cases e
  have T : Txt K mg := ⟨PySem.W.mg_none_of X G zdict, PySem.W.mg_none_of X G zlen, PySem.W.mg_none_of X G zlist, PySem.W.mg_none_of X G zrange, PySem.W.mg_none_of X G zreversed, PySem.W.mg_none_of X G ztuple, ⟨_, PySem.W.mg_of X G yNAME⟩, ⟨_, PySem.W.mg_of X G yPARTS⟩⟩
  have Dway_at := dfk_way l1 c1 k1 w1_0 (PySem.W.mg_of X G a1)
  have F2 := fun_mk (st := sway_around) l2 c2 k2
  have Dway_around : Df K mg "way_around" sway_around ["scene", "x", "y", "places", "missing"] := ⟨⟨_, _, F2, PySem.W.mg_of X G a2, F2.binds (ps := ["scene", "x", "y", "places", "missing"]) fun _ _ _ _ _ _ us hl => match us, hl with | [_, _, _, _, _], _ => rfl⟩⟩
  have Dcorners := dfk_corners l3 c3 k3 w3_0 (PySem.W.mg_of X G a3)
  have F4 := fun_mk (st := s_last_at) l4 c4 k4
  have D_last_at : Df K mg "_last_at" s_last_at ["parts", "x", "y", "missing"] := ⟨⟨_, _, F4, PySem.W.mg_of X G a4, F4.binds (ps := ["parts", "x", "y", "missing"]) fun _ _ _ _ _ _ us hl => match us, hl with | [_, _, _, _], _ => rfl⟩⟩
  have F5 := fun_mk (st := s_start_of_inner) l5 c5 k5
  have D_start_of_inner : Df K mg "_start_of_inner" s_start_of_inner ["part", "places"] := ⟨⟨_, _, F5, PySem.W.mg_of X G a5, F5.binds (ps := ["part", "places"]) fun _ _ _ _ _ _ us hl => match us, hl with | [_, _], _ => rfl⟩⟩
  have F6 := fun_mk (st := s_put_corners) l6 c6 k6
  have D_put_corners : Df K mg "_put_corners" s_put_corners ["found", "part", "start", "places"] := ⟨⟨_, _, F6, PySem.W.mg_of X G a6, F6.binds (ps := ["found", "part", "start", "places"]) fun _ _ _ _ _ _ us hl => match us, hl with | [_, _, _, _], _ => rfl⟩⟩
  have F7 := fun_mk (st := s_law_tape) l7 c7 k7
  have D_law_tape : Df K mg "_law_tape" s_law_tape ["_law_script"] := ⟨⟨_, _, F7, PySem.W.mg_of X G a7, F7.binds (ps := ["_law_script"]) fun _ _ _ _ _ _ us hl => match us, hl with | [_], _ => rfl⟩⟩
  have F8 := fun_mk (st := s_law_draw) l8 c8 k8
  have D_law_draw : Df K mg "_law_draw" s_law_draw ["_law_tape_here", "_law_many"] := ⟨⟨_, _, F8, PySem.W.mg_of X G a8, F8.binds (ps := ["_law_tape_here", "_law_many"]) fun _ _ _ _ _ _ us hl => match us, hl with | [_, _], _ => rfl⟩⟩
  have F9 := fun_mk (st := s_law_words) l9 c9 k9
  have D_law_words : Df K mg "_law_words" s_law_words ["_law_tape_here", "_law_many"] := ⟨⟨_, _, F9, PySem.W.mg_of X G a9, F9.binds (ps := ["_law_tape_here", "_law_many"]) fun _ _ _ _ _ _ us hl => match us, hl with | [_, _], _ => rfl⟩⟩
  have F10 := fun_mk (st := s_law_machine) l10 c10 k10
  have D_law_machine : Df K mg "_law_machine" s_law_machine ["_law_tape_here"] := ⟨⟨_, _, F10, PySem.W.mg_of X G a10, F10.binds (ps := ["_law_tape_here"]) fun _ _ _ _ _ _ us hl => match us, hl with | [_], _ => rfl⟩⟩
  have F11 := fun_mk (st := s_law_wish) l11 c11 k11
  have D_law_wish : Df K mg "_law_wish" s_law_wish ["_law_tape_here", "_law_label"] := ⟨⟨_, _, F11, PySem.W.mg_of X G a11, F11.binds (ps := ["_law_tape_here", "_law_label"]) fun _ _ _ _ _ _ us hl => match us, hl with | [_, _], _ => rfl⟩⟩
  have F12 := fun_mk (st := s_law_part) l12 c12 k12
  have D_law_part : Df K mg "_law_part" s_law_part ["_law_tape_here", "_law_box", "_law_room"] := ⟨⟨_, _, F12, PySem.W.mg_of X G a12, F12.binds (ps := ["_law_tape_here", "_law_box", "_law_room"]) fun _ _ _ _ _ _ us hl => match us, hl with | [_, _, _], _ => rfl⟩⟩
  have F13 := fun_mk (st := s_law_pairs) l13 c13 k13
  have D_law_pairs : Df K mg "_law_pairs" s_law_pairs ["_law_tape_here", "_law_labels"] := ⟨⟨_, _, F13, PySem.W.mg_of X G a13, F13.binds (ps := ["_law_tape_here", "_law_labels"]) fun _ _ _ _ _ _ us hl => match us, hl with | [_, _], _ => rfl⟩⟩
  have F14 := fun_mk (st := s_law_scene) l14 c14 k14
  have D_law_scene : Df K mg "_law_scene" s_law_scene ["_law_tape_here", "_law_many", "_law_labels"] := ⟨⟨_, _, F14, PySem.W.mg_of X G a14, F14.binds (ps := ["_law_tape_here", "_law_many", "_law_labels"]) fun _ _ _ _ _ _ us hl => match us, hl with | [_, _, _], _ => rfl⟩⟩
  have F15 := fun_mk (st := s_law_flat) l15 c15 k15
  have D_law_flat : Df K mg "_law_flat" s_law_flat ["_law_scene_here", "_law_spots_here"] := ⟨⟨_, _, F15, PySem.W.mg_of X G a15, F15.binds (ps := ["_law_scene_here", "_law_spots_here"]) fun _ _ _ _ _ _ us hl => match us, hl with | [_, _], _ => rfl⟩⟩
  have F16 := fun_mk (st := s_law_way) l16 c16 k16
  have D_law_way : Df K mg "_law_way" s_law_way ["_law_flat_here", "_law_x", "_law_y"] := ⟨⟨_, _, F16, PySem.W.mg_of X G a16, F16.binds (ps := ["_law_flat_here", "_law_x", "_law_y"]) fun _ _ _ _ _ _ us hl => match us, hl with | [_, _, _], _ => rfl⟩⟩
  have F17 := fun_mk (st := s_law_spots) l17 c17 k17
  have D_law_spots : Df K mg "_law_spots" s_law_spots ["_law_tape_here", "_law_scene_here"] := ⟨⟨_, _, F17, PySem.W.mg_of X G a17, F17.binds (ps := ["_law_tape_here", "_law_scene_here"]) fun _ _ _ _ _ _ us hl => match us, hl with | [_, _], _ => rfl⟩⟩
  have F18 := fun_mk (st := slaw) l18 c18 k18
  refine ⟨PySem.W.fnOf "law" "law" (defArgs slaw) (defBody slaw) (defScope slaw) .none kV18 dc18 pm18 an18 cd18 ct18, fun s v => .of_eq rfl, fun base _ _ => ?_⟩
  have Flaw := F18
  have draw := ok_draw (P := l.prog) (w := w) (base := base) D_law_draw T
  have start := ok_start (P := l.prog) (w := w) (base := base) D_start_of_inner T
  have flat := ok_flat (P := l.prog) (w := w) (base := base) D_law_flat T
  have wayK := ok_way Dway_at T (ok_around Dway_around T (ok_last D_last_at T) start)
  have corK := ok_corners Dcorners T (ok_put D_put_corners T start 6)
  have part := all_part (P := l.prog) (w := w) (base := base) D_law_part T draw (ok_wish D_law_wish T draw (ok_machine D_law_machine T draw)) 5
  have scene := ok_scene D_law_scene T draw (ok_words D_law_words T draw) part (ok_pairs D_law_pairs T draw)
  exact ok_law Flaw T (ok_tape D_law_tape T) draw scene (ok_spots D_law_spots T draw flat) flat (ok_lway D_law_way T) wayK.1 wayK.2 corK.1 corK.2
theorem walk {l : PySem.W.OpenLaw} {q : Program} {loose : List Str} {XP : (Str → Option Value) → Heap → Prop} {YP : World → Heap → Prop} {d : DefRec} {K : Params → PySem.W.Frag} (hn : l.most = some 63) (hdf : d.params.defaults = [])
    (hY : ∀ (w : World) (h : Heap), YP w h → (K w.params).In h)
    (F : ∀ (w : World) (mg : Str → Option Value) (fa : Addr) (h : Heap), (K w.params).In h → h.Ns mainGlobals mg → mg d.name = some (.ref fa) →
      ∃ fd : FuncData, (∀ (s : Shared) (u : Value), BindsTo s fd ⟨[u], []⟩ [("_law_script", u)]) ∧ ∀ base : Heap, (K w.params).In base → base.Ns mainGlobals mg → FnOk l.prog w (K w.params) mg base CX0 11 fa fd ["_law_script"] (spLaw (K w.params))) :
    PySem.W.WalkO q loose XP YP l.row.toRowW d [] (fun f vs => PySem.call f vs) :=
  L2.walk_of (n := 63) (k := 11) (x := "_law_script") (CX := fun _ => CX0) (sp := fun w => spLaw (K w.params)) hn (by decide) hdf ⟨rfl, by decide, by decide⟩ hY F (fun _ _ a ns hl _ hS => ⟨a, ns, rfl, hS, hl, fun _ => rfl⟩) fun _ _ _ _ _ z => z
end SG
open PySem PySem.W PyProof.Rows
set_option maxRecDepth 100000 in
set_option maxHeartbeats 0 in
theorem PySem.Challenge.cw_strokeguess_k03_ways_and_corners_holds : PySem.Challenge.rw_strokeguess_k03_ways_and_corners.Holds := by
  w_on; o_law; k_head; (case hw => w_witness2)
  k_fill
  refine SG.walk (l := PySem.Challenge.rw_strokeguess_k03_ways_and_corners) rfl rfl (fun w h Y => PySem.W.kIn_of Y) ?F
  case F =>
    intro w mg fa h KX G hmg
    refine' SG.all_mk KX G hmg ?a1 ?l1 ?c1 ?k1 ?w1_0 ?a2 ?l2 ?c2 ?k2 ?a3 ?l3 ?c3 ?k3 ?w3_0 ?a4 ?l4 ?c4 ?k4 ?a5 ?l5 ?c5 ?k5 ?a6 ?l6 ?c6 ?k6 ?a7 ?l7 ?c7 ?k7 ?a8 ?l8 ?c8 ?k8 ?a9 ?l9 ?c9 ?k9 ?a10 ?l10 ?c10 ?k10 ?a11 ?l11 ?c11 ?k11 ?a12 ?l12 ?c12 ?k12 ?a13 ?l13 ?c13 ?k13 ?a14 ?l14 ?c14 ?k14 ?a15 ?l15 ?c15 ?k15 ?a16 ?l16 ?c16 ?k16 ?a17 ?l17 ?c17 ?k17 ?a18 ?l18 ?c18 ?k18 ?zdict ?zlen ?zlist ?zrange ?zreversed ?ztuple ?yNAME ?yPARTS
    (case a1 => k_is)
    (case l1 => k_is)
    (case c1 => k_is)
    (case k1 => k_is)
    (case w1_0 => k_is)
    (case a2 => k_is)
    (case l2 => k_is)
    (case c2 => k_is)
    (case k2 => k_is)
    (case a3 => k_is)
    (case l3 => k_is)
    (case c3 => k_is)
    (case k3 => k_is)
    (case w3_0 => k_is)
    (case a4 => k_is)
    (case l4 => k_is)
    (case c4 => k_is)
    (case k4 => k_is)
    (case a5 => k_is)
    (case l5 => k_is)
    (case c5 => k_is)
    (case k5 => k_is)
    (case a6 => k_is)
    (case l6 => k_is)
    (case c6 => k_is)
    (case k6 => k_is)
    (case a7 => k_is)
    (case l7 => k_is)
    (case c7 => k_is)
    (case k7 => k_is)
    (case a8 => k_is)
    (case l8 => k_is)
    (case c8 => k_is)
    (case k8 => k_is)
    (case a9 => k_is)
    (case l9 => k_is)
    (case c9 => k_is)
    (case k9 => k_is)
    (case a10 => k_is)
    (case l10 => k_is)
    (case c10 => k_is)
    (case k10 => k_is)
    (case a11 => k_is)
    (case l11 => k_is)
    (case c11 => k_is)
    (case k11 => k_is)
    (case a12 => k_is)
    (case l12 => k_is)
    (case c12 => k_is)
    (case k12 => k_is)
    (case a13 => k_is)
    (case l13 => k_is)
    (case c13 => k_is)
    (case k13 => k_is)
    (case a14 => k_is)
    (case l14 => k_is)
    (case c14 => k_is)
    (case k14 => k_is)
    (case a15 => k_is)
    (case l15 => k_is)
    (case c15 => k_is)
    (case k15 => k_is)
    (case a16 => k_is)
    (case l16 => k_is)
    (case c16 => k_is)
    (case k16 => k_is)
    (case a17 => k_is)
    (case l17 => k_is)
    (case c17 => k_is)
    (case k17 => k_is)
    (case a18 => k_is)
    (case l18 => k_is)
    (case c18 => k_is)
    (case k18 => k_is)
    (case zdict => k_is)
    (case zlen => k_is)
    (case zlist => k_is)
    (case zrange => k_is)
    (case zreversed => k_is)
    (case ztuple => k_is)
    (case yNAME => k_is)
    (case yPARTS => k_is)
