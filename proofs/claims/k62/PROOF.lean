import PyProof.Rows.All
import Wide.All
import OpenK.AllK
import Wide.FinOn
import HandS.ForMost
import HandS.Flow
import HandS.Conv
import HandS.More
import HandS.Codes
import KE.DataEq
import HandS.IsInst
import PyProof.Rows.SetFrom
import HandS.Strs
import HandS.Set
import PyProof.ReprRoads
import HandS.Ends
import HandS.Words
import KE.DataIsa
import KE.KDictPairs
import HandS.Dict
import HandS.TupAny
import KE.KRevSl
import HandS.Small
import HandS.Iter
import HandS.RaiseMore
import HandS.Rev
import HandS.RevTup
import HandS.Defaults
import HandS.DictComp
import HandS.Star
import HandS.Zip
import PyProof.SumAny
import HandS.TryOnly
import PyProof.StrLawsRepr
import PyProof.Rows.StrJoinMade
import PyProof.Rows.ReprOcc
import KE.KxText
import PySem.Challenge.RW_strokeguess_k62_plain_touches
set_option Elab.async false
set_option maxRecDepth 100000
set_option linter.all false
/-! Strokeguess: what all our proofs share: a def's contract as one fact (Cl), frames (Fr), new objects. -/
namespace SG
open PySem PySem.Spec PyProof.Rows L2

/-! ### a def of the module, by its contract -/
structure Cl (P : Program) (w : World) (K : PySem.W.Frag) (mg : Str → Option Value) (base : Heap) (k : Nat) (x : Str) (sp : Sp) : Prop where
  ex : ∃ (f : Addr) (fd : FuncData) (ps : List Str), FnOk P w K mg base CX0 k f fd ps sp ∧ mg x = some (.ref f) ∧ PySem.W.keepIn K (.ref f) = true ∧ Binds K fd ps []
/-- a def as the top has left it -/
structure Df (K : PySem.W.Frag) (mg : Str → Option Value) (x : Str) (st : Stmt) (ps : List Str) : Prop where
  ex : ∃ (f : Addr) (fd : FuncData), Fun K x x st f fd ∧ mg x = some (.ref f) ∧ Binds K fd ps []
section
variable {P : Program} {w : World} {K : PySem.W.Frag} {mg : Str → Option Value} {base : Heap}
theorem Cl.mono {j k : Nat} {x : Str} {sp : Sp} (c : Cl P w K mg base j x sp) (h : j ≤ k) : Cl P w K mg base k x sp := by
  obtain ⟨f, fd, ps, F, m, kp, b⟩ := c.ex
  exact ⟨f, fd, ps, F.mono h, m, kp, b⟩
theorem Cl.imp {k : Nat} {x : Str} {sp sp' : Sp} (c : Cl P w K mg base k x sp) (h : ∀ vs H Q E, sp' vs H Q E → sp vs H Q E) : Cl P w K mg base k x sp' := by
  obtain ⟨f, fd, ps, F, m, kp, b⟩ := c.ex
  exact ⟨f, fd, ps, F.imp h, m, kp, b⟩
theorem Df.ok {x : Str} {st : Stmt} {N ps : List Str} {k : Nat} {sp : Sp} (D : Df K mg x st ps) (S : FnScope N ps (defScope st)) (len : ∀ vs H Q E, sp vs H Q E → vs.length = ps.length)
    (hbody : ∀ (f : Addr) (cdv : Value) (A : Around) (outer : List Env) (s : Shared) (H : Hp) (vs : List V) (Q : VK) (E : XK), Room k (A.deeper (envOfC x (defScope st) s.heap.objs.size f cdv)) → sp vs H Q E →
      ∃ t, PSs (cxOf CX0 P w K mg base N x (defScope st) f cdv A outer s H E).nox (defBody st) t ∧ t { nx := fun _ H' => Q .non H', rt := Q } (start N vs) H) : Cl P w K mg base (k + 1) x sp := by
  obtain ⟨f, fd, F, m, b⟩ := D.ex
  exact ⟨f, fd, ps, F.ok S len (fun cdv A outer s H vs Q E hr h => hbody f cdv A outer s H vs Q E hr h), m, F.kp, b⟩
/-- no call left: nothing can be asked -/
theorem Df.none {x : Str} {st : Stmt} {ps : List Str} {sp : Sp} (D : Df K mg x st ps) (no : ∀ vs H Q E, ¬ sp vs H Q E) : Cl P w K mg base 0 x sp := by
  obtain ⟨f, fd, F, m, b⟩ := D.ex
  exact ⟨f, fd, ps, ⟨fun vs H Q E h => absurd h (no vs H Q E), fun A outer s H args us vs Q E _ _ _ _ h => absurd h (no vs H Q E)⟩, m, F.kp, b⟩
end
section
variable {X : Cx} {k : Nat} {x : Str} {sp : Sp} {e : Expr} {es : List Expr} {t : TA} {p pos : Pos}
theorem pe_cl (c : Cl X.prog X.w X.K X.mg X.base k x sp) (hr : Room k X.A) (hg : Gl X x) (ha : PA X (e :: es) t)
    (hdb : (x == ("__debug__" : Str)) = false := by decide) (he : starEach (e :: es) X.env = (false, eval e X.env) :: starEach es X.env := by rfl) (hpl : (backTo pos (starEach es X.env)).any (·.1) = false := by rfl) :
    PE X (.Call (.Name x p) (e :: es) [] pos) (tCall sp [] E0 t) := by
  obtain ⟨f, fd, ps, F, hm, kp, b⟩ := c.ex
  exact pe_call F hr hg hm kp b .nil pass0 ha hdb he hpl
end
/-! ### heaps -/
/-- all but the objects of S are as they were -/
def Fr (S : List Addr) (H H' : Hp) : Prop := ∀ b o, H b = some o → b ∉ S → H' b = some o
/-- tuples never change -/
def Tp (H H' : Hp) : Prop := ∀ b xs, H b = some (.tup xs) → H' b = some (.tup xs)
theorem Fr.refl (S : List Addr) (H : Hp) : Fr S H H := fun _ _ h _ => h
theorem Fr.trans {S : List Addr} {H H1 H2 : Hp} (a : Fr S H H1) (b : Fr S H1 H2) : Fr S H H2 := fun c o h n => b c o (a c o h n) n
theorem Fr.mono {S S' : List Addr} {H H1 : Hp} (a : Fr S H H1) (h : ∀ x ∈ S, x ∈ S') : Fr S' H H1 := fun c o e n => a c o e fun m => n (h c m)
theorem Fr.new {S : List Addr} {H : Hp} {p : Addr} {o : HO} (h : H p = none) : Fr S H (upd H p o) := fun b u e _ => by
  rw [upd_ne (ne_of_none e h)]
  exact e
theorem Fr.put {S : List Addr} {H : Hp} {p : Addr} {o : HO} (h : p ∈ S) : Fr S H (upd H p o) := fun b u e n => by
  rw [upd_ne (fun z => n (by rw [z]; exact h))]
  exact e
theorem Fr.same {H H' : Hp} (h : Same H H') (S : List Addr) : Fr S H H' := fun b o e _ => h b o e
theorem Fr.nil {H H' : Hp} (h : Fr [] H H') : Same H H' := fun b o e => h b o e (by simp)
theorem Tp.refl (H : Hp) : Tp H H := fun _ _ h => h
theorem Tp.trans {H H1 H2 : Hp} (a : Tp H H1) (b : Tp H1 H2) : Tp H H2 := fun c o h => b c o (a c o h)
theorem Tp.new {H : Hp} {p : Addr} {o : HO} (h : H p = none) : Tp H (upd H p o) := fun b u e => by
  rw [upd_ne (ne_of_none e h)]
  exact e
theorem Tp.same {H H' : Hp} (h : Same H H') : Tp H H' := fun b _ e => h b _ e
theorem same_new {H : Hp} {p : Addr} {o : HO} (h : H p = none) : Same H (upd H p o) := fun b u e => by
  rw [upd_ne (ne_of_none e h)]
  exact e
/-- a new object, told by what is known of it -/
theorem alloc {H : Hp} {o : HO} {Q : Addr → Hp → Prop} (k : ∀ p H', H p = none → H' p = some o → Same H H' → (∀ q, q ≠ p → H' q = H q) → Q p H') : ∀ p, H p = none → Q p (upd H p o) :=
  fun p hp => k p _ hp upd_same (same_new hp) fun _ h => upd_ne h
theorem Same.tup {K : PySem.W.Frag} {H H' : Hp} {a : Addr} {xs : List V} (e : Same H H') (h : SqT K H a xs) : SqT K H' a xs := by
  rcases h with (h | ⟨o, h⟩) | h
  · exact .inl (.inl (e _ _ h))
  · exact .inl (.inr ⟨o, e _ _ h⟩)
  · exact .inr h
end SG
namespace SG
open PySem PySem.Spec PyProof.Rows L2
section
variable {X : Cx}
/-- == and != of data without dicts, any texts -/
def rEqP (K : PySem.W.Frag) : R2 := fun x y H Q => ∃ d e, Dp K H x d ∧ Dp K H y e ∧ PyData.plain d = true ∧ PyData.plain e = true ∧ min d.depth e.depth ≤ 64 ∧ Q (.bl (PyData.eqv d e)) H
def rNeP (K : PySem.W.Frag) : R2 := fun x y H Q => ∃ d e, Dp K H x d ∧ Dp K H y e ∧ PyData.plain d = true ∧ PyData.plain e = true ∧ min d.depth e.depth ≤ 64 ∧ Q (.bl (!PyData.eqv d e)) H
theorem op_eqP (hu : X.A.units + 64 < cLine) : OpR X (compareOp .Eq) (rEqP X.K) := by
  intro pins s σ H x y v u Q I rx ry h
  obtain ⟨d, e, hd, he, sd, se, hm, q⟩ := h
  obtain ⟨as, r1⟩ := Dp.reads I d x v hd rx
  obtain ⟨bs, r2⟩ := Dp.reads I e y u he ry
  exact SeqAt.eq_plain r1 r2 sd se (by omega) ⟨.bl _, H, I, rfl, q⟩
theorem op_neP (hu : X.A.units + 64 < cLine) : OpR X (compareOp .NotEq) (rNeP X.K) := by
  intro pins s σ H x y v u Q I rx ry h
  obtain ⟨d, e, hd, he, sd, se, hm, q⟩ := h
  obtain ⟨as, r1⟩ := Dp.reads I d x v hd rx
  obtain ⟨bs, r2⟩ := Dp.reads I e y u he ry
  exact SeqAt.ne_plain r1 r2 sd se (by omega) ⟨.bl _, H, I, rfl, q⟩
end
/-! ### powers of any base -/
def CPowG (i j : Int) : Prop := 0 ≤ j ∧ (Builtin.Int.intBits i : Int) * j ≤ 2 ^ 27
theorem op_powG {X : Cx} : OpR X (binaryOp .Pow) (rI CPowG fun i j => .int (i ^ j.toNat)) := opI fun _ _ _ _ _ _ _ hc q => pow_int hc.1 hc.2 q
/-! ### data made of tuples alone: it never changes -/
mutual
inductive Im (H : Hp) : V → PyData → Prop
  | non : Im H .non .none
  | bl (b : Bool) : Im H (.bl b) (.bool b)
  | int (i : Int) : Im H (.int i) (.int i)
  | str (x : Str) : Im H (.str x) (.str x)
  | tup {a : Addr} {xs : List V} {ds : List PyData} : H a = some (.tup xs) → ImAll H xs ds → Im H (.ref a) (.tuple ds)
inductive ImAll (H : Hp) : List V → List PyData → Prop
  | nil : ImAll H [] []
  | cons {v : V} {vs : List V} {d : PyData} {ds : List PyData} : Im H v d → ImAll H vs ds → ImAll H (v :: vs) (d :: ds)
end
mutual
theorem Im.dp {K : PySem.W.Frag} {H : Hp} : ∀ {d : PyData} {v : V}, Im H v d → Dp K H v d
  | .none, _, h => by cases h; exact .non
  | .bool _, _, h => by cases h; exact .bl _
  | .int _, _, h => by cases h; exact .int _
  | .str _, _, h => by cases h; exact .str _
  | .tuple _, _, h => by
    cases h with
    | tup a b => exact .tup (SqT.of a) (ImAll.dp b)
  | .list _, _, h => by cases h
  | .dict _, _, h => by cases h
theorem ImAll.dp {K : PySem.W.Frag} {H : Hp} : ∀ {ds : List PyData} {vs : List V}, ImAll H vs ds → DpAll K H vs ds
  | [], _, h => by cases h; exact .nil
  | _ :: _, _, h => by
    cases h with
    | cons a b => exact .cons (Im.dp a) (ImAll.dp b)
end
mutual
theorem Im.tp {H H' : Hp} (t : Tp H H') : ∀ {d : PyData} {v : V}, Im H v d → Im H' v d
  | .none, _, h => by cases h; exact .non
  | .bool _, _, h => by cases h; exact .bl _
  | .int _, _, h => by cases h; exact .int _
  | .str _, _, h => by cases h; exact .str _
  | .tuple _, _, h => by
    cases h with
    | tup a b => exact .tup (t _ _ a) (ImAll.tp t b)
  | .list _, _, h => by cases h
  | .dict _, _, h => by cases h
theorem ImAll.tp {H H' : Hp} (t : Tp H H') : ∀ {ds : List PyData} {vs : List V}, ImAll H vs ds → ImAll H' vs ds
  | [], _, h => by cases h; exact .nil
  | _ :: _, _, h => by
    cases h with
    | cons a b => exact .cons (Im.tp t a) (ImAll.tp t b)
end
theorem Im.plain {H : Hp} : ∀ {d : PyData} {v : V}, Im H v d → d.plain = true := by
  intro d v h
  induction h using Im.rec (motive_2 := fun vs ds _ => PyData.plainAll ds = true) with
  | non => rfl
  | bl => rfl
  | int => rfl
  | str => rfl
  | tup _ _ ih => exact ih
  | nil => rfl
  | cons _ _ a b =>
    show (PyData.plain _ && PyData.plainAll _) = true
    rw [a, b]; rfl
end SG
namespace SG
open PySem PySem.Spec PyProof.Rows L2
theorem upd_is {H H' : Hp} {p : Addr} {o : HO} (e : upd H p o = H') : H' p = some o := by
  rw [← e]
  exact upd_same
theorem same_is {H H' : Hp} {p : Addr} {o : HO} (e : upd H p o = H') (h : H p = none) : Same H H' := by
  rw [← e]
  exact same_new h
end SG
namespace SG
open PySem PySem.Spec PyProof.Rows L2
section
variable {X : Cx}
/-- != of any list and an empty one -/
def rNeNil (K : PySem.W.Frag) : R2 := fun x y H Q => ∃ (a b : Addr) (xs : List V), x = .ref a ∧ y = .ref b ∧ SqL K H a xs ∧ SqL K H b [] ∧ Q (.bl (!xs.isEmpty)) H
theorem op_neNil (hu : X.A.units + 64 < cLine) : OpR X (compareOp .NotEq) (rNeNil X.K) := by
  intro pins s σ H x y v u Q I rx ry h
  obtain ⟨a, b, xs, rfl, rfl, ha, hb, q⟩ := h
  cases (show v = Value.ref a from rx)
  cases (show u = Value.ref b from ry)
  obtain ⟨us, r1, p1, _⟩ := I.list ha
  obtain ⟨ws, r2, p2, _⟩ := I.list hb
  have e2 : ws = [] := by cases r2; rfl
  subst e2
  have hu' : X.A.units < cLine := by omega
  cases xs with
  | nil =>
    have e1 : us = [] := by cases r1; rfl
    subst e1
    have z := SeqAt.RcNeAt.lists (A := X.A) (s := s) (e := fun _ => true) p1.isList p2.isList rfl hu' (fun j j1 _ => absurd j1 (Nat.not_lt_zero j))
    exact z X.prog X.w _ _ ⟨.bl false, H, I, rfl, q⟩
  | cons x r =>
    have hsz : ¬ us.toArray.size = ([] : List Value).toArray.size := by
      cases r1 with
      | cons => simp
    have z := SeqAt.RcNeAt.lists_lengths (A := X.A) (s := s) p1.isList p2.isList (by simpa using hsz) hu'
    exact z X.prog X.w _ _ ⟨.bl true, H, I, rfl, q⟩
end
end SG
namespace SG
open PySem PySem.Spec PyProof.Rows L2
/-! ### sets of texts: how many -/
/-- the first i of xs, each once -/
def seen (xs : List Str) (i : Nat) : List Str := (xs.take i).foldl step_dedup []
theorem seen_succ {xs : List Str} {i : Nat} {x : Str} (h : xs[i]? = some x) : seen xs (i + 1) = step_dedup (seen xs i) x := by
  obtain ⟨hi, e⟩ := List.getElem?_eq_some_iff.mp h
  unfold seen
  rw [List.take_succ_eq_append_getElem hi, List.foldl_append, e]
  rfl
theorem dedup_any (σ : List Str) (v k : Str) : (step_dedup σ v).any (· == k) = (σ.any (· == k) || decide (k = v)) := by
  unfold step_dedup
  by_cases hv : σ.any (· == v) = true
  · rw [if_pos hv]
    by_cases e : k = v
    · subst e; simp [hv]
    · simp [e]
  · rw [if_neg hv, List.any_append]
    by_cases e : k = v
    · subst e; simp
    · simp [e, Ne.symm e]
theorem dedup_len (σ : List Str) (v : Str) : (step_dedup σ v).length = if σ.any (· == v) = true then σ.length else σ.length + 1 := by
  unfold step_dedup
  split <;> simp
theorem seen_le (xs : List Str) (i : Nat) : (seen xs i).length ≤ i := Nat.le_trans (foldl_step_dedup_nil_length_le _) (by rw [List.length_take]; omega)
section
variable {prog : Program} {w : World} {A : Around}
/-- the walk of set.update over texts: after i of them the set is that of the first i -/
theorem strs_into {R : Result → Shared → Prop} {I : Addr} {fp wr : List Addr} {G : Array GenState → Array GenState → Prop} {n : Nat} {P : Nat → Value → Prop} {St : Nat → Shared → Prop}
    (W : WalksS prog w A.in1 I fp wr G n P St) (S : Addr) (out : S ∉ fp) (xs : List Str) (hn : xs.length = n) (few : n + 1 < scanBound) (val : ∀ (i : Nat) (v : Value), P i v → ∃ x t, xs[i]? = some x ∧ v = Value.str x t) :
    ∀ (left i : Nat) (s : Shared), i + left = n → St i s → s.heap.SetOf (PySem.strKind prog w) S (fun k => (seen xs i).any (· == k)) (seen xs i).length →
      (∀ s2, Moved (S :: wr) G s s2 → s2.heap.SetOf (PySem.strKind prog w) S (fun k => (seen xs n).any (· == k)) (seen xs n).length → R (.ok (.ret .none)) s2) →
      codeAny (model prog w) A (.builtin "set.update.loop" ⟨[.ref S, .ref I], []⟩) R s
  | 0, i, s, e, st, hS, fin => by
    obtain rfl : i = n := by omega
    refine codeAny_builtin PyProof.Rows.F.entry_set_update_loop ?_
    rw [Around.under_plainId PyProof.Rows.F.plain_set_update_loop _]
    refine wpAny_bind (W.done s _ _ st fun s2 mv => wpAny_pure (fin s2 (mv.mono fun b hb => List.mem_cons_of_mem _ hb) ?_))
    obtain ⟨o, es, ep, tb, ho, more⟩ := hS
    exact ⟨o, es, ep, tb, mv.heap S _ (fun z => out (W.sub _ z)) ho, more⟩
  | left + 1, i, s, e, st, hS, fin => by
    refine codeAny_builtin PyProof.Rows.F.entry_set_update_loop ?_
    rw [Around.under_plainId PyProof.Rows.F.plain_set_update_loop _]
    refine wpAny_bind (W.item i s _ _ (by omega) st fun v s2 hv st2 mv => ?_)
    obtain ⟨x, t, hx, rfl⟩ := val i v hv
    have hS2 : s2.heap.SetOf (PySem.strKind prog w) S (fun k => (seen xs i).any (· == k)) (seen xs i).length := by
      obtain ⟨o, es, ep, tb, ho, more⟩ := hS
      exact ⟨o, es, ep, tb, mv.heap S _ (fun z => out (W.sub _ z)) ho, more⟩
    refine wpAny_bind (wpAny_holding ?_)
    unfold setAdd
    refine wpAny_holding (wpAny_bind ((PySem.strKind prog w).pyHash (k := x) (strKind_is _ _ _ _) ?_))
    have room := seen_le xs i
    refine wpAny_setAddHashed_of (knd := PySem.strKind prog w) (s := { s2 with toks := s2.toks + 1 }) (strKind_is _ _ _ _) rfl hS2 (by omega) fun h3 but hS3 => ?_
    have hS4 : h3.SetOf (PySem.strKind prog w) S (fun k => (seen xs (i + 1)).any (· == k)) (seen xs (i + 1)).length :=
      PyProof.Rows.SetOf_congr hS3 (fun k => by rw [seen_succ hx, dedup_any]) (by rw [seen_succ hx, dedup_len])
    refine wpAny_pure ⟨plainId_quiet PyProof.Rows.F.plain_set_update_loop _, strs_into W S out xs hn few val left (i + 1) _ (by omega) (W.frame _ s2 _ _ st2 (Nat.le_succ _) fun b hb o q => ?_) hS4 fun s5 mv5 hS5 => fin s5 (Moved.trans W.gtrans ((mv.mono fun b hb => List.mem_cons_of_mem _ hb).then_heap (Nat.le_succ _) fun b o hb q => ?_) mv5) hS5⟩
    · rw [but.2 b (fun z : b = S => out (by rw [← z]; exact hb))]
      exact q
    · rw [but.2 b (fun z : b = S => hb (by rw [z]; exact List.mem_cons_self))]
      exact q
set_option maxHeartbeats 3200000 in
/-- set(xs), xs a list of texts -/
theorem set_of_strs {E : Value → Shared → Prop} {s : Shared} {l : Addr} {items : Array Value} {xs : List Str} {Q : Value → Shared → Prop} (calm : A.handled = none) (hl : s.heap.IsList l items) (hi : PyProof.Rows.StrsAre items.toList xs) (few : xs.length + 1 < scanBound)
    (k : ∀ (h2 : Heap) (tk : Nat), h2.SetOf (PySem.strKind prog w) s.heap.objs.size (fun j => (seen xs xs.length).any (· == j)) (seen xs xs.length).length →
      (∀ b o, b < s.heap.objs.size → s.heap.get? b = some o → h2.get? b = some o) → Q (.ref s.heap.objs.size) { s with heap := h2, toks := tk }) : wpAny (model prog w) A (call (.type "set") [.ref l]) Q E s := by
  have nx : xs.length = items.size := by rw [← StrsAre.len_eq hi, Array.length_toList]
  obtain ⟨_, _, hmro⟩ := PySem.F.called_set.mro
  have hmade := PySem.F.called_set.made; have hsub := PySem.F.called_set.sub
  refine wpAny_call (codeAny_of_tree (show wpAny _ _ (callAny (.type "set") _) _ _ _ from wpAny_pure ⟨Code.quiet_builtin _ (by decide +kernel), codeAny_builtin PySem.F.entry_type_call ?_⟩))
  rw [Around.under_plain (weight_type_call_type "set" [.ref l] []) rfl]
  have h1 := PySem.F.called_set.notType; have h2 := PySem.F.called_set.canCreate; have h3 := PySem.F.typeCall_set_1 (.ref l)
  repeat (any_goals (first | assumption | wp_step))
  refine codeAny_mono (code_set_new_1 (.ref l) (E := E) (Q₁ := fun ob s2 => ∃ led : Bool, ob = .ref s.heap.objs.size ∧ s2 = { s with heap := s.heap.push { cls := .type "set", dict := none, data := .set #[] 0 (.fresh 0 0 led) } }) fun led => ⟨led, rfl, rfl⟩) fun r s2 hr => ?_
  match r, hr with
  | .error e, hr => exact hr
  | .ok .next, hr => exact hr.elim
  | .ok .brk, hr => exact hr.elim
  | .ok .cont, hr => exact hr.elim
  | .ok (.ret ob), ⟨led, e1, e2⟩ =>
  subst e1; subst e2
  have hS : (s.heap.push { cls := .type "set", dict := none, data := .set #[] 0 (.fresh 0 0 led) }).get? s.heap.objs.size = some { cls := .type "set", dict := none, data := .set #[] 0 (.fresh 0 0 led) } := Heap.get?_push_size _ rfl
  have hT : Shared.TypeIs { s with heap := s.heap.push { cls := .type "set", dict := none, data := .set #[] 0 (.fresh 0 0 led) } } (.ref s.heap.objs.size) "set" := ⟨_, hS, rfl⟩
  have h4 := PySem.F.called_set.init.lookup; have h5 := PySem.F.called_set.init.bind (.ref s.heap.objs.size)
  repeat (any_goals (first | assumption | wp_step))
  refine codeAny_mono (codeAny_call_builtin (R := wants (fun r s3 => r = .none ∧ ∃ h2 tk, s3 = { s with heap := h2, toks := tk } ∧ h2.SetOf (PySem.strKind prog w) s.heap.objs.size (fun j => (seen xs xs.length).any (· == j)) (seen xs xs.length).length ∧
    (∀ b o, b < s.heap.objs.size → s.heap.get? b = some o → h2.get? b = some o)) E) PySem.F.called_set.init.plain PySem.F.entry_set_init (check_set_init_1 hT ?_)) fun r s3 hr => ?_
  · obtain ⟨⟨ocls, odict, odata, oslots⟩, hol, hcl, nl, hdl⟩ := hl
    simp only at hcl hdl
    subst hcl; subst hdl
    have hol2 : (s.heap.push { cls := .type "set", dict := none, data := .set #[] 0 (.fresh 0 0 led) }).get? l = some { cls := .type "list", dict := odict, data := .seq items nl, slots := oslots } := Heap.get?_push_of_some _ hol
    have a1 := PySem.F.sub_list_set; have a2 := PySem.F.sub_list_frozenset; have a3 : (Value.type "list" == Value.type "dict") = false := by decide
    have hl2 : (s.heap.push { cls := .type "set", dict := none, data := .set #[] 0 (.fresh 0 0 led) }).IsList l items := ⟨_, hol2, rfl, nl, rfl⟩
    unfold Builtin.«set.__init__» noKeywords Builtin.Frozenset.updateFrom
    generalize hPI : pyIter = PI
    wp_walk
    subst hPI
    refine wpAny_pyIter_list hl2 (wpAny_bind (wpAny_runValue ?_))
    have lS : l < s.heap.objs.size := Heap.lt_size hol
    have calm3 : A.in1.in1.in1.handled = none := by simp [calm]
    have ne1 : l ≠ (s.heap.push { cls := .type "set", dict := none, data := .set #[] 0 (.fresh 0 0 led) }).objs.size := by
      rw [Heap.size_push]; exact Nat.ne_of_lt (Nat.lt_succ_of_lt lS)
    have ne2 : s.heap.objs.size ∉ [(s.heap.push { cls := .type "set", dict := none, data := .set #[] 0 (.fresh 0 0 led) }).objs.size, l] := by
      rw [Heap.size_push]
      simp only [List.mem_cons, List.not_mem_nil, or_false, not_or]
      exact ⟨Nat.ne_of_lt (Nat.lt_succ_self _), Nat.ne_of_gt lS⟩
    refine strs_into ((Walks.list calm3 _ l ne1 items).toS) s.heap.objs.size ne2 xs nx (by omega) (fun i v hv => ?_) items.size 0 _ (by omega) ⟨⟨_, Heap.get?_push_size _ rfl, rfl, rfl⟩, (hl2.push _)⟩ ?first ?last
    · have hv' : items[i]? = some v := hv
      obtain ⟨t, e⟩ := SS.strs_at hi i v (by rw [Array.getElem?_toList]; exact hv')
      have il : i < xs.length := by rw [nx]; exact (Array.getElem?_eq_some_iff.mp hv').1
      exact ⟨xs[i], t, List.getElem?_eq_getElem il, by rw [e]; simp [List.getD, List.getElem?_eq_getElem il]⟩
    case first =>
      have g : ((s.heap.push { cls := .type "set", dict := none, data := .set #[] 0 (.fresh 0 0 led) }).push { cls := .type "list_iterator", data := .fields #[.ref l, .int 0 0] }).get? s.heap.objs.size = some { cls := .type "set", dict := none, data := .set #[] 0 (.fresh 0 0 led) } := Heap.get?_push_of_some _ hS
      exact PyProof.Rows.SetOf_congr ((PyProof.Rows.setObjOf_fresh (knd := PySem.strKind prog w) led).setOf g (by unfold scanBound; omega)) (fun _ => rfl) rfl
    case last =>
      intro s4 mv hS4
      obtain ⟨h6, g6, d6, tk6, os6⟩ := s4
      obtain rfl : g6 = s.gens := mv.gens
      obtain rfl : d6 = s.drawn := mv.drawn
      obtain rfl : os6 = s.os := mv.os
      refine wpAny_pure (show wpAny _ _ (ret Value.none) _ _ _ from wpAny_pure ⟨rfl, h6, tk6, rfl, by rw [nx]; exact hS4, fun b o hb q => ?_⟩)
      refine mv.heap b o ?_ (Heap.get?_push_of_some _ (Heap.get?_push_of_some _ q))
      rw [Heap.size_push]
      simp only [List.mem_cons, List.not_mem_nil, or_false, not_or]
      exact ⟨Nat.ne_of_lt hb, Nat.ne_of_lt (Nat.lt_succ_of_lt hb)⟩
  · match r, hr with
    | .error e, hr => exact hr
    | .ok .next, hr => exact hr.elim
    | .ok .brk, hr => exact hr.elim
    | .ok .cont, hr => exact hr.elim
    | .ok (.ret r), ⟨e1, h6, tk6, e2, hS6, hk6⟩ =>
    subst e1; subst e2
    repeat (any_goals (first | assumption | wp_step))
    exact k _ _ hS6 hk6
end
section
variable {X : Cx}
/-- len(set(xs)), xs a list of texts -/
def tLenSetT (K : PySem.W.Frag) (ta : TE) : TE := fun σ H Q => ta σ H fun x H1 => ∃ (l : Addr) (xs : List Str), x = .ref l ∧ SqL K H1 l (xs.map V.str) ∧ xs.length ≤ 4000 ∧ Q (.int ((seen xs xs.length).length : Nat)) H1
theorem pe_lenSetT {a : Expr} {ta : TE} {p p2 q pos : Pos} (calm : X.calm = true) (g1 : Gl X "len") (m1 : X.mg "len" = none) (g2 : Gl X "set") (m2 : X.mg "set" = none) (ha : PE X a ta)
    (na : starEach [a] X.env = (false, eval a X.env) :: starEach [] X.env := by rfl) : PE X (.Call (.Name "len" p) [.Call (.Name "set" p2) [a] [] q] [] pos) (tLenSetT X.K ta) := by
  refine ⟨fun pins s σ H Q I h => Call_ (ld_blt I g1 m1 boot_len (PyProof.Rows.callWith_builtin1 (PyProof.Rows.args_cons ?_ rfl) rfl rfl))⟩
  refine Call_ (ld_blt I g2 m2 boot_set (PyProof.Rows.callWith_type1 (PyProof.Rows.args_cons (thn (ha.run pins s σ H _ I h) fun v s1 ⟨x, H1, I1, r1, l, xs, ex, hq, few, q1⟩ => PyProof.Rows.args_nil ?_) na) na rfl))
  subst ex
  cases r1
  obtain ⟨its, r, pl, _⟩ := I1.list hq
  have lx : its.length = xs.length := by rw [← r.length, List.length_map]
  refine set_of_strs (I1.ok.hd calm) pl.isList (by simpa using strsAre_of r) (by unfold scanBound; omega) fun h2 tk hS hk => PyProof.Rows.args_nil ?_
  obtain ⟨o, es, ep, t, ho, hex, hd, _, _, _, hf, hn⟩ := hS
  have I2 : Inv X pins σ H1 { s1 with heap := h2, toks := tk } := I1.kept fun b o e => hk b o (Heap.lt_size e) e
  have bd := seen_le xs xs.length
  exact call_len_set ho hex hd hf (by rw [hn]; omega) ⟨.int _, H1, I2.tok _, ⟨_, by rw [hn]⟩, q1⟩
end
end SG
/-! functions that are called while nothing is being shown: repr of data can be called in them -/
namespace SG
open PySem PySem.Spec PyProof.Rows L2
/-- FnOk, where no repr is under way -/
structure FnG (P : Program) (w : World) (K : PySem.W.Frag) (mg : Str → Option Value) (base : Heap) (k : Nat) (f : Addr) (fd : FuncData) (ps : List Str) (sp : Sp) : Prop where
  cnt : ∀ vs H Q E, sp vs H Q E → vs.length = ps.length
  go : ∀ (A : Around) (up : List Env) (s : Shared) (H : Hp) (ar : Args) (us : List Value) (vs : List V) (Q : VK) (E : XK),
    Room k A → A.guards = some [] → Env0 P w K mg base A up s H → BindsTo s fd ar (ps.zip us) → Vals vs us → sp vs H Q E →
    codeAny (model P w) A (.call (.ref f) ar) (CR CX0 up P w H s Q E) s
structure ClG (P : Program) (w : World) (K : PySem.W.Frag) (mg : Str → Option Value) (base : Heap) (k : Nat) (x : Str) (sp : Sp) : Prop where
  ex : ∃ (f : Addr) (fd : FuncData) (ps : List Str), FnG P w K mg base k f fd ps sp ∧ mg x = some (.ref f) ∧ PySem.W.keepIn K (.ref f) = true ∧ Binds K fd ps []
section
variable {P : Program} {w : World} {K : PySem.W.Frag} {mg : Str → Option Value} {base : Heap}
theorem ClG.mono {j k : Nat} {x : Str} {sp : Sp} (c : ClG P w K mg base j x sp) (h : j ≤ k) : ClG P w K mg base k x sp := by
  obtain ⟨f, fd, ps, F, m, kp, b⟩ := c.ex
  exact ⟨f, fd, ps, ⟨F.cnt, fun A up s H ar us vs Q E hr => F.go A up s H ar us vs Q E (hr.mono h)⟩, m, kp, b⟩
theorem fun_okG {x qual : Str} {st : Stmt} {f : Addr} {fd : FuncData} {N ps : List Str} {k : Nat} {sp : Sp} (F : Fun K x qual st f fd) (S : FnScope N ps (defScope st)) (len : ∀ vs H Q E, sp vs H Q E → vs.length = ps.length)
    (hb : ∀ (cdv : Value) (A : Around) (up : List Env) (s : Shared) (H : Hp) (vs : List V) (Q : VK) (E : XK), Room k (A.deeper (envOfC qual (defScope st) s.heap.objs.size f cdv)) → A.guards = some [] → sp vs H Q E →
      ∃ t, PSs (cxOf CX0 P w K mg base N qual (defScope st) f cdv A up s H E).nox (defBody st) t ∧ t { nx := fun _ H' => Q .non H', rt := Q } (start N vs) H) : FnG P w K mg base (k + 1) f fd ps sp := by
  obtain ⟨oc, od, kV, doc, pm, an, cdv, ct, osl, rfl, lk, hcd⟩ := F.ex
  constructor
  · exact len
  intro A up s H ar us vs Q E hr hg e0 bd rv hsp
  have inK : K.In s.heap := e0.mod.kin.keeps fun b o e => (e0.bs b o e).1
  have free : s.heap.NoLimit := e0.mod.nolimit.keeps fun b o e => (e0.bs b o e).1
  have kinds : ∀ y ∈ ps.zip us, (defScope st).names.lookup y.1 = some .local ∨
      ((defScope st).names.lookup y.1 = some .cell ∧ ((cellsFrom (s.heap.objs.size + 1) (defScope st).names []).lookup y.1).isSome = true) := by
    rintro ⟨n, v⟩ hy
    cases S.par n (List.of_mem_zip hy).1 with
    | inl q => exact Or.inl q
    | inr q => exact Or.inr ⟨q, PySem.W.cellsFrom_some _ _ _ (Or.inl q)⟩
  apply codeAny_call_function hr.depth (inK _ _ lk) rfl S.co S.gen rfl (PySem.W.codeRec_of inK hcd) (bd _ _ _ _ ?_)
  apply wpAny_newFunctionEnv_cells S.kind kinds
  intro env he s1 ic
  subst he
  refine ⟨free.keeps ic.toInCall.keep, codeAny_func ?_⟩
  obtain ⟨t, ht0, hq⟩ := hb cdv A up s H vs Q E (hr.deeper _) hg hsp
  have ht := ht0.nox
  have J0 := inv_start (CX := CX0) (E := E) S hr.hd e0 (len _ _ _ _ hsp) rv ic
  refine wpAny_mono (ht.run [] s1 (start N vs) H _ J0 hq) ?_ ?_
  · intro fl s' hs
    cases fl with
    | ret u =>
      obtain ⟨v, σ', H', J, rv', q⟩ := hs
      exact ⟨v, H', J.os, J.bare, J.base, J.hok, rv', q⟩
    | next =>
      obtain ⟨σ', H', J, q⟩ := hs
      exact ⟨V.non, H', J.os, J.bare, J.base, J.hok, rfl, q⟩
    | brk => obtain ⟨_, _, _, q⟩ := hs; exact q.elim
    | cont => obtain ⟨_, _, _, q⟩ := hs; exact q.elim
  · intro e s' hs
    exact hs
theorem Df.okG {x : Str} {st : Stmt} {N ps : List Str} {k : Nat} {sp : Sp} (D : Df K mg x st ps) (S : FnScope N ps (defScope st)) (len : ∀ vs H Q E, sp vs H Q E → vs.length = ps.length)
    (hb : ∀ (f : Addr) (cdv : Value) (A : Around) (up : List Env) (s : Shared) (H : Hp) (vs : List V) (Q : VK) (E : XK), Room k (A.deeper (envOfC x (defScope st) s.heap.objs.size f cdv)) → A.guards = some [] → sp vs H Q E →
      ∃ t, PSs (cxOf CX0 P w K mg base N x (defScope st) f cdv A up s H E).nox (defBody st) t ∧ t { nx := fun _ H' => Q .non H', rt := Q } (start N vs) H) : ClG P w K mg base (k + 1) x sp := by
  obtain ⟨f, fd, F, m, b⟩ := D.ex
  exact ⟨f, fd, ps, fun_okG F S len (fun cdv A up s H vs Q E hr hg h => hb f cdv A up s H vs Q E hr hg h), m, F.kp, b⟩
end
theorem guards_in {A : Around} {q : Str} {sc : Scope} {n : Addr} {f : Addr} {c : Value} (h : A.guards = some []) : (A.deeper (envOfC q sc n f c)).guards = some [] := by
  simpa [Around.deeper] using h
section
variable {X : Cx} {k : Nat} {x : Str} {sp : Sp} {e : Expr} {es : List Expr} {t : TA} {p pos : Pos}
theorem pe_clG (c : ClG X.prog X.w X.K X.mg X.base k x sp) (hr : Room k X.A) (hg : X.A.guards = some []) (gl : Gl X x) (ha : PA X (e :: es) t)
    (hdb : (x == ("__debug__" : Str)) = false := by decide) (he : starEach (e :: es) X.env = (false, eval e X.env) :: starEach es X.env := by rfl) (hpl : (backTo pos (starEach es X.env)).any (·.1) = false := by rfl) :
    PE X (.Call (.Name x p) (e :: es) [] pos) (tCall sp [] E0 t) := by
  obtain ⟨f, fd, ps, F, hm, kp, b⟩ := c.ex
  constructor
  intro pins s σ H Q I h
  apply wpAny_Call_Name_kw (ld_glob I gl hm ?_ hdb)
  apply PySem.W.callWith_K (h₀ := X.base) I.ok.mod.kin kp (thn (ha.run pos pins s σ H _ I h) ?_) he hpl
  rintro us s1 ⟨vs, H1, J, rv, q⟩
  refine ⟨J.kIn, ?_⟩
  have q' : sp (vs ++ []) H1 Q E0 := q
  rw [List.append_nil] at q'
  have cnt : us.length = ps.length := by rw [← rv.length]; exact F.cnt _ _ _ _ q'
  have bd := b s1 us J.kIn (by rw [List.append_nil]; exact cnt)
  rw [List.append_nil] at bd
  refine wpAny_call (codeAny_mono (F.go X.A X.stack s1 H1 ⟨us, []⟩ us vs Q E0 hr hg J.env0 bd rv q') ?_)
  rintro (er | fl) s' hq
  · exact False.elim hq
  · cases fl with
    | ret u => exact J.after hq
    | next => exact hq.elim
    | brk => exact hq.elim
    | cont => exact hq.elim
end
/-- the law's own call, nothing being shown around it -/
theorem law_callG {P : Program} {w : World} {K : PySem.W.Frag} {mg mb : Str → Option Value} {k : Nat} {fa a : Addr} {fd : FuncData} {x : Str} {sp : Sp} {s : Shared} {vs : List Value} {ns : List Int}
    (KX : K.In s.heap) (hns : s.heap.Ns mainGlobals mg) (hb : s.heap.Ns builtinsNs mb) (hbb : ∀ x : Str, x ≠ "__name__" → mb x = bootBuiltins x) (hlim : s.heap.NoLimit) (hg : s.gens = #[])
    (ha : s.heap.get? a = some { cls := .type "list", data := .seq vs.toArray }) (hi : IntsAre vs ns) (hl : ns.length ≤ sizeLine) (hr : Room k callerA)
    (F : ∀ base : Heap, K.In base → base.Ns mainGlobals mg → FnG P w K mg base k fa fd [x] sp) (bd : ∀ (s : Shared) (u : Value), BindsTo s fd ⟨[u], []⟩ [(x, u)])
    (ask : ∀ H : Hp, Only H → SqL K H a (ns.map V.int) → sp [.ref a] H (fun v _ => v = .bl true) fun _ _ _ => False) :
    codeAny (model P w) callerA (.call (.ref fa) ⟨[.ref a], []⟩) (fun r s' => r = .ok (.ret (.bool true)) ∧ OldK s.heap s'.heap ∧ s'.os = s.os ∧ AllBare s'.gens) s := by
  have vals := vals_ints hi
  have many := hi.length
  have main : ∀ H : Hp, Only H → SqL K H a (ns.map V.int) → HOk P w H s.heap → (∀ b, H b ≠ none → b = a) → (H a ≠ none → K.lookup a = none) →
      codeAny (model P w) callerA (.call (.ref fa) ⟨[.ref a], []⟩) (fun r s' => r = .ok (.ret (.bool true)) ∧ OldK s.heap s'.heap ∧ s'.os = s.os ∧ AllBare s'.gens) s := by
    intro H only sq hok at_a hK
    have rest : ∀ {b : Addr} {o : Obj}, s.heap.get? b = some o → H b = none → (hidT s.heap H).get? b = some o := fun e n => hidT_get e n
    have dicts : ∀ {b : Addr} {o : Obj} {es : Array DictEntry} {ep : Nat}, s.heap.get? b = some o → o.data = .dict es ep → H b = none := by
      intro b o es ep e d
      rcases q : H b with _ | u
      · rfl
      · have e' : b = a := at_a b (by rw [q]; exact Option.some_ne_none _)
        rw [e', ha] at e
        cases e
        have d' : Data.seq vs.toArray _ = Data.dict es ep := d
        cases d'
    have spaces : ∀ {b : Addr} {m : Str → Option Value}, s.heap.Ns b m → (hidT s.heap H).Ns b m := by
      rintro b m ⟨o, es, ep, e, d, r⟩
      exact ⟨o, es, ep, rest e (dicts e d), d, r⟩
    have inB : K.In (hidT s.heap H) := by
      intro b o e
      refine rest (KX b o e) ?_
      rcases q : H b with _ | u
      · rfl
      · have nn : H b ≠ none := by rw [q]; exact Option.some_ne_none _
        have e' : b = a := at_a b nn
        rw [e'] at nn e
        rw [hK nn] at e
        cases e
    have md : Mod K mg (hidT s.heap H) := by
      obtain ⟨mc, h1, h2⟩ := hlim
      exact ⟨inB, spaces hns, ⟨mb, spaces hb, hbb⟩, mc, spaces h1, h2⟩
    have e0 : Env0 P w K mg (hidT s.heap H) callerA [] s H := by
      refine ⟨rfl, md, fun b o e => of_hidT e, Nat.le_of_eq (hidT_size _ _), trivial, ?_, hok, .of_eq hg⟩
      intro b hb
      have z : b ∈ ([] : List Addr) := hb
      cases z
    refine codeAny_mono ((F _ inB (spaces hns)).go callerA [] s H ⟨[.ref a], []⟩ [.ref a] [.ref a] _ _ hr rfl e0 (bd s (.ref a)) (.cons rfl .nil) (ask H only sq)) ?_
    rintro (e | fl) s' h
    · exact False.elim h
    · cases fl with
      | next => exact h.elim
      | brk => exact h.elim
      | cont => exact h.elim
      | ret u =>
        obtain ⟨v, H', os, bare, un, hok', r', q⟩ := h
        have q' : v = .bl true := q
        rw [q'] at r'
        obtain rfl : u = Value.bool true := r'
        refine ⟨rfl, OldK.of_keep ?_, os, bare⟩
        intro b o e
        rcases qb : H b with _ | u
        · refine un.keep b o e qb ?_ (by simp)
          intro z
          have z' : b ∈ ([] : List Addr) := z
          cases z'
        · rcases only b with z | ⟨ob, xs, z⟩
          · rw [qb] at z; cases z
          · obtain ⟨e1, _⟩ := hok b _ z
            obtain ⟨e2, _⟩ := hok' b _ (un.frzs b ob _ z)
            rw [e] at e1
            cases e1
            exact e2
  rcases hk : K.lookup a with _ | o
  · have yes : ∀ b, b = a → (fun b => if b = a then some (HO.frz { cls := .type "list", data := .seq vs.toArray } (.lst (ns.map V.int))) else none) b = some (HO.frz { cls := .type "list", data := .seq vs.toArray } (.lst (ns.map V.int))) := fun b e => if_pos e
    refine main (fun b => if b = a then some (.frz { cls := .type "list", data := .seq vs.toArray } (.lst (ns.map V.int))) else none) ?_ (.inl (.inr ⟨_, yes a rfl⟩)) ?_ ?_ fun _ => hk
    · intro b
      by_cases e : b = a
      · exact Or.inr ⟨_, _, yes b e⟩
      · exact Or.inl (if_neg e)
    · intro b u z
      by_cases e : b = a
      · rw [yes b e] at z
        cases z
        rw [e]
        exact ⟨ha, by rw [List.length_map]; exact hl, vs, _, vals, ha⟩
      · have z' := (if_neg e).symm.trans z
        cases z'
    · intro b z
      by_cases e : b = a
      · exact e
      · exact (z (if_neg e)).elim
  · have e := KX a o hk
    rw [ha] at e
    cases e
    refine main (fun _ => none) (fun _ => .inl rfl) (.inr ⟨_, vs.toArray, _, hk, rfl, rfl, rfl, by rw [List.size_toArray, many]; exact hl, by simpa using vals⟩) ?_ (fun b z => absurd rfl z) fun z => absurd rfl z
    intro b u z
    have z' : (none : Option HO) = some u := z
    cases z'
/-- the end, from the promise of the law's def -/
theorem walkG {l : PySem.W.OpenLaw} {n k : Nat} {q : Program} {loose : List Str} {XP : (Str → Option Value) → Heap → Prop} {YP : World → Heap → Prop} {d : DefRec} {K : Params → PySem.W.Frag} {sp : World → Sp} {x : Str}
    (hn : l.most = some n) (hn2 : n ≤ sizeLine) (hdf : d.params.defaults = []) (hr : Room k callerA) (hY : ∀ (w : World) (h : Heap), YP w h → (K w.params).In h)
    (F : ∀ (w : World) (mg : Str → Option Value) (fa : Addr) (h : Heap), (K w.params).In h → h.Ns mainGlobals mg → mg d.name = some (.ref fa) →
      ∃ fd : FuncData, (∀ (s : Shared) (u : Value), BindsTo s fd ⟨[u], []⟩ [(x, u)]) ∧ ∀ base : Heap, (K w.params).In base → base.Ns mainGlobals mg → FnG l.prog w (K w.params) mg base k fa fd [x] (sp w))
    (ask : ∀ (w : World) (H : Hp) (a : Addr) (ns : List Int), ns.length ≤ n → Only H → SqL (K w.params) H a (ns.map V.int) → sp w [.ref a] H (fun v _ => v = .bl true) fun _ _ _ => False) :
    PySem.W.WalkO q loose XP YP l.row.toRowW d [] (fun f vs => PySem.call f vs) := by
  apply Att.attach_call hn hdf
  intro w s₀ s₁ mg mb fa o pm cd doc a vs ns G Y ho hd hcd hmg hobj hints hlen hg
  obtain ⟨fd, hb, hF⟩ := F w mg fa _ (hY w _ Y) G.T.g hmg
  exact law_callG (hY w _ Y) G.T.g G.T.b G.T.builtins G.T.nolimit hg hobj hints (Nat.le_trans hlen hn2) hr hF hb fun H only sq => ask w H a ns hlen only sq
mutual
theorem Dp.noDict {K : PySem.W.Frag} {H : Hp} : ∀ {d : PyData} {v : V}, Dp K H v d → d.hasDict = false
  | _, _, .non => rfl
  | _, _, .bl _ => rfl
  | _, _, .int _ => rfl
  | _, _, .str _ => rfl
  | _, _, .lst _ a => DpAll.noDict a
  | _, _, .tup _ a => DpAll.noDict a
theorem DpAll.noDict {K : PySem.W.Frag} {H : Hp} : ∀ {ds : List PyData} {vs : List V}, DpAll K H vs ds → PyData.hasDictAll ds = false
  | _, _, .nil => rfl
  | _, _, .cons h t => by simp only [PyData.hasDictAll, Dp.noDict h, DpAll.noDict t, Bool.or_self]
end
section
variable {X : Cx}
def rRepr (K : PySem.W.Frag) : List V → Hp → VK → Prop := fun xs H Q => ∃ x d, xs = [x] ∧ Dp K H x d ∧ d.showable = true ∧ d.shown.length ≤ sizeLine ∧ d.depth ≤ 200 ∧ Q (.str d.shown) H
theorem call_reprD (hg : X.A.guards = some []) (hu : X.A.units + 220 < cLine) : CallR X (.builtin "repr") (rRepr X.K) := by
  intro pins s σ H xs us Q I r h
  obtain ⟨x, d, rfl, D, hs, hz, dd, q⟩ := h
  obtain ⟨u, rfl, rv⟩ := vals1 r
  have nd := Dp.noDict D
  cases D with
  | non => obtain rfl : u = Value.none := rv
           exact PySem.P.repr_of_none ⟨.str _, H, I.tok _, ⟨_, rfl⟩, q⟩
  | bl b => obtain rfl : u = Value.bool b := rv
            exact PySem.P.repr_of_bool ⟨.str _, H, I.tok _, ⟨_, rfl⟩, q⟩
  | int i => obtain ⟨t, rfl⟩ := rv
             exact PySem.P.repr_of_int (by simpa [PyData.showable] using hs) ⟨.str _, H, I.tok _, ⟨_, rfl⟩, q⟩
  | str z => obtain ⟨t, rfl⟩ := rv
             exact PySem.P.repr_of_str ⟨.str _, H, I.tok _, ⟨_, rfl⟩, q⟩ hz
  | lst sq al =>
    obtain ⟨as, rd⟩ := Dp.reads I _ _ _ (.lst sq al) rv
    obtain rfl := rv
    refine repr_of_reads' rd hs (fun z => by rw [nd] at z; cases z) hg (by omega) (fun _ _ e => e) ?_ hz
    intro h' u tk hk
    exact ⟨.str _, H, I.kept hk, ⟨_, rfl⟩, q⟩
  | tup sq al =>
    obtain ⟨as, rd⟩ := Dp.reads I _ _ _ (.tup sq al) rv
    obtain rfl := rv
    refine repr_of_reads' rd hs (fun z => by rw [nd] at z; cases z) hg (by omega) (fun _ _ e => e) ?_ hz
    intro h' u tk hk
    exact ⟨.str _, H, I.kept hk, ⟨_, rfl⟩, q⟩
end
end SG
/-! isinstance, in and not in, dict(a tuple of pairs), over data -/
namespace SG
open PySem PySem.Spec PyProof.Rows L2
section
variable {X : Cx}
/-- isinstance(x, T), x data -/
def rIsD (K : PySem.W.Frag) (T : String) (p : PyData → Bool) : List V → Hp → VK → Prop := fun xs H Q => ∃ x d, xs = [x, .ty T] ∧ Dp K H x d ∧ Q (.bl (p d)) H
theorem call_isInt : CallR X (.builtin "isinstance") (rIsD X.K "int" PyData.isInt) := by
  intro pins s σ H xs us Q I r h
  obtain ⟨x, d, rfl, D, q⟩ := h
  obtain ⟨u, c, rfl, rv, rc⟩ := vals2 r
  obtain rfl : c = Value.type "int" := rc
  obtain ⟨as, rd⟩ := Dp.reads I _ _ _ D rv
  exact PySem.W.isinstance_int_data rd fun tk _ => ⟨.bl _, H, I.tok tk, rfl, q⟩
theorem call_isBool : CallR X (.builtin "isinstance") (rIsD X.K "bool" PyData.isBool) := by
  intro pins s σ H xs us Q I r h
  obtain ⟨x, d, rfl, D, q⟩ := h
  obtain ⟨u, c, rfl, rv, rc⟩ := vals2 r
  obtain rfl : c = Value.type "bool" := rc
  obtain ⟨as, rd⟩ := Dp.reads I _ _ _ D rv
  exact PySem.W.isinstance_bool_data rd fun tk _ => ⟨.bl _, H, I.tok tk, rfl, q⟩
theorem call_isStr : CallR X (.builtin "isinstance") (rIsD X.K "str" PyData.isStr) := by
  intro pins s σ H xs us Q I r h
  obtain ⟨x, d, rfl, D, q⟩ := h
  obtain ⟨u, c, rfl, rv, rc⟩ := vals2 r
  obtain rfl : c = Value.type "str" := rc
  obtain ⟨as, rd⟩ := Dp.reads I _ _ _ D rv
  exact PySem.W.isinstance_str_data rd fun tk _ => ⟨.bl _, H, I.tok tk, rfl, q⟩
theorem call_isTup : CallR X (.builtin "isinstance") (rIsD X.K "tuple" PyData.isTuple) := by
  intro pins s σ H xs us Q I r h
  obtain ⟨x, d, rfl, D, q⟩ := h
  obtain ⟨u, c, rfl, rv, rc⟩ := vals2 r
  obtain rfl : c = Value.type "tuple" := rc
  obtain ⟨as, rd⟩ := Dp.reads I _ _ _ D rv
  exact PySem.W.isinstance_tuple_data rd fun tk _ => ⟨.bl _, H, I.tok tk, rfl, q⟩
/-- x in t, t a tuple of data -/
def rInT (K : PySem.W.Frag) (neg : Bool) : R2 := fun x y H Q => ∃ d es, Dp K H x d ∧ Dp K H y (.tuple es) ∧ d.plain = true ∧ PyData.plainAll es = true ∧ min (PyData.depthAll es) d.depth ≤ 64 ∧ Q (.bl (xor neg (es.any fun e => PyData.eqv e d))) H
theorem op_inT (hu : X.A.units + 70 < cLine) : OpR X (compareOp .In) (rInT X.K false) := by
  intro pins s σ H x y ux uy Q I rx ry h
  obtain ⟨d, es, D, T, pd, pe, de, q⟩ := h
  obtain ⟨as, r1⟩ := Dp.reads I _ _ _ D rx
  obtain ⟨bs, r2⟩ := Dp.reads I _ _ _ T ry
  rw [Bool.false_xor] at q
  exact PySem.SeqAt.in_tuple_data r2 r1 pe pd (by omega) ⟨.bl _, H, I, rfl, q⟩
theorem op_ninT (hu : X.A.units + 70 < cLine) : OpR X (compareOp .NotIn) (rInT X.K true) := by
  intro pins s σ H x y ux uy Q I rx ry h
  obtain ⟨d, es, D, T, pd, pe, de, q⟩ := h
  obtain ⟨as, r1⟩ := Dp.reads I _ _ _ D rx
  obtain ⟨bs, r2⟩ := Dp.reads I _ _ _ T ry
  rw [Bool.true_xor] at q
  exact PySem.SeqAt.notIn_tuple_data r2 r1 pe pd (by omega) ⟨.bl _, H, I, rfl, q⟩
end
end SG
/-! tuples of which it is known that they have no attributes of their own (dict(t) looks for them): the rules that make tuples, telling that -/
namespace SG
open PySem PySem.Spec PyProof.Rows L2 HT
theorem hin_of {A : Around} {k : Nat} (hr : Room k A) : A.units + 70 < cLine := by have := hr.un; omega
theorem hrep_of {A : Around} {k : Nat} (hr : Room (k + 2) A) : A.units + 220 < cLine := by have := hr.un; omega
def Tz (H : Hp) (a : Addr) (xs : List V) : Prop := ∃ o, H a = some (.frz o (.tup xs)) ∧ o.dict = none
theorem Tz.sq {K : PySem.W.Frag} {H : Hp} {a : Addr} {xs : List V} (h : Tz H a xs) : SqT K H a xs := by
  obtain ⟨o, e, _⟩ := h
  exact .inl (.inr ⟨o, e⟩)
/-- a new such tuple -/
def NewT (H : Hp) (xs : List V) (Q : VK) : Prop := ∀ (p : Addr) (o : Obj), H p = none → o.dict = none → Q (.ref p) (upd H p (.frz o (.tup xs)))
section
variable {X : Cx}
theorem put_tup {pins : List (Addr × Obj)} {σ : L2.St} {H : Hp} {s : Shared} {Q : VK} {xs : List V} {its : List Value} (I : L2.Inv X pins σ H s) (r : Vals xs its) (z : xs.length ≤ sizeLine) (q : NewT H xs Q) :
    EP X pins σ Q (.ref s.heap.objs.size) { s with heap := s.heap.push { cls := .type "tuple", data := .seq its.toArray } } := by
  have free : H s.heap.objs.size = none := I.hok.fresh (Nat.le_refl _)
  have kept : ∀ b u, s.heap.get? b = some u → (s.heap.push { cls := .type "tuple", data := .seq its.toArray }).get? b = some u := fun b u e => Heap.get?_push_of_some _ e
  have got : (s.heap.push { cls := .type "tuple", data := .seq its.toArray }).get? s.heap.objs.size = some { cls := .type "tuple", data := .seq its.toArray } := Heap.get?_push_size _ rfl
  refine ⟨.ref s.heap.objs.size, upd H s.heap.objs.size (.frz { cls := .type "tuple", data := .seq its.toArray } (.tup xs)), I.laid (t' := s.toks) kept (Nat.le_refl _) ?_, rfl, q _ _ free rfl⟩
  exact ⟨got, z, its, r, IsTup.new _ _⟩
/-- len(x), x a list or a tuple -/
def rLenSq (K : PySem.W.Frag) : List V → Hp → VK → Prop := fun xs H Q => ∃ p ys, xs = [.ref p] ∧ (SqL K H p ys ∨ SqT K H p ys) ∧ Q (.int ys.length) H
/-- (a, b, ..) -/
def tTupF (t : TA) : TE := fun σ H Q => t σ H fun xs H1 => xs.length ≤ sizeLine ∧ NewT H1 xs Q
theorem pe_tupF {es : List Expr} {t : TA} {pos : Pos} {x1} (h : PA X es t) : PE X (.Tuple es x1 pos) (tTupF t) := by
  constructor
  intro pins s σ H Q I hq
  apply wpAny_Tuple_spliced (thn (h.run pos pins s σ H _ I hq) ?_)
  rintro us s1 ⟨xs, H1, J, r, z, q⟩
  exact ⟨by rw [← r.length]; exact z, put_tup J r z q⟩
/-- tuple(x), x a list or a tuple -/
def kTupF (K : PySem.W.Frag) (x : V) (H : Hp) (Q : VK) : Prop :=
  (∃ p xs, x = .ref p ∧ SqL K H p xs ∧ NewT H xs Q) ∨ (∃ p xs, x = .ref p ∧ SqT K H p xs ∧ Q (.ref p) H)
theorem pe_tupleOfF {a : Expr} {ta : TE} {p pos : Pos} (hg : Gl X "tuple") (hm : X.mg "tuple" = none) (ha : PE X a ta) (na : starEach [a] X.env = (false, eval a X.env) :: starEach [] X.env := by rfl) :
    PE X (.Call (.Name "tuple" p) [a] [] pos) (tThen ta (kTupF X.K)) := by
  constructor
  intro pins s σ H Q I h
  refine Call_ (ld_blt I hg hm boot_tuple (PyProof.Rows.callWith_type1 (one_arg ha I h ?_ na) na))
  intro v s2 x H2 J r q
  rcases q with ⟨p, xs, rfl, hs, q⟩ | ⟨p, xs, rfl, hs, q⟩
  · obtain rfl : v = .ref p := r
    obtain ⟨its, rv, pl, hz⟩ := J.list hs
    refine call_tuple_list pl.isList ?_ (by rw [List.size_toArray, ← rv.length]; exact hz)
    intro h' hk
    exact put_tup (J.kept (t' := s2.toks) hk) rv hz q
  · obtain rfl : v = .ref p := r
    obtain ⟨its, rv, pl, hz⟩ := J.tuple hs
    exact call_tuple_tup pl ⟨.ref p, H2, J, rfl, q⟩
/-- t[lo:hi] -/
def rSlF (K : PySem.W.Frag) : V → Option Int → Option Int → Hp → VK → Prop := fun x lo hi H Q => ∃ a xs, x = .ref a ∧ SqT K H a xs ∧
  (HT.sIx xs.length 0 lo = 0 ∧ HT.sIx xs.length xs.length hi = xs.length → Q (.ref a) H) ∧ (¬ (HT.sIx xs.length 0 lo = 0 ∧ HT.sIx xs.length xs.length hi = xs.length) → NewT H (cutV xs lo hi) Q)
theorem sl_tupF : SlR X (rSlF X.K) := by
  intro pins s σ H x v vl vu lo hi sl Q I rx hs pl pu h
  obtain ⟨a, xs, rfl, hx, q1, q2⟩ := h
  obtain rfl : v = .ref a := rx
  obtain ⟨its, r, ht, hz⟩ := I.tuple hx
  have many : its.toArray.size = xs.length := by rw [List.size_toArray]; exact r.length.symm
  refine ⟨"tuple", _, PyProof.Rows.slot_tuple_getitem.lookup, ht.typeIs, ?_⟩
  by_cases hw : HT.sIx xs.length 0 lo = 0 ∧ HT.sIx xs.length xs.length hi = xs.length
  · exact getItem_tuple_whole ht hs pl pu (by rw [many]; exact hw) ⟨.ref a, H, I, rfl, q1 hw⟩
  · refine HT.getItem_tuple_cut ht hs pl pu (by rw [many]; exact hw) ?_ (by rw [many]; exact hz)
    rw [many]
    exact put_tup I ((r.drop (HT.sIx xs.length 0 lo)).take (HT.sIx xs.length xs.length hi - HT.sIx xs.length 0 lo)) (Nat.le_trans (cutV_length xs lo hi) hz) (q2 hw)
/-- t + u -/
def rCatF (K : PySem.W.Frag) : R2 := fun x y H Q => ∃ a b xs ys, x = .ref a ∧ y = .ref b ∧ SqT K H a xs ∧ SqT K H b ys ∧ xs.length + ys.length ≤ sizeLine ∧
  (xs = [] → Q (.ref b) H) ∧ (xs ≠ [] → ys = [] → Q (.ref a) H) ∧ (xs ≠ [] → ys ≠ [] → NewT H (xs ++ ys) Q)
theorem op_catF : OpR X (binaryOp .Add) (rCatF X.K) := by
  intro pins s σ H x y v u Q I rx ry h
  obtain ⟨a, b, xs, ys, rfl, rfl, ha, hb, hz, q0, q1, q2⟩ := h
  obtain rfl : v = .ref a := rx
  obtain rfl : u = .ref b := ry
  obtain ⟨its, r1, p1, _⟩ := I.tuple ha
  obtain ⟨its2, r2, p2, _⟩ := I.tuple hb
  by_cases hx : xs = []
  · subst hx
    cases r1
    exact cat_tup0 p1 p2 ⟨.ref b, H, I, rfl, q0 rfl⟩
  · refine HT.cat_tup p1 p2 (fun z => hx (r1.nil_iff.mp z)) (fun z => ⟨.ref a, H, I, rfl, q1 hx (r2.nil_iff.mp z)⟩) (fun z => ?_) (by rw [← r1.length, ← r2.length]; exact hz)
    exact put_tup I (r1.append r2) (by rw [List.length_append]; exact hz) (q2 hx fun w => z (r2.nil_iff.mpr w))
/-- t[::-1] -/
def tRevF (K : PySem.W.Frag) (te : TE) : TE := fun σ H Q => te σ H fun x H1 => ∃ a xs, x = .ref a ∧ SqT K H1 a xs ∧ NewT H1 xs.reverse Q
theorem places_back (n : Nat) : Builtin.Slice.slicePlaces ((n : Int) - 1) (-1) (-1) = n := by
  unfold Builtin.Slice.slicePlaces
  have h1 : ¬ ((-1 : Int) > 0) := by decide
  simp only [h1, if_false]
  split
  · have e : ((n : Int) - 1 - -1 - 1) / (- -1) = (n : Int) - 1 := by
      rw [show (- -1 : Int) = 1 by decide, Int.ediv_one]; omega
    rw [e]; omega
  · omega
theorem fm_congr {α β : Type} {f g : α → Option β} : ∀ {l : List α}, (∀ x ∈ l, f x = g x) → l.filterMap f = l.filterMap g
  | [], _ => rfl
  | x :: l, h => by
    rw [List.filterMap_cons, List.filterMap_cons, h x (by simp), fm_congr fun y hy => h y (by simp [hy])]
theorem pick_back (xs : Array Value) : ((List.range xs.size).filterMap fun (m : Nat) => xs[(((xs.size : Int) - 1) + (m : Int) * -1).toNat]?).toArray = xs.toList.reverse.toArray := by
  have e : ((List.range xs.size).filterMap fun (m : Nat) => xs[(((xs.size : Int) - 1) + (m : Int) * -1).toNat]?) = ((List.range xs.size).map fun k => xs.size - 1 - k).filterMap (xs[·]?) := by
    rw [List.filterMap_map]
    apply fm_congr
    intro m hm
    have := List.mem_range.mp hm
    show xs[_]? = xs[xs.size - 1 - m]?
    congr 1
    omega
  rw [e, PySem.W.krv_range, List.filterMap_reverse, PySem.W.krv_all]
theorem getItem_tuple_back {prog : Program} {w : World} {A : Around} {E : Value → Shared → Prop} {s : Shared} {t sl : Addr} {items : Array Value} {tk : Tok} {Q : Value → Shared → Prop} (ht : IsTup s.heap t items) (hs : s.heap.IsSliceOf sl .none .none (.int (-1) tk))
    (h : Q (.ref s.heap.objs.size) { s with heap := s.heap.push { cls := .type "tuple", data := .seq items.toList.reverse.toArray } })
    (hsz : items.size ≤ sizeLine) : wpAny (model prog w) A (getItem (.ref t) (.ref sl)) Q E s := by
  obtain ⟨os, hos, hcs, hds⟩ := id hs
  have hTs : s.TypeIs (.ref sl) "slice" := ⟨os, hos, hcs⟩
  unfold getItem
  try with_reducible refine wpAny_holding ?_
  first | refine wpAny_bind (wpAny_pure ?_) | skip
  apply wpAny_bind
  apply wpAny_sequenceKey ht.typeIs (by decide)
  apply wpAny_bind
  apply wpAny_callSpecial?_slot (name := Str.ofString "__getitem__") ht.typeIs PyProof.Rows.slot_tuple_getitem
  apply wpAny_call_entry PyProof.Rows.slot_tuple_getitem ht.typeIs entry_tuple_getitem ?_ (args_tuple_getitem _ _)
  show wpAny _ _ (Builtin.Tuple.tupleItemsOf (.ref t) >>= _) _ _ s
  apply wpAny_bind
  apply tupleItemsOf_ ht
  apply wpAny_bind
  apply wpAny_typeOf hTs
  rw [if_pos (by decide)]
  apply wpAny_bind
  unfold Builtin.Slice.sliceApplied Builtin.Slice.sliceFields
  refine wpAny_bind (wpAny_bind (wpAny_field hos hds (x := .none) rfl (wpAny_bind (wpAny_field hos hds (x := .none) rfl (wpAny_bind (wpAny_field hos hds (x := .int (-1) tk) rfl (wpAny_pure ?_)))))))
  refine wpAny_bind (slicePart_int ?_)
  show wpAny _ _ (if ((-1 : Int) == 0) = true then _ else _) _ _ s
  rw [if_neg (by decide)]
  refine wpAny_bind (slicePart_none (wpAny_bind (slicePart_none (wpAny_bind (wpAny_pure ?_)))))
  show wpAny _ _ (pure (((items.size : Int) - 1), (-1 : Int), Builtin.Slice.slicePlaces ((items.size : Int) - 1) (-1) (-1))) _ _ s
  rw [places_back]
  apply wpAny_pure
  have no : ¬ (((((items.size : Int) - 1) == 0 && (-1 : Int) == 1) && items.size == items.size) = true) := by simp
  show wpAny _ _ (if ((((items.size : Int) - 1) == 0 && (-1 : Int) == 1) && items.size == items.size) = true then _ else _) _ _ s
  rw [if_neg no, pick_back]
  have ok : sizeOk (.seq items.toList.reverse.toArray) := by
    show items.toList.reverse.toArray.size ≤ sizeLine
    rw [List.size_toArray, List.length_reverse, Array.length_toList]; exact hsz
  first
    | exact wpAny_bind (m := Builtin.Tuple.tupleExact _) (wpAny_newObj_type (wpAny_pure ⟨_, rfl, wpAny_pure h⟩) ok)
    | exact wpAny_bind (m := Builtin.Tuple.tupleExact _) (wpAny_newObj_type (wpAny_bind (wpAny_pure (wpAny_pure ⟨_, rfl, wpAny_pure h⟩))) ok)
theorem pe_revF {e : Expr} {te : TE} {j : Nat} {p0 p1 p2 pos : Pos} (he : PE X e te) : PE X (.Subscript e (.Slice none none (some (.UnaryOp .USub (.Constant (.int 1) j p0) p1)) p2) pos) (tRevF X.K te) := by
  have hs : PO X (some (.UnaryOp .USub (.Constant (.int 1) j p0) p1)) _ := po_some (pe_un un_neg pe_int)
  constructor
  intro pins s σ H Q I h
  refine Subscript_ (thn (he.run pins s σ H _ I h) ?_)
  rintro v s1 ⟨x, H1, I1, r1, a, xs, rfl, sq, q⟩
  obtain rfl : v = .ref a := r1
  refine wpAny_Slice ?_
  rw [evalPart_none]
  refine wpAny_pure ?_
  refine wpAny_pure ?_
  refine thn (hs.run pins s1 σ H1 (fun o H2 => o = some (-1) ∧ H2 = H1) I1 ?_) ?_
  · exact ⟨_, rfl, _, rfl, rfl, rfl⟩
  rintro vk s3 ⟨u, H3, I3, pu, rfl, rfl⟩
  obtain ⟨tk, rfl⟩ : ∃ tk, vk = .int (-1) tk := by
    cases pu with
    | int i t => exact ⟨t, rfl⟩
  have I4 : L2.Inv X pins σ H3 { s3 with heap := s3.heap.push { cls := .type "slice", data := .fields #[.none, .none, .int (-1) tk] } } := I3.kept (t' := s3.toks) fun b ob q => Heap.get?_push_of_some _ q
  obtain ⟨its, r, ht, hz⟩ := I4.tuple sq
  have many : its.toArray.size = xs.length := by rw [List.size_toArray]; exact r.length.symm
  have done := getItem_tuple_back (prog := X.prog) (w := X.w) (A := X.A) (E := X.xe) (Q := EP X pins σ Q) ht (Heap.IsSliceOf.new ..) (put_tup I4 (by simpa using r.reverse) (by rw [List.length_reverse]; exact hz) q) (by rw [many]; exact hz)
  exact tail_any (ops := [.ref a, .ref s3.heap.objs.size]) ht.typeIs PyProof.Rows.slot_tuple_getitem.lookup done (by with_unfolding_all rfl)
/-- a target x, y -/
theorem pg_two {K : PySem.W.Frag} {i j k : Nat} {x y : Str} {p1 p2 pos : Pos} (hK : X.K = K) (hc : X.calm = true) (hN : X.N.Nodup) (hi : X.N[i]? = some x) (hj : X.N[j]? = some y) (hx : Loc X.env.scope x) (hy : Loc X.env.scope y)
    (fx : X.fn x = true ∨ X.env.scope.names.lookup x = some .local := by first | exact .inl rfl | exact .inr rfl) (fy : X.fn y = true ∨ X.env.scope.names.lookup y = some .local := by first | exact .inl rfl | exact .inr rfl) :
    PG X (.Tuple [.Name x p1, .Name y p2] k pos) (gTup K 2 (gCons (gName i) (gCons (gName j) gNil))) := by
  subst hK
  exact pg_tup hc (pgs_cons (pg_name hN hi hx fx) (pgs_cons (pg_name hN hj hy fy) pgs_nil))
/-- the pairs as they lie -/
theorem pairs_raw {pins : List (Addr × Obj)} {σ : L2.St} {H : Hp} {s : Shared} (I : L2.Inv X pins σ H s) : ∀ {ps : List Addr} {kvs : List (Key × V)}, Paired (fun p kv => SqT X.K H p [kV kv.1, kv.2]) ps kvs →
    ∃ (raw : List (Value × Value)) (prs : List (Key × Value)), KV kvs prs ∧ raw.length = ps.length ∧ prs.length = ps.length ∧
      ∀ (j : Nat) (k v : Value), raw[j]? = some (k, v) → (∃ b, ps[j]? = some b ∧ IsTup s.heap b #[k, v]) ∧ ∃ key, prs[j]? = some (key, v) ∧ keyIs key k = true
  | _, _, .nil => ⟨[], [], .nil, rfl, rfl, fun j k v e => by simp at e⟩
  | _, _, .cons (a := p) (b := kv) h t => by
    obtain ⟨raw, prs, r, h1, h2, hp⟩ := pairs_raw I t
    obtain ⟨its, rv, ht, _⟩ := I.tuple h
    obtain ⟨u, y, ei, ru, ry⟩ := vals2 rv
    subst ei
    refine ⟨(u, y) :: raw, (kv.1, y) :: prs, .cons ⟨rfl, ry⟩ r, by simp [h1], by simp [h2], ?_⟩
    intro j k v e
    cases j with
    | zero =>
      cases e
      exact ⟨⟨p, rfl, ht⟩, kv.1, rfl, kV_is (P := X.prog) (w := X.w) ru⟩
    | succ j => simpa using hp j k v (by simpa using e)
/-- dict(t), t a tuple of pairs -/
theorem call_dictT (hcalm : X.calm = true) : CallR X (.type "dict") (fun xs H Q => ∃ (a : Addr) (ps : List Addr) (kvs : List (Key × V)), xs = [.ref a] ∧ Tz H a (ps.map V.ref) ∧ Paired (fun p kv => SqT X.K H p [kV kv.1, kv.2]) ps kvs ∧
    ∀ p, H p = none → Q (.ref p) (upd H p (.dK (mergeK [] kvs)))) := by
  intro pins s σ H xs us Q I r q
  obtain ⟨a, ps, kvs, rfl, hq, hp, q⟩ := q
  obtain ⟨u, rfl, rx⟩ := vals1 r
  obtain rfl : u = Value.ref a := rx
  obtain ⟨o, ea, hd⟩ := hq
  obtain ⟨ho0, hz, its, rv, o1, ho, hc, n, hdat⟩ := (show ObjOk X.prog X.w H s.heap a (.frz o (.tup (ps.map V.ref))) from I.hok a _ ea)
  rw [ho0] at ho
  cases ho
  obtain rfl := refs_at rv
  rw [List.length_map] at hz
  obtain ⟨raw, prs, rel, l1, l2, hpr⟩ := pairs_raw I hp
  have P := PairArg.tuple (prog := X.prog) (w := X.w) a (ps.map Value.ref).toArray (fun j => ps.getD j 0) raw
  refine PySem.call_dict_pairs (knd := mixKind X.prog X.w) (kvs := prs) P (I.ok.hd hcalm) ⟨⟨o, n, ho0, hc, hd, hdat⟩, by simp [l1], ?_⟩ ⟨by rw [l1, l2], ?_⟩ (by rw [l1]; exact hz) ?_
  · intro j k v e
    obtain ⟨⟨b, hb, ht⟩, _⟩ := hpr j k v e
    have eb : ps.getD j 0 = b := by simp [List.getD, hb]
    exact ⟨by simp [eb, hb], .inl (by show s.heap.IsTuple (ps.getD j 0) _; rw [eb]; exact ht)⟩
  · intro j k v e
    obtain ⟨_, key, e1, e2⟩ := hpr j k v e
    exact ⟨key, e1, e2⟩
  · intro h' tk hd' k
    have k' : ∀ b o, s.heap.get? b = some o → h'.get? b = some o := fun b o e => k b o (by simp) e
    have hm : (s.heap.objs.size == sysModules) = false := beq_eq_false_iff_ne.mpr (Nat.ne_of_gt I.big)
    have hlen : (mergeK [] kvs).length ≤ sizeLine := by
      have := length_mergeK kvs []
      rw [List.length_nil, Nat.zero_add, rel.length, l2] at this
      omega
    exact ⟨.ref s.heap.objs.size, upd H s.heap.objs.size (.dK (mergeK [] kvs)), I.laid (t' := tk) k' (Nat.le_refl _) (show ObjOk X.prog X.w _ _ _ (.dK (mergeK [] kvs)) from ⟨hlen, hm, merged [] prs, KV.merge rel .nil, hd'⟩), rfl, q _ (I.hok.fresh (Nat.le_refl _))⟩
end
end SG
namespace SG
open PySem PySem.Spec PyProof.Rows L2
/-! ### discard from a set of numbers -/
theorem erase_list {α : Type} (xs : Array α) (i : Nat) : (SetTable.eraseAt xs i).toList = xs.toList.take i ++ xs.toList.drop (i + 1) := by
  unfold SetTable.eraseAt
  rw [Array.toList_append, Array.toList_extract, Array.toList_extract]
  simp [List.extract_eq_drop_take]
  rw [List.take_of_length_le (by rw [List.length_drop, Array.length_toList]; omega)]
theorem split_at {α : Type} : ∀ {l : List α} {i : Nat} {x : α}, l[i]? = some x → l = l.take i ++ x :: l.drop (i + 1)
  | [], i, x, h => by simp at h
  | y :: r, 0, x, h => by
    simp at h
    subst h
    simp
  | y :: r, i + 1, x, h => by
    have h' : r[i]? = some x := by simpa using h
    show y :: r = y :: (r.take i ++ x :: r.drop (i + 1))
    rw [← split_at h']
theorem insert_size {α : Type} (xs : Array α) (i : Nat) (x : α) : (SetTable.insertAt xs i x).size = xs.size + 1 := by
  unfold SetTable.insertAt
  simp only [Array.size_append, Array.size_push, Array.size_extract]
  omega
theorem erase_size {α : Type} (xs : Array α) (i : Nat) (h : i < xs.size) : (SetTable.eraseAt xs i).size + 1 = xs.size := by
  unfold SetTable.eraseAt
  simp only [Array.size_append, Array.size_extract]
  omega
section
variable {P : Program} {w : World} {A : Around} {E : Value → Shared → Prop} {s : Shared} {a : Addr} {S : Int → Bool} {n : Nat}
/-- found.discard(k) -/
theorem setR_discard_hashed {k : Int} {tk : Tok} {Q : Bool → Shared → Prop} (R : SetR w s.heap a S n)
    (hQ : ∀ h' b, Heap.SameBut a s.heap h' → SetR w h' a (fun j => S j && !decide (j = k)) (if S k = true then n - 1 else n) → Q b { s with heap := h' }) :
    wpAny (model P w) A (setDiscardHashed a (.int k tk) ((intKind P w).hash k)) Q E s := by
  obtain ⟨o, es, ep, t, ho, hex, hd, g, nd, hm, hb, hf, hn, hr, hl⟩ := R
  have hkey : (intKind P w).is k (.int k tk) = true := intKind_is P w k tk
  have hsc : (Value.int k tk).scannable = true := rfl
  have hel : ElemsOf (intKind P w) es.toList := good_elems g
  unfold setDiscardHashed setFind setFindIn
  refine wpAny_bind (wpAny_bind (wpAny_setState_of ho hd hf ?_))
  dsimp only
  rw [byScan_of hsc hb hel]
  simp only [↓reduceIte]
  refine wpAny_bind (wpAny_rule ?_)
  refine wpAny_bind (wpAny_setScan_of hkey ho hd hf hel ?_)
  cases hfi : List.findIdx? (fun e => (intKind P w).is k e.2) es.toList with
  | none =>
    dsimp only
    have hnk : k ∉ es.toList.map keyOf := fun z => by
      obtain ⟨e, he, q⟩ := (good_mem (P := P) (w := w) g k).1 z
      have c := List.findIdx?_eq_none_iff.mp hfi e he
      rw [q] at c
      cases c
    have hSk : S k = false := by
      cases q : S k with
      | false => rfl
      | true => exact absurd ((hm k).1 q) hnk
    refine wpAny_pure (wpAny_pure ?_)
    have q := hQ s.heap false (Heap.SameBut.refl a s.heap) ⟨o, es, ep, t, ho, hex, hd, g, nd, fun i => by
      rw [Bool.and_eq_true, hm i]
      constructor
      · exact fun z => z.1
      · intro z
        refine ⟨z, ?_⟩
        have : ¬ i = k := fun e => hnk (e ▸ z)
        simp [this], hb, hf, by rw [hSk]; simpa using hn, hr, hl⟩
    exact q
  | some j =>
    dsimp only
    obtain ⟨hj, pj, _⟩ := List.findIdx?_eq_some_iff_getElem.mp hfi
    have hj' : j < es.size := by rw [← Array.length_toList]; exact hj
    have kj : keyOf es.toList[j] = k := (good_is (P := P) (w := w) (g _ (List.getElem_mem hj)) k).1 pj
    have hSk : S k = true := (hm k).2 ((good_mem (P := P) (w := w) g k).2 ⟨es.toList[j], List.getElem_mem hj, pj⟩)
    have hfs : t.place.size = es.size ∧ t.fill ≤ t.mask := by
      simpa [SetTable.fits, Bool.and_eq_true, beq_iff_eq, decide_eq_true_eq] using hf
    obtain ⟨pl, hpl⟩ : ∃ q, t.place[j]? = some q := ⟨_, Array.getElem?_eq_getElem (by omega)⟩
    have hdrop : t.drop j = { t with place := SetTable.eraseAt t.place j, dummies := SetTable.insertAt t.dummies (SetTable.below t.dummies pl) pl } := by
      unfold SetTable.drop
      rw [hpl]
    have sp := split_at (List.getElem?_eq_getElem hj)
    have el := erase_list es j
    have perm : es.toList.Perm (es.toList[j] :: (SetTable.eraseAt es j).toList) := by
      rw [el]
      conv => lhs; rw [sp]
      exact List.perm_middle
    have pk : (es.toList.map keyOf).Perm (k :: (SetTable.eraseAt es j).toList.map keyOf) := by
      have := perm.map keyOf
      rw [List.map_cons, kj] at this
      exact this
    have nd2 := pk.nodup_iff.mp nd
    obtain ⟨nk, nd3⟩ := List.nodup_cons.mp nd2
    have sz := erase_size es j hj'
    have hf2 : (t.drop j).fits (SetTable.eraseAt es j).size = true := by
      rw [hdrop]
      have z1 := erase_size t.place j (by omega)
      have z2 := insert_size t.dummies (SetTable.below t.dummies pl) pl
      have z3 : t.place.size + t.dummies.size ≤ t.mask := hfs.2
      show ((SetTable.eraseAt t.place j).size == (SetTable.eraseAt es j).size && decide ((SetTable.eraseAt t.place j).size + (SetTable.insertAt t.dummies (SetTable.below t.dummies pl) pl).size ≤ t.mask)) = true
      have hp := hfs.1
      rw [Bool.and_eq_true, beq_iff_eq, decide_eq_true_eq]
      omega
    have hr2 : Ris (t.drop j).place.toList := by
      rw [hdrop]
      show Ris (SetTable.eraseAt t.place j).toList
      rw [erase_list]
      have sub : (t.place.toList.take j ++ t.place.toList.drop (j + 1)).Sublist t.place.toList := by
        have q : t.place.toList[j]? = some pl := by rw [Array.getElem?_toList]; exact hpl
        conv => rhs; rw [split_at q]
        exact List.Sublist.append (List.Sublist.refl _) (List.sublist_cons_self _ _)
      exact List.Pairwise.sublist sub hr
    have hl2 : w.params.followText "set-order" = true ∨ (t.drop j).led = true := by
      rw [hdrop]
      exact hl
    have hb2 : (SetTable.eraseAt es j).size < scanBound := by omega
    refine wpAny_pure ?_
    dsimp only
    refine wpAny_bind (wpAny_setState_of ho hd hf ?_)
    dsimp only
    rw [Nat.zero_add]
    refine wpAny_bind (wpAny_storeSet_of ho hd ?_ (fits_of_scanBound hb2))
    refine wpAny_bind (wpAny_point ?_)
    refine wpAny_pure (hQ _ true (Heap.SameBut.update s.heap a _) ?_)
    have ho1 := store_at (es' := SetTable.eraseAt es j) (t' := t.drop j) ho hd
    refine ⟨_, _, _, _, ho1, hex, rfl, fun e he => g e (perm.mem_iff.mpr (List.mem_cons_of_mem _ he)), nd3, fun i => ?_, hb2, hf2, ?_, hr2, hl2⟩
    · rw [Bool.and_eq_true, hm i, pk.mem_iff, List.mem_cons]
      constructor
      · rintro ⟨e | e, q⟩
        · simp [e] at q
        · exact e
      · intro z
        have : ¬ i = k := fun e => nk (e ▸ z)
        exact ⟨.inr z, by simp [this]⟩
    · rw [if_pos hSk]
      omega
theorem setR_discard {k : Int} {tk : Tok} {Q : Value → Shared → Prop} (R : SetR w s.heap a S n)
    (hQ : ∀ h', Heap.SameBut a s.heap h' → SetR w h' a (fun j => S j && !decide (j = k)) (if S k = true then n - 1 else n) → Q .none { s with heap := h', toks := s.toks + 1 }) :
    wpAny (model P w) A (call (.builtin "set.discard") [.ref a, .int k tk]) Q E s := by
  have hS : s.heap.SetOf (intKind P w) a S n := R.setOf
  refine wpAny_call_entry PySem.F.slot_set_discard hS.typeIs PySem.F.entry_set_discard ?_ (PySem.F.args_set_discard_2 _ _)
  unfold Builtin.«set.discard» Builtin.Frozenset.oneOther
  simp only [List.isEmpty_nil, bind_assoc]
  unfold Builtin.Frozenset.addrOf Builtin.Frozenset.withSetAsKey setDiscard
  refine wpAny_bind (wpAny_pure ?_)
  try dsimp only
  refine wpAny_bind (wpAny_pure ?_)
  try dsimp only
  refine wpAny_bind (wpAny_tryCatch ?_)
  refine wpAny_holding ?_
  refine wpAny_bind ((intKind P w).pyHash (intKind_is P w k tk) ?_)
  refine setR_discard_hashed (s := { s with toks := s.toks + 1 }) R fun h' b sb r => ?_
  show wpAny _ _ (ret Value.none) _ _ _
  exact wpAny_pure ⟨_, rfl, hQ h' sb r⟩
end
section
variable {X : Cx}
/-- found.discard(k) -/
def rSDis (w : World) : V → List V → Hp → VK → Prop := fun x xs H Q => ∃ (a : Addr) (k : Int) (S : Int → Bool) (n : Nat), x = V.ref a ∧ xs = [V.int k] ∧ H a = some (SetO w a S n) ∧
  Q .non (upd H a (SetO w a (fun j => S j && !decide (j = k)) (if S k = true then n - 1 else n)))
theorem mt_sdis : MtR X "set.discard" (rSDis X.w) := by
  intro pins s σ H x xs v us Q I rx rxs h
  obtain ⟨a, k, S, n, rfl, rfl, ha, q⟩ := h
  cases rx
  cases rxs with
  | cons ry rt =>
    cases rt
    obtain ⟨tk, rfl⟩ := ry
    have R := setO_get I ha
    refine setR_discard R fun h' sb new => ?_
    have he : ∃ u, h'.get? a = some u := by
      have ⟨o, _, _, _, ho, _⟩ := new
      exact ⟨o, ho⟩
    exact ⟨.non, upd H a (SetO X.w a (fun j => S j && !decide (j = k)) (if S k = true then n - 1 else n)), I.write (e := a) (t' := s.toks + 1) (by rw [ha]; trivial) (.inl rfl) (fun b u hb hu => (sb.2 b hb).trans hu) he (setO_new new), rfl, q⟩
def tSDis (w : World) (to : TE) (t : TA) : TE := fun σ H Q => to σ H fun x H1 => (∃ a S n, x = V.ref a ∧ H1 a = some (SetO w a S n)) ∧ t σ H1 fun xs H2 => rSDis w x xs H2 Q
variable {o e : Expr} {es : List Expr} {to : TE} {t : TA} {apos cpos : Pos}
theorem pe_sdis (ho : PE X o to) (ha : PA X (e :: es) t)
    (hbase : attributeBase o "discard" X.env (eval o X.env) = eval o X.env := by rfl)
    (hfew : ((backTo cpos (starEach (e :: es) X.env)).all (fun x => !x.1) && (backToKw cpos (keywordEach [] X.env)).all (fun x => x.1.isSome)
      && decide ((e :: es).length + ([] : List Keyword).length + (if ([] : List Keyword).isEmpty then 0 else 1) < 30)) = true := by rfl)
    (hline : (apos.endLine == cpos.line) = true := by rfl) (hs : starEach (e :: es) X.env = (false, eval e X.env) :: starEach es X.env := by rfl) (hplain : (backTo cpos (starEach es X.env)).any (·.1) = false := by rfl) :
    PE X (.Call (.Attribute o "discard" apos) (e :: es) [] cpos) (tSDis X.w to t) := by
  refine ⟨fun pins s σ H Q I h => ?_⟩
  refine wpAny_Call_method_late hbase hfew hline rfl (thn (ho.run pins s σ H _ I h) fun v s1 ⟨x, H1, I1, r1, ty, q1⟩ => ?_)
  obtain ⟨a, S, n, rfl, hka⟩ := ty
  have R := setO_get I1 hka
  cases r1
  have hS : s1.heap.SetOf (intKind X.prog X.w) a S n := R.setOf
  refine ⟨"set", "set.discard", PySem.F.plainAttrs_set, PySem.F.slot_set_discard, PySem.F.type_set_discard, hS.typeIs, hS.noDict, ?_⟩
  have hA := ha.run cpos pins s1 σ H1 _ I1 q1
  rw [hs] at hA ⊢
  refine Calls.callWith_builtin (by show (false || (backTo cpos (starEach es X.env)).any (·.1)) = false; rw [hplain] <;> rfl) (Calls.evalArgs_plain ?_)
  exact thn hA fun us s2 ⟨vs, H2, I2, r2, q2⟩ => mt_sdis pins s2 σ H2 (.ref a) vs (.ref a) us Q I2 rfl r2 q2
end
end SG
namespace SG
open PySem PySem.Spec PyProof.Rows L2
section
variable {X : Cx} {e : Expr} {te : TE}
/-- a bound of a slice that may be None -/
def tPartO (t : TE) : TO := fun σ H Q => t σ H fun x H1 => (x = .non ∧ Q none H1) ∨ ∃ i, x = .int i ∧ Q (some i) H1
theorem po_opt (h : PE X e te) : PO X (some e) (tPartO te) := by
  refine ⟨fun pins s σ H Q I hw => ?_⟩
  rw [evalPart_some]
  refine thn (h.run pins s σ H _ I hw) fun u s1 ⟨x, H1, I1, r1, q1⟩ => ?_
  rcases q1 with ⟨rfl, q⟩ | ⟨i, rfl, q⟩
  · obtain rfl : u = Value.none := r1
    exact ⟨none, H1, I1, .none, q⟩
  · obtain ⟨t, rfl⟩ := r1
    exact ⟨some i, H1, I1, .int i t, q⟩
/-- str(x), x a number or a text -/
def rStrIS : List V → Hp → VK → Prop := fun xs H Q => (∃ i, xs = [.int i] ∧ i.natAbs.log2 < 1920 ∧ Q (.str (toString i)) H) ∨ ∃ a, xs = [.str a] ∧ Q (.str a) H
theorem call_strIS : CallR X (.type "str") rStrIS := by
  intro pins s σ H xs us Q I r h
  rcases h with h | h
  · exact call_str_int pins s σ H xs us Q I r h
  · exact SkE.call_str_str pins s σ H xs us Q I r h
end
end SG
namespace SG
open PySem PySem.Spec PyProof.Rows L2
/-! ### data in a heap that grows -/
theorem same_sqT {K : PySem.W.Frag} {H H' : Hp} {a : Addr} {xs : List V} (e : Same H H') (h : SqT K H a xs) : SqT K H' a xs := Same.tup e h
theorem same_sqL {K : PySem.W.Frag} {H H' : Hp} {a : Addr} {xs : List V} (e : Same H H') (h : SqL K H a xs) : SqL K H' a xs := by
  rcases h with (h | ⟨o, h⟩) | h
  · exact .inl (.inl (e _ _ h))
  · exact .inl (.inr ⟨o, e _ _ h⟩)
  · exact .inr h
mutual
theorem Dp.same {K : PySem.W.Frag} {H H' : Hp} (e : Same H H') : ∀ {d : PyData} {v : V}, Dp K H v d → Dp K H' v d
  | _, _, .non => .non
  | _, _, .bl b => .bl b
  | _, _, .int i => .int i
  | _, _, .str x => .str x
  | _, _, .lst a b => .lst (same_sqL e a) (DpAll.same e b)
  | _, _, .tup a b => .tup (same_sqT e a) (DpAll.same e b)
theorem DpAll.same {K : PySem.W.Frag} {H H' : Hp} (e : Same H H') : ∀ {ds : List PyData} {vs : List V}, DpAll K H vs ds → DpAll K H' vs ds
  | _, _, .nil => .nil
  | _, _, .cons h t => .cons (Dp.same e h) (DpAll.same e t)
end
mutual
theorem Dp.plain {K : PySem.W.Frag} {H : Hp} : ∀ {d : PyData} {v : V}, Dp K H v d → d.plain = true
  | _, _, .non => rfl
  | _, _, .bl _ => rfl
  | _, _, .int _ => rfl
  | _, _, .str _ => rfl
  | _, _, .lst _ a => DpAll.plain a
  | _, _, .tup _ a => DpAll.plain a
theorem DpAll.plain {K : PySem.W.Frag} {H : Hp} : ∀ {ds : List PyData} {vs : List V}, DpAll K H vs ds → PyData.plainAll ds = true
  | _, _, .nil => rfl
  | _, _, .cons h t => by
    show (PyData.plain _ && PyData.plainAll _) = true
    rw [Dp.plain h, DpAll.plain t]; rfl
end
theorem DpAll.len {K : PySem.W.Frag} {H : Hp} : ∀ {ds : List PyData} {vs : List V}, DpAll K H vs ds → vs.length = ds.length
  | _, _, .nil => rfl
  | _, _, .cons _ t => by simp [DpAll.len t]
theorem DpAll.get {K : PySem.W.Frag} {H : Hp} : ∀ {ds : List PyData} {vs : List V}, DpAll K H vs ds → ∀ {i : Nat} {d : PyData}, ds[i]? = some d → ∃ v, vs[i]? = some v ∧ Dp K H v d
  | _, _, .nil, i, d, h => by simp at h
  | _, _, .cons a t, 0, d, h => by
    simp only [List.getElem?_cons_zero, Option.some.injEq] at h
    subst h
    exact ⟨_, rfl, a⟩
  | _, _, .cons a t, i + 1, d, h => by
    simp only [List.getElem?_cons_succ] at h
    obtain ⟨v, e, q⟩ := DpAll.get t h
    exact ⟨v, by simpa using e, q⟩
theorem dp_strs {K : PySem.W.Frag} {H : Hp} : ∀ ss : List Str, DpAll K H (ss.map V.str) (ss.map PyData.str)
  | [] => .nil
  | s :: ss => .cons (.str s) (dp_strs ss)
def bet (d : PyData) (lo hi : Int) : Bool := match d with | .int i => decide (lo ≤ i) && decide (i ≤ hi) | _ => false
def inL (ss : List Str) (d : PyData) : Bool := (ss.map PyData.str).any fun e => PyData.eqv e d
theorem eqv_str {a : Str} {d : PyData} (h : PyData.eqv (.str a) d = true) : d = .str a := by
  cases d <;> simp [PyData.eqv] at h
  · rw [h]
theorem inL_str {ss : List Str} {d : PyData} (h : inL ss d = true) : ∃ s, s ∈ ss ∧ d = .str s := by
  unfold inL at h
  rw [List.any_map, List.any_eq_true] at h
  obtain ⟨s, hs, e⟩ := h
  exact ⟨s, hs, eqv_str e⟩
theorem inL_of {ss : List Str} {s : Str} (h : s ∈ ss) : inL ss (.str s) = true := by
  unfold inL
  rw [List.any_map, List.any_eq_true]
  exact ⟨s, h, by simp [PyData.eqv]⟩
def rowN (n : Nat) : PyData → Bool
  | .tuple ds => decide (ds.length = n)
  | _ => false
theorem Dp.tupOf {K : PySem.W.Frag} {H : Hp} {x : V} {ds : List PyData} (h : Dp K H x (.tuple ds)) : ∃ a xs, x = .ref a ∧ SqT K H a xs ∧ DpAll K H xs ds := by
  cases h with
  | tup a b => exact ⟨_, _, rfl, a, b⟩
theorem inV_strs (s : Str) (ss : List Str) : inV (.str s) (ss.map V.str) = ss.any (· == s) := by
  unfold inV
  rw [List.any_map]
  rfl
theorem inL_strs (ss : List Str) (z : Str) : inL ss (.str z) = ss.any (· == z) := by
  unfold inL
  rw [List.any_map]
  induction ss with
  | nil => rfl
  | cons s r ih =>
    rw [List.any_cons, List.any_cons, ih]
    rfl
end SG
namespace SG
open PySem PySem.Spec PyProof.Rows L2
/-- a def with keyword-only parameters, called without them -/
structure ClD (P : Program) (w : World) (K : PySem.W.Frag) (mg : Str → Option Value) (base : Heap) (k : Nat) (x : Str) (dv : List V) (sp : Sp) : Prop where
  ex : ∃ (f : Addr) (fd : FuncData) (ps : List Str) (ds : List Value), FnOk P w K mg base CX0 k f fd ps sp ∧ mg x = some (.ref f) ∧ PySem.W.keepIn K (.ref f) = true ∧ Binds K fd ps ds ∧ Vals dv ds
/-- with them -/
structure ClK (P : Program) (w : World) (K : PySem.W.Frag) (mg : Str → Option Value) (base : Heap) (k : Nat) (x : Str) (n : Nat) (ks : List Str) (sp : Sp) : Prop where
  ex : ∃ (f : Addr) (fd : FuncData) (ps : List Str), FnOk P w K mg base CX0 k f fd ps sp ∧ mg x = some (.ref f) ∧ PySem.W.keepIn K (.ref f) = true ∧ KBn K fd ps n ks (fun us ws => us ++ ws) (fun vs zs => vs ++ zs)
structure DfK (K : PySem.W.Frag) (mg : Str → Option Value) (x : Str) (st : Stmt) (ps : List Str) (n : Nat) (ks : List Str) (dv : List V) : Prop where
  ex : ∃ (f : Addr) (fd : FuncData) (ds : List Value), Fun K x x st f fd ∧ mg x = some (.ref f) ∧ Binds K fd ps ds ∧ Vals dv ds ∧ KBn K fd ps n ks (fun us ws => us ++ ws) (fun vs zs => vs ++ zs)
theorem DfK.ok {P : Program} {w : World} {K : PySem.W.Frag} {mg : Str → Option Value} {base : Heap} {x : Str} {st : Stmt} {N ps ks : List Str} {n k : Nat} {dv : List V} {sp : Sp} (D : DfK K mg x st ps n ks dv) (S : FnScope N ps (defScope st)) (len : ∀ vs H Q E, sp vs H Q E → vs.length = ps.length)
    (hbody : ∀ (f : Addr) (cdv : Value) (A : Around) (outer : List Env) (s : Shared) (H : Hp) (vs : List V) (Q : VK) (E : XK), Room k (A.deeper (envOfC x (defScope st) s.heap.objs.size f cdv)) → sp vs H Q E →
      ∃ t, PSs (cxOf CX0 P w K mg base N x (defScope st) f cdv A outer s H E).nox (defBody st) t ∧ t { nx := fun _ H' => Q .non H', rt := Q } (start N vs) H) : ClK P w K mg base (k + 1) x n ks sp ∧ ClD P w K mg base (k + 1) x dv sp := by
  obtain ⟨f, fd, ds, F, m, b, vd, kb⟩ := D.ex
  have ok := F.ok S len (fun cdv A outer s H vs Q E hr h => hbody f cdv A outer s H vs Q E hr h)
  exact ⟨⟨f, fd, ps, ok, m, F.kp, kb⟩, ⟨f, fd, ps, ds, ok, m, F.kp, b, vd⟩⟩
theorem kbn_of {K : PySem.W.Frag} {fd : FuncData} {ps ks : List Str} {n : Nat} (h : ∀ us ws : List Value, us.length = n → ws.length = ks.length → bindArgs fd ⟨us, ks.zip ws⟩ = pure (ps.zip (us ++ ws))) : KBn K fd ps n ks (fun us ws => us ++ ws) (fun vs zs => vs ++ zs) :=
  ⟨fun s us ws _ l1 l2 => .of_eq (h us ws l1 l2), fun r1 r2 => r1.append r2⟩
section
variable {X : Cx} {k n : Nat} {x : Str} {sp : Sp} {e : Expr} {es : List Expr} {kws : List Keyword} {ks : List Str} {t tk : TA} {p pos : Pos} {dv : List V}
theorem pe_clD (c : ClD X.prog X.w X.K X.mg X.base k x dv sp) (hr : Room k X.A) (hg : Gl X x) (ha : PA X (e :: es) t)
    (hdb : (x == ("__debug__" : Str)) = false := by decide) (he : starEach (e :: es) X.env = (false, eval e X.env) :: starEach es X.env := by rfl) (hpl : (backTo pos (starEach es X.env)).any (·.1) = false := by rfl) :
    PE X (.Call (.Name x p) (e :: es) [] pos) (tCall sp dv E0 t) := by
  obtain ⟨f, fd, ps, ds, F, hm, kp, b, vd⟩ := c.ex
  exact pe_call F hr hg hm kp b vd pass0 ha hdb he hpl
theorem pe_clK (c : ClK X.prog X.w X.K X.mg X.base k x n ks sp) (hr : Room k X.A) (hg : Gl X x) (ha : PA X (e :: es) t) (hkw : PK X kws tk)
    (hall : (backToKw pos (keywordEach kws X.env)).all (·.1.isSome) = true := by rfl) (hks : (backToKw pos (keywordEach kws X.env)).filterMap (·.1) = ks := by rfl)
    (hdb : (x == ("__debug__" : Str)) = false := by decide) (he : starEach (e :: es) X.env = (false, eval e X.env) :: starEach es X.env := by rfl)
    (hpl : ((backTo pos (starEach (e :: es) X.env)).any (·.1) || (backToKw pos (keywordEach kws X.env)).any (·.1.isNone)) = false := by rfl) :
    PE X (.Call (.Name x p) (e :: es) kws pos) (tCallN n ks.length sp (fun vs zs => vs ++ zs) E0 t tk) := by
  obtain ⟨f, fd, ps, F, hm, kp, b⟩ := c.ex
  exact pe_callN F hr hg hm kp b pass0 ha hkw hall hks hdb he hpl
end
/-- a target of four names -/
theorem pg_four {X : Cx} {K : PySem.W.Frag} {i j l m k : Nat} {x y z u : Str} {p1 p2 p3 p4 pos : Pos} (hK : X.K = K) (hc : X.calm = true) (hN : X.N.Nodup) (hi : X.N[i]? = some x) (hj : X.N[j]? = some y) (hl : X.N[l]? = some z) (hm : X.N[m]? = some u)
    (hx : Loc X.env.scope x) (hy : Loc X.env.scope y) (hz : Loc X.env.scope z) (hu : Loc X.env.scope u)
    (fx : X.fn x = true ∨ X.env.scope.names.lookup x = some .local := by first | exact .inl rfl | exact .inr rfl) (fy : X.fn y = true ∨ X.env.scope.names.lookup y = some .local := by first | exact .inl rfl | exact .inr rfl)
    (fz : X.fn z = true ∨ X.env.scope.names.lookup z = some .local := by first | exact .inl rfl | exact .inr rfl) (fu : X.fn u = true ∨ X.env.scope.names.lookup u = some .local := by first | exact .inl rfl | exact .inr rfl) :
    PG X (.Tuple [.Name x p1, .Name y p2, .Name z p3, .Name u p4] k pos) (gTup K 4 (gCons (gName i) (gCons (gName j) (gCons (gName l) (gCons (gName m) gNil))))) := by
  subst hK
  exact pg_tup hc (pgs_cons (pg_name hN hi hx fx) (pgs_cons (pg_name hN hj hy fy) (pgs_cons (pg_name hN hl hz fz) (pgs_cons (pg_name hN hm hu fu) pgs_nil))))
section
variable {X : Cx}
theorem fin_bl' {pins : List (Addr × Obj)} {σ : L2.St} {H : Hp} {s : Shared} {Q : VK} {b : Bool} (I : L2.Inv X pins σ H s) (q : Q (.bl b) H) : EP X pins σ Q (.bool b) s := ⟨.bl b, H, I, rfl, q⟩
theorem hits_dp {A : Around} {s : Shared} {H : Hp} {pins : List (Addr × Obj)} {σ : L2.St} (I : L2.Inv X pins σ H s) (hu : A.units + 64 < cLine) {kvs : List (Key × V)} {vb : List (Key × Value)} (rb : KV kvs vb) {ks : List (Key × V)} {va : List (Key × Value)} (ra : KV ks va) :
    (∀ p ∈ ks, ∃ y d, valV kvs p.1 = some y ∧ Dp X.K H p.2 d ∧ Dp X.K H y d ∧ PyData.plain d = true ∧ PyData.depth d ≤ 64) → PySem.W.KeqHits A s vb va true := by
  unfold KV at ra
  induction ra with
  | nil => intro _; exact .nil
  | @cons p q ps qs h t ih =>
    intro hp
    obtain ⟨h1, h2⟩ := h
    obtain ⟨y, d, e, dp, dy, pl, dep⟩ := hp p List.mem_cons_self
    have rr : RelO (some y) (valueAt vb p.1) := by rw [← e]; exact rb.val p.1
    obtain ⟨y', hy, ry⟩ := rr.some_of
    obtain ⟨k, v⟩ := q
    have h1' : p.1 = k := h1
    rw [h1'] at hy
    obtain ⟨as, r1⟩ := Dp.reads I d _ _ dp h2
    obtain ⟨bs, r2⟩ := Dp.reads I d _ _ dy ry
    have eq := SeqAt.eqAt_plain d d A s v y' as bs r1 r2 pl pl (by omega)
    rw [SeqAt.eqv_refl_plain _ pl] at eq
    show PySem.W.KeqHits A s vb ((k, v) :: qs) (true && true)
    exact .hit hy eq (ih fun p' hm => hp p' (List.mem_cons_of_mem _ hm))
/-- != of dicts that are alike, their values data -/
def rNeDP (K : PySem.W.Frag) : R2 := fun x y H Q => ∃ a b ks ls, x = .ref a ∧ y = .ref b ∧ H a = some (.dK ks) ∧ H b = some (.dK ls) ∧ ks.length = ls.length ∧
  (∀ p ∈ ks, ∃ y d, valV ls p.1 = some y ∧ Dp K H p.2 d ∧ Dp K H y d ∧ PyData.plain d = true ∧ PyData.depth d ≤ 64) ∧ Q (.bl false) H
theorem op_neDP (hu : X.A.units + 70 < cLine) : OpR X (compareOp .NotEq) (rNeDP X.K) := by
  intro pins s σ H x y v u Q I rx ry h
  obtain ⟨a, b, ks, ls, rfl, rfl, ea, eb, hlen, hp, q⟩ := h
  obtain rfl : v = Value.ref a := rx
  obtain rfl : u = Value.ref b := ry
  obtain ⟨_, ya, va, ra, da⟩ := (show ObjOk X.prog X.w H s.heap a (.dK ks) from I.hok a _ ea)
  obtain ⟨_, yb, vb, rb, db⟩ := (show ObjOk X.prog X.w H s.heap b (.dK ls) from I.hok b _ eb)
  have hl : va.length = vb.length := by rw [← ra.length, ← rb.length]; exact hlen
  refine PySem.W.keq_ne (knd := mixKind X.prog X.w) (r := true) ya yb da db (by omega) (fun _ => hits_dp I (by first | (show X.A.units + 64 < cLine; omega) | (show X.A.units + 1 + 64 < cLine; omega)) rb ra hp) ?_
  have e : (!(va.length == vb.length && true)) = false := by simp [hl]
  rw [e]
  exact fin_bl' I q
/-- d.update(e) -/
def rUpd : V → List V → Hp → VK → Prop := fun x xs H Q => ∃ (a b : Addr) (ks ls : List (Key × V)), x = .ref a ∧ xs = [.ref b] ∧ a ≠ b ∧ H a = some (.dK ks) ∧ H b = some (.dK ls) ∧ ks.length + ls.length ≤ sizeLine ∧ Q .non (upd H a (.dK (mergeK ks ls)))
theorem mt_upd : MtR X "dict.update" rUpd := by
  intro pins s σ H x xs v us Q I rx rxs h
  obtain ⟨a, b, ks, ls, rfl, rfl, ne, ea, eb, z, q⟩ := h
  obtain rfl : v = Value.ref a := rx
  obtain ⟨u, rfl, ru⟩ := vals1 rxs
  obtain rfl : u = Value.ref b := ru
  obtain ⟨z1, ya, va, ra, da⟩ := (show ObjOk X.prog X.w H s.heap a (.dK ks) from I.hok a _ ea)
  obtain ⟨z2, yb, vb, rb, db⟩ := (show ObjOk X.prog X.w H s.heap b (.dK ls) from I.hok b _ eb)
  refine call_meetsIn PySem.F.slot_dict_update da.typeIs PySem.F.entry_dict_update (PySem.F.args_dict_update_2 _ _) (meets_dict_update (mixKind X.prog X.w) a b ne yb) ⟨va, vb, da, db, by rw [← ra.length, ← rb.length]; exact z, fun h' da' db' hs => ?_⟩
  have he : ∃ q, h'.get? a = some q := let ⟨q, _, _, hq, _⟩ := da'; ⟨q, hq⟩
  have hl : (mergeK ks ls).length ≤ sizeLine := Nat.le_trans (length_mergeK ls ks) z
  exact ⟨.non, upd H a (.dK (mergeK ks ls)), d_write I (by rw [ea]; exact True.intro) hs he (dk_new hl ya (KV.merge rb ra) da'), rfl, q⟩
end
end SG
/-! methods by their contracts -/
namespace SG
open PySem PySem.Spec PyProof.Rows L2
/-- a method as the top has left it -/
structure Dm (K : PySem.W.Frag) (mg : Str → Option Value) (C : Addr) (m qual : Str) (st : Stmt) (ps : List Str) : Prop where
  ex : ∃ (f : Addr) (fd : FuncData), Cls K C ∧ Meth K C m f ∧ Fun K m qual st f fd ∧ Binds K fd ps []
/-- a class as the top has left it, by its __init__ -/
structure Di (K : PySem.W.Frag) (mg : Str → Option Value) (x : Str) (C : Addr) (qual : Str) (st : Stmt) (ps : List Str) : Prop where
  ex : ∃ (f : Addr) (fd : FuncData), Mk K C f ∧ mg x = some (.ref C) ∧ Fun K "__init__" qual st f fd ∧ Binds K fd ps []
section
variable {P : Program} {w : World} {K : PySem.W.Frag} {mg : Str → Option Value} {base : Heap}
theorem Dm.ok {C : Addr} {m qual : Str} {st : Stmt} {N ps : List Str} {k : Nat} {sp : Sp} (D : Dm K mg C m qual st ps) (S : FnScope N ps (defScope st)) (len : ∀ vs H Q E, sp vs H Q E → vs.length = ps.length)
    (hbody : ∀ (f : Addr) (cdv : Value) (A : Around) (outer : List Env) (s : Shared) (H : Hp) (vs : List V) (Q : VK) (E : XK), Room k (A.deeper (envOfC qual (defScope st) s.heap.objs.size f cdv)) → sp vs H Q E →
      ∃ t, PSs (cxOf CX0 P w K mg base N qual (defScope st) f cdv A outer s H E).nox (defBody st) t ∧ t { nx := fun _ H' => Q .non H', rt := Q } (start N vs) H) : C8.Met P w K mg base (k + 1) C m sp [] := by
  obtain ⟨f, fd, c, me, F, b⟩ := D.ex
  exact ⟨f, fd, ps, [], c, me, F.ok S len (fun cdv A outer s H vs Q E hr h => hbody f cdv A outer s H vs Q E hr h), b, .nil⟩
theorem Dm.none {C : Addr} {m qual : Str} {st : Stmt} {ps : List Str} {sp : Sp} (D : Dm K mg C m qual st ps) (no : ∀ vs H Q E, ¬ sp vs H Q E) : C8.Met P w K mg base 0 C m sp [] := by
  obtain ⟨f, fd, c, me, F, b⟩ := D.ex
  exact ⟨f, fd, ps, [], c, me, ⟨fun vs H Q E h => absurd h (no vs H Q E), fun A outer s H args us vs Q E _ _ _ _ h => absurd h (no vs H Q E)⟩, b, .nil⟩
theorem Di.ok {C : Addr} {x qual : Str} {st : Stmt} {N ps : List Str} {k : Nat} {sp : Sp} (D : Di K mg x C qual st ps) (S : FnScope N ps (defScope st)) (len : ∀ vs H Q E, sp vs H Q E → vs.length = ps.length)
    (hbody : ∀ (f : Addr) (cdv : Value) (A : Around) (outer : List Env) (s : Shared) (H : Hp) (vs : List V) (Q : VK) (E : XK), Room k (A.deeper (envOfC qual (defScope st) s.heap.objs.size f cdv)) → sp vs H Q E →
      ∃ t, PSs (cxOf CX0 P w K mg base N qual (defScope st) f cdv A outer s H E).nox (defBody st) t ∧ t { nx := fun _ H' => Q .non H', rt := Q } (start N vs) H) : C8.Mak P w K mg base (k + 1) x C sp [] := by
  obtain ⟨f, fd, me, m, F, b⟩ := D.ex
  exact ⟨f, fd, ps, [], me, F.ok S len (fun cdv A outer s H vs Q E hr h => hbody f cdv A outer s H vs Q E hr h), m, b, .nil⟩
theorem met_imp {C : Addr} {m : Str} {k : Nat} {sp sp' : Sp} (c : C8.Met P w K mg base k C m sp []) (h : ∀ vs H Q E, sp' vs H Q E → sp vs H Q E) : C8.Met P w K mg base k C m sp' [] := by
  obtain ⟨f, fd, ps, ds, hc, hm, F, b, d⟩ := c.ex
  exact ⟨f, fd, ps, ds, hc, hm, F.imp h, b, d⟩
theorem met_mono {C : Addr} {m : Str} {j k : Nat} {sp : Sp} (c : C8.Met P w K mg base j C m sp []) (h : j ≤ k) : C8.Met P w K mg base k C m sp [] := by
  obtain ⟨f, fd, ps, ds, hc, hm, F, b, d⟩ := c.ex
  exact ⟨f, fd, ps, ds, hc, hm, F.mono h, b, d⟩
end
end SG
/-! slices by a step, texts some times -/
namespace SG
open PySem PySem.Spec PyProof.Rows L2
section
variable {X : Cx}
/-- a text some times -/
def timesS (a : Str) (n : Nat) : Str := ⟨(List.replicate n a.cps).foldl (· ++ ·) #[]⟩
theorem timesS_one (a : Str) : timesS a 1 = a := by
  unfold timesS
  show (⟨#[] ++ a.cps⟩ : Str) = a
  rw [Array.empty_append]
theorem fold_nil {α : Type} {z : Array α} (h : z = #[]) : ∀ (n : Nat), (List.replicate n z).foldl (· ++ ·) #[] = #[]
  | 0 => rfl
  | n + 1 => by
    subst h
    rw [List.replicate_succ, List.foldl_cons]
    show List.foldl _ (#[] ++ #[]) _ = _
    rw [Array.empty_append]
    exact fold_nil rfl n
theorem fold_size {α : Type} (z : Array α) : ∀ (n : Nat) (b : Array α), ((List.replicate n z).foldl (· ++ ·) b).size = b.size + n * z.size
  | 0, b => by simp
  | n + 1, b => by
    rw [List.replicate_succ, List.foldl_cons, fold_size z n, Array.size_append, Nat.succ_mul]
    omega
theorem timesS_nil {a : Str} (z : a.cps.size = 0) (n : Nat) : timesS a n = a := by
  have e : a.cps = #[] := Array.eq_empty_of_size_eq_zero z
  unfold timesS
  rw [fold_nil e n]
  cases a
  simp at e
  rw [e]
theorem timesS_len (a : Str) (n : Nat) : (timesS a n).length = n * a.length := by
  show ((List.replicate n a.cps).foldl (· ++ ·) #[]).size = _
  rw [fold_size]
  simp
  rfl
theorem timesS_size (a : Str) (n : Nat) (h3 : a.length ≤ 1000) (h2 : n ≤ 1000) : (timesS a n).length ≤ sizeLine := by
  rw [timesS_len]
  exact Nat.le_trans (Nat.mul_le_mul h2 h3) (by decide)
def rMulS : R2 := fun x y H Q => ∃ (a : Str) (n : Nat), x = .str a ∧ y = .int (n : Int) ∧ 1 ≤ n ∧ n ≤ 1000 ∧ a.length ≤ 1000 ∧ Q (.str (timesS a n)) H
theorem op_mulS : OpR X (binaryOp .Mult) rMulS := by
  intro pins s σ H x y v u Q I rx ry h
  obtain ⟨a, n, rfl, rfl, h1, h2, h3, q⟩ := h
  obtain ⟨t, rfl⟩ := rx
  obtain ⟨t', rfl⟩ := ry
  have n0 : ¬ (n : Int) < 1 := by omega
  have hs : a.length * n ≤ 1000000 := Nat.mul_le_mul h3 h2
  refine PySem.P.mul_str ?_ (fun _ _ => ?_) (fun _ _ => ?_) ?_
  · have a1 : ¬ (n : Int) < -(2 ^ 63 : Int) := by omega
    have a2 : ¬ (n : Int) ≥ 2 ^ 63 := by omega
    rw [decide_eq_false a1, decide_eq_false a2]
    rfl
  · have : (1000 : Int) ≤ (2 ^ 63 - 1) / (n : Int) := by
      rw [Int.le_ediv_iff_mul_le (by omega)]
      omega
    omega
  · rw [Int.toNat_natCast]
    exact decide_eq_false (by show ¬ _ > _; intro z; have := Nat.lt_of_lt_of_le z hs; revert this; decide)
  · rw [if_neg n0]
    by_cases e : ((n : Int) == 1 || a.length == 0) = true
    · rw [if_pos e]
      have et : timesS a n = a := by
        rcases Bool.or_eq_true _ _ |>.mp e with e | e
        · have : n = 1 := by have := eq_of_beq e; omega
          rw [this, timesS_one]
        · have z : a.cps.size = 0 := eq_of_beq e
          exact timesS_nil z n
      rw [et] at q
      exact ⟨.str a, H, I, ⟨t, rfl⟩, q⟩
    · rw [if_neg e, Int.toNat_natCast]
      exact ⟨timesS_size a n h3 h2, .str _, H, I.tok _, ⟨_, rfl⟩, q⟩
theorem _root_.L2.Vals.places {xs : List V} {us : List Value} (r : Vals xs us) : ∀ is : List Nat, ∃ ys : List V, Vals ys (is.filterMap (us[·]?)) ∧ ∀ y ∈ ys, y ∈ xs
  | [] => ⟨[], .nil, fun y h => nomatch h⟩
  | i :: is => by
    obtain ⟨ys, h1, h2⟩ := L2.Vals.places r is
    rw [List.filterMap_cons]
    cases e : xs[i]? with
    | none =>
      have e2 := r.none_of e
      rw [e2]
      exact ⟨ys, h1, h2⟩
    | some x =>
      obtain ⟨u, e2, rx⟩ := r.get e
      rw [e2]
      refine ⟨x :: ys, .cons rx h1, fun y hy => ?_⟩
      rcases List.mem_cons.mp hy with rfl | hy
      · exact List.mem_of_getElem? e
      · exact h2 y hy
def tStepL (K : PySem.W.Frag) (te : TE) (tl : TO) : TE := fun σ H Q => te σ H fun x H1 => tl σ H1 fun lo H2 => ∃ a xs, x = .ref a ∧ SqL K H2 a xs ∧ ∀ p ys, H2 p = none → (∀ y ∈ ys, y ∈ xs) → ys.length ≤ xs.length → Q (.ref p) (upd H2 p (.lst ys))
theorem pe_stepL {e : Expr} {te : TE} {lo : Option Expr} {tl : TO} {j : Nat} {k : Int} {p0 p2 pos : Pos} (he : PE X e te) (hl : PO X lo tl) (hk : some k ≠ some 0 := by decide) :
    PE X (.Subscript e (.Slice lo none (some (.Constant (.int k) j p0)) p2) pos) (tStepL X.K te tl) := by
  have hs : PO X (some (.Constant (.int k) j p0)) _ := po_some pe_int
  constructor
  intro pins s σ H Q I h
  refine Subscript_ (thn (he.run pins s σ H _ I h) ?_)
  rintro v s1 ⟨x, H1, I1, r1, q1⟩
  refine wpAny_Slice (thn (hl.run pins s1 σ H1 _ I1 q1) ?_)
  rintro vl s2 ⟨l, H2, I2, pl, a, xs, rfl, sq, q⟩
  obtain rfl : v = .ref a := r1
  rw [evalPart_none]
  refine wpAny_pure ?_
  refine thn (hs.run pins s2 σ H2 (fun o H3 => o = some k ∧ H3 = H2) I2 ?_) ?_
  · exact ⟨_, rfl, rfl, rfl⟩
  rintro vk s3 ⟨u, H3, I3, pu, rfl, rfl⟩
  have I4 : L2.Inv X pins σ H3 { s3 with heap := s3.heap.push { cls := .type "slice", data := .fields #[vl, .none, vk] } } := I3.kept (t' := s3.toks) fun b ob q => Heap.get?_push_of_some _ q
  obtain ⟨its, r, ht, hz⟩ := I4.list sq
  have many : its.toArray.size = xs.length := by rw [List.size_toArray]; exact r.length.symm
  refine tail_any (ops := [.ref a, .ref s3.heap.objs.size]) ht.isList.typeIs slot_list_getitem.lookup (wpAny_getItem_list_slice ht.isList (Heap.IsSliceOf.new ..) pl .none pu hk ?_ (by rw [many]; exact hz)) (by with_unfolding_all rfl)
  have small := slicePick_size_le its.toArray l none (some k)
  obtain ⟨ys, ry, hy⟩ := r.places (sliceRange (sliceBounds l none (some k) its.toArray.size).1 (sliceBounds l none (some k) its.toArray.size).2.1 (sliceBounds l none (some k) its.toArray.size).2.2)
  have e : slicePick its.toArray l none (some k) = ((sliceRange (sliceBounds l none (some k) its.toArray.size).1 (sliceBounds l none (some k) its.toArray.size).2.1 (sliceBounds l none (some k) its.toArray.size).2.2).filterMap (its[·]?)).toArray := by
    simp [slicePick]
  rw [e] at small ⊢
  have ly : ys.length ≤ xs.length := by
    rw [ry.length, ← many]
    simpa using small
  refine ⟨.ref _, _, I4.laid (t' := s3.toks) (o := .lst ys) (fun b ob q => Heap.get?_push_of_some _ q) (Nat.le_refl _) ?_, rfl, q _ ys (I4.hok.fresh (Nat.le_refl _)) hy ly⟩
  exact ⟨Nat.le_trans ly hz, _, 0, ry, Heap.get?_push_size _ rfl⟩
theorem pe_revFK {K : PySem.W.Frag} {e : Expr} {te : TE} {j : Nat} {p0 p1 p2 pos : Pos} (he : PE X e te) (hK : X.K = K := by rfl) : PE X (.Subscript e (.Slice none none (some (.UnaryOp .USub (.Constant (.int 1) j p0) p1)) p2) pos) (tRevF K te) := by
  subst hK
  exact pe_revF he
theorem pe_bm0K {K : PySem.W.Frag} {T name id : String} {r : V → List V → Hp → VK → Prop} {o : Expr} {to : TE} {apos cpos : Pos} (pa : PlainAttrs T) (slot : Slot T name id) (hty : typeOf (.builtin id) = pure (.type "method_descriptor")) (hm : MtR X id r) (ho : PE X o to) (hK : X.K = K := by rfl)
    (hbase : attributeBase o name X.env (eval o X.env) = eval o X.env := by rfl) (hline : (apos.endLine == cpos.line) = true := by rfl) : PE X (.Call (.Attribute o name apos) [] [] cpos) (tBM0 K T r to) := by
  subst hK
  exact pe_bm0 pa slot hty hm ho hbase hline
/-- a walk over a dict that is new: locked from there on -/
def iKeysZ (td : TE) : TI := fun σ H R => td σ H fun x H1 => ∃ d kvs, x = .ref d ∧ H1 d = some (.dK kvs) ∧ ∀ od, R (Itk d od kvs) (upd H1 d (.frz od (.dK kvs)))
theorem pi_keysZ {tg e : Expr} {td : TE} (he : PE X e td) : PI X tg e (iKeysZ td) := by
  refine ⟨fun pins s σ H R I h => ?_⟩
  refine thn (he.run pins s σ H _ I h) fun u s1 ⟨x, H1, I1, rx, d, kvs, ex, hd, q⟩ => ?_
  subst ex
  obtain rfl : u = Value.ref d := rx
  obtain ⟨od, I2⟩ := I1.lock hd trivial
  obtain ⟨hs, hgd, hx, es, ep, vs, hdt, hsz, kv, hm⟩ := I2.frzK upd_same
  refine iter_keys hs hgd hx hdt (pi_one (tk := s1.toks) I2 _ (turn_keys _ hdt) ⟨_, Heap.get?_push_size _ rfl, rfl, ?_⟩ (q od))
  rw [hsz] <;> rfl
end
end SG
namespace SG
open PySem PySem.Spec PyProof.Rows L2
/-! ### isinstance with a tuple of classes over data -/
def tyD : PyData → String
  | .none => "NoneType"
  | .bool _ => "bool"
  | .int _ => "int"
  | .str _ => "str"
  | .list _ => "list"
  | .tuple _ => "tuple"
  | .dict _ => "dict"
theorem tyx_dp {K : PySem.W.Frag} {H : Hp} {x : V} {d : PyData} (h : Dp K H x d) : TyX K H x (.type (tyD d)) := by
  cases h with
  | non => exact .base .non
  | bl b => exact .base (.bl b)
  | int i => exact .base (.int i)
  | str z => exact .base (.str z)
  | lst h _ =>
    rcases h with (h | ⟨o, h⟩) | h
    · exact .base (.lst h)
    · exact .base (.frz h)
    · obtain ⟨o, its, n, e, c, _⟩ := h
      exact .kList e c
  | tup h _ =>
    rcases h with (h | ⟨o, h⟩) | h
    · exact .base (.tup h)
    · exact .fTuple h
    · obtain ⟨o, its, n, e, c, _⟩ := h
      exact .kTuple e c
theorem kit_two {K : PySem.W.Frag} {t a b : String} {r1 r2 : Bool} (h1 : kitB t a = some r1) (h2 : kitB t b = some r2) : PySem.W.kitAny K (.type t) [.type a, .type b] = some (r1 || r2) :=
  kitAny_cons (b := r1) (kit_ty h1) (fun e => kitAny_cons (b := r2) (kit_ty h2) (fun e2 => by rw [e, e2]; exact kitAny_nil) (fun e2 => by rw [e2]; simp)) (fun e => by rw [e]; rfl)
/-- isinstance(x, (tuple, list)) -/
theorem kit_tl (K : PySem.W.Frag) : ∀ d : PyData, PySem.W.kitAny K (.type (tyD d)) [.type "tuple", .type "list"] = some (PyData.isTuple d || PyData.isList d)
  | .none => kit_two (t := "NoneType") (r1 := false) (r2 := false) (by decide +kernel) (by decide +kernel)
  | .bool _ => kit_two (t := "bool") (r1 := false) (r2 := false) (by decide +kernel) (by decide +kernel)
  | .int _ => kit_two (t := "int") (r1 := false) (r2 := false) (by decide +kernel) (by decide +kernel)
  | .str _ => kit_two (t := "str") (r1 := false) (r2 := false) (by decide +kernel) (by decide +kernel)
  | .list _ => kit_two (t := "list") (r1 := false) (r2 := true) (by decide +kernel) (by decide +kernel)
  | .tuple _ => kit_two (t := "tuple") (r1 := true) (r2 := false) (by decide +kernel) (by decide +kernel)
  | .dict _ => kit_two (t := "dict") (r1 := false) (r2 := false) (by decide +kernel) (by decide +kernel)
/-- isinstance(x, (bool, int)) -/
theorem kit_bi (K : PySem.W.Frag) : ∀ d : PyData, PySem.W.kitAny K (.type (tyD d)) [.type "bool", .type "int"] = some (PyData.isBool d || PyData.isInt d)
  | .none => kit_two (t := "NoneType") (r1 := false) (r2 := false) (by decide +kernel) (by decide +kernel)
  | .bool _ => kit_two (t := "bool") (r1 := true) (r2 := true) (by decide +kernel) (by decide +kernel)
  | .int _ => kit_two (t := "int") (r1 := false) (r2 := true) (by decide +kernel) (by decide +kernel)
  | .str _ => kit_two (t := "str") (r1 := false) (r2 := false) (by decide +kernel) (by decide +kernel)
  | .list _ => kit_two (t := "list") (r1 := false) (r2 := false) (by decide +kernel) (by decide +kernel)
  | .tuple _ => kit_two (t := "tuple") (r1 := false) (r2 := false) (by decide +kernel) (by decide +kernel)
  | .dict _ => kit_two (t := "dict") (r1 := false) (r2 := false) (by decide +kernel) (by decide +kernel)
theorem isT_tl {K : PySem.W.Frag} {H : Hp} {x : V} {d : PyData} {tp : Addr} {Q : VK} (h : Dp K H x d) (ht : H tp = some (.tup [.ty "tuple", .ty "list"])) (q : Q (.bl (PyData.isTuple d || PyData.isList d)) H) : rIsiT K [x, .ref tp] H Q :=
  ⟨x, tp, _, _, _, _, rfl, ht, .cons (.ty _) (.cons (.ty _) .nil), tyx_dp h, kit_tl K d, q⟩
theorem isT_bi {K : PySem.W.Frag} {H : Hp} {x : V} {d : PyData} {tp : Addr} {Q : VK} (h : Dp K H x d) (ht : H tp = some (.tup [.ty "bool", .ty "int"])) (q : Q (.bl (PyData.isBool d || PyData.isInt d)) H) : rIsiT K [x, .ref tp] H Q :=
  ⟨x, tp, _, _, _, _, rfl, ht, .cons (.ty _) (.cons (.ty _) .nil), tyx_dp h, kit_bi K d, q⟩
section
variable {X : Cx}
theorem call_isList : CallR X (.builtin "isinstance") (rIsD X.K "list" PyData.isList) := by
  intro pins s σ H xs us Q I r h
  obtain ⟨x, d, rfl, D, q⟩ := h
  obtain ⟨u, c, rfl, rv, rc⟩ := vals2 r
  obtain rfl : c = Value.type "list" := rc
  obtain ⟨as, rd⟩ := Dp.reads I _ _ _ D rv
  exact PySem.W.isinstance_list_data rd fun tk _ => ⟨.bl _, H, I.tok tk, rfl, q⟩
end
end SG
/-! sum of lists -/
namespace SG
open PySem PySem.Spec PyProof.Rows L2
theorem args_sum2 (a b : Value) : argsOk "sum" ⟨[a, b], []⟩ := by unfold argsOk; kernel_rfl
theorem sub_l_str : isSubtype (.type "list") (.type "str") = pure false := by rw [isSubtype_type]; kernel_rfl
theorem sub_l_bytes : isSubtype (.type "list") (.type "bytes") = pure false := by rw [isSubtype_type]; kernel_rfl
theorem sub_l_barr : isSubtype (.type "list") (.type "bytearray") = pure false := by rw [isSubtype_type]; kernel_rfl
section
variable {prog : Program} {w : World} {A : Around} {R : Result → Shared → Prop}
theorem codeAny_sum_lists (hh : A.in1.handled = none) (I l S : Addr) (its : Array Value) (hne : l ≠ I) (hSI : S ≠ I) (hSl : S ≠ l) :
    ∀ (rest : List (Addr × List Value)) (i : Nat) (s : Shared) (c n : Nat) (st : Int) (T : Addr) (acc : List Value), st = 2 → i + rest.length = its.size →
      (∀ j p, rest[j]? = some p → its[i + j]? = some (.ref p.1) ∧ (∃ m, IsL s.heap p.1 p.2.toArray m) ∧ p.1 ≠ I ∧ p.1 ≠ S) →
      s.heap.IsListIter I l i → s.heap.IsList l its → s.heap.get? S = some { cls := .type "list", dict := none, data := .seq #[.ref T] c, slots := #[] } → IsL s.heap T acc.toArray n → T ≠ I → T ≠ S →
      acc.length + (rest.map (·.2)).flatten.length ≤ sizeLine →
      (∀ (h' : Heap) tk T', (∀ b o, b ≠ I → b ≠ S → s.heap.get? b = some o → h'.get? b = some o) → (∃ n', IsL h' T' (acc ++ (rest.map (·.2)).flatten).toArray n') → (rest = [] → T' = T) → (rest ≠ [] → s.heap.objs.size ≤ T') → R (.ok (.ret (.ref T'))) { s with heap := h', toks := tk }) →
      codeAny (model prog w) A (.builtin "sum.loop" ⟨[.ref I, .ref S, rawInt st, rawInt 0], []⟩) R s := by
  intro rest
  induction rest with
  | nil =>
    intro i s c n st T acc e2 hi hr hit hl hS hT hTI hTS hz hR
    subst e2
    refine codeAny_builtin F.entry_sum_loop ?_
    rw [Around.under_plainId F.plain_sum_loop _]
    show wpAny _ A.in1 (seqItems? (.ref S) >>= _) _ _ s
    refine wpAny_bind (wpAny_seqItems hS rfl ?_)
    show wpAny _ A.in1 (tryCatch (pyNext (.ref I)) _ >>= _) _ _ s
    refine wpAny_bind (wpAny_tryCatch (wpAny_pyNext_list_end hh hit hl (by simp at hi; simp; omega) fun h' he' => ?_))
    refine wpAny_pure (hR h' s.toks T (fun b o hb _ e => he' b o hb e) ?_ (fun _ => rfl) fun z => absurd rfl z)
    exact ⟨n, by simpa using he' _ _ hTI hT⟩
  | cons p rest ih =>
    intro i s c n st T acc e2 hi hr hit hl hS hT hTI hTS hz hR
    subst e2
    obtain ⟨p1, ys⟩ := p
    obtain ⟨hp, ⟨m, hm⟩, hpI, hpS⟩ := hr 0 _ rfl
    have hlt : i < its.size := by rw [List.length_cons] at hi; omega
    refine codeAny_builtin F.entry_sum_loop ?_
    rw [Around.under_plainId F.plain_sum_loop _]
    show wpAny _ A.in1 (seqItems? (.ref S) >>= _) _ _ s
    refine wpAny_bind (wpAny_seqItems hS rfl ?_)
    show wpAny _ A.in1 (tryCatch (pyNext (.ref I)) _ >>= _) _ _ s
    refine wpAny_bind (wpAny_tryCatch (wpAny_pyNext_list_item hit hl (x := .ref p1) (by simpa using hp) fun h' hit' hs' => ?_))
    have k1 : ∀ b o, b ≠ I → s.heap.get? b = some o → h'.get? b = some o := fun b o hb e => hs'.extBut b o hb e
    have hS' := k1 S _ hSI hS
    have hT' := k1 T _ hTI hT
    have hm' := k1 p1 _ hpI hm
    have fl : ((((p1, ys) :: rest).map (·.2)).flatten).length = ys.length + ((rest.map (·.2)).flatten).length := by simp
    rw [fl] at hz
    have hz1 : acc.length + ys.length ≤ sizeLine := by omega
    show wpAny _ A.in1 ((holding [Value.ref p1] (binaryOp .Add (.ref T) (.ref p1))).attempt >>= _) _ _ _
    refine wpAny_bind (wpAny_attempt (wpAny_holding (PySem.P.add_list hT' hm' ?_ (by rw [List.size_toArray, List.size_toArray]; exact hz1))))
    have ea : acc.toArray ++ ys.toArray = (acc ++ ys).toArray := by simp
    rw [ea]
    have hN : IsL (h'.push { cls := .type "list", data := .seq (acc ++ ys).toArray }) h'.objs.size (acc ++ ys).toArray 0 := IsL.new _ _
    have k2 : ∀ b o, h'.get? b = some o → (h'.push { cls := .type "list", data := .seq (acc ++ ys).toArray }).get? b = some o := fun b o e => Heap.get?_push_of_some _ e
    have hS2 := k2 _ _ hS'
    have sz : s.heap.objs.size ≤ h'.objs.size := Nat.le_of_eq hs'.1.symm
    have nI : h'.objs.size ≠ I := fun z => by obtain ⟨o, e, _⟩ := hit'; rw [← z] at e; exact absurd (Heap.lt_size e) (Nat.lt_irrefl _)
    have nS : h'.objs.size ≠ S := fun z => by rw [← z] at hS'; exact absurd (Heap.lt_size hS') (Nat.lt_irrefl _)
    show wpAny _ A.in1 (updateSeq S (fun _ => #[Value.ref h'.objs.size]) >>= _) _ _ _
    refine wpAny_bind (wpAny_updateSeq hS2 rfl ?_)
    have hS3 := Heap.get?_update_self (Obj.mapSeq fun _ => #[Value.ref h'.objs.size]) hS2 rfl
    refine wpAny_bind (wpAny_letGo ?_)
    refine wpAny_bind (wpAny_updateSeq hS3 rfl (wpAny_pure ⟨plainId_quiet F.plain_sum_loop _, ?_⟩))
    have kk : ∀ b o, b ≠ S → h'.get? b = some o → (((h'.push { cls := .type "list", data := .seq (acc ++ ys).toArray }).update S (Obj.mapSeq fun _ => #[Value.ref h'.objs.size])).update S (Obj.mapSeq fun _ => #[Value.ref h'.objs.size])).get? b = some o := fun b o hb e =>
      (Heap.get?_update_other _ _ (fun h : S = b => hb h.symm)).trans ((Heap.get?_update_other _ _ (fun h : S = b => hb h.symm)).trans (k2 b o e))
    have hN2 := (hN.update_other (fun z : S = _ => nS z.symm) (Obj.mapSeq fun _ => #[Value.ref h'.objs.size])).update_other (fun z : S = _ => nS z.symm) (Obj.mapSeq fun _ => #[Value.ref h'.objs.size])
    refine ih (i + 1) _ _ 0 2 h'.objs.size (acc ++ ys) rfl (by rw [List.length_cons] at hi; omega) ?_ (hit'.at fun o e => kk _ _ hSI.symm e) ((hl.at fun o e => kk _ _ hSl.symm (k1 _ _ hne e))) (Heap.get?_update_self _ hS3 rfl) hN2 nI nS (by rw [List.length_append]; omega) ?_
    · intro j p hp'
      obtain ⟨q1, ⟨m', q2⟩, q3, q4⟩ := hr (j + 1) p (by simpa using hp')
      exact ⟨by rw [show i + 1 + j = i + (j + 1) by omega]; exact q1, ⟨m', kk _ _ q4 (k1 _ _ q3 q2)⟩, q3, q4⟩
    · intro h'' tk T' kp hT'' e0 e1
      refine hR h'' tk T' (fun b o h1 h2 e => kp b o h1 h2 (kk b o h2 (k1 b o h1 e))) ?_ (fun z => nomatch z) fun _ => ?_
      · simpa [List.append_assoc] using hT''
      · by_cases er : rest = []
        · rw [e0 er]; exact sz
        · refine Nat.le_trans sz (Nat.le_trans ?_ (e1 er))
          rw [Heap.size_update, Heap.size_update, Heap.size_push]
          exact Nat.le_succ _
theorem call_sum_lists {l b : Addr} {its : Array Value} {n : Nat} {E : Value → Shared → Prop} {s : Shared} {Q : Value → Shared → Prop} (hh : A.handled = none) (hl : s.heap.IsList l its) (hb : IsL s.heap b #[] n) (rest : List (Addr × List Value)) (hlen : rest.length = its.size)
    (hr : ∀ (j : Nat) (p : Addr × List Value), rest[j]? = some p → its[j]? = some (Value.ref p.1) ∧ ∃ m, IsL s.heap p.1 p.2.toArray m) (hne : rest ≠ []) (hz : (rest.map (·.2)).flatten.length ≤ sizeLine)
    (hq : ∀ (h' : Heap) tk T, (∀ b o, s.heap.get? b = some o → h'.get? b = some o) → (∃ n', IsL h' T (rest.map (·.2)).flatten.toArray n') → s.heap.objs.size ≤ T → Q (.ref T) { s with heap := h', toks := tk }) :
    wpAny (model prog w) A (call (.builtin "sum") [.ref l, .ref b]) Q E s := by
  refine call_function_tree F.kind_sum F.plain_sum F.entry_sum (args_sum2 _ _) ?_
  unfold Builtin.«sum»
  simp only [List.length_cons, List.length_nil]
  rw [if_neg (by decide)]
  refine wpAny_bind (wpAny_of_eq (show Builtin.Builtins.bindParams "sum" ["start"] 0 ⟨[Value.ref b], []⟩ = pure [some (.ref b)] from rfl) ?_)
  refine wpAny_bind (wpAny_pyIter_list hl ?_)
  refine wpAny_bind (wpAny_pure ?_)
  simp only [List.forIn_cons, List.forIn_nil]
  have hb2 : IsL (s.heap.push { cls := .type "list_iterator", data := .fields #[.ref l, .int 0 0] }) b #[] n := hb.push _
  refine wpAny_bind (wpAny_bind (wpAny_bind (wpAny_isInstance (T := "list") (b := false) hb2.isList.typeIs sub_l_str ?_)))
  simp only [Bool.false_eq_true, if_false]
  refine wpAny_pure (wpAny_bind (wpAny_bind (wpAny_isInstance (T := "list") (b := false) hb2.isList.typeIs sub_l_bytes ?_)))
  simp only [Bool.false_eq_true, if_false]
  refine wpAny_pure (wpAny_bind (wpAny_bind (wpAny_isInstance (T := "list") (b := false) hb2.isList.typeIs sub_l_barr ?_)))
  simp only [Bool.false_eq_true, if_false]
  refine wpAny_pure (wpAny_pure ?_)
  refine wpAny_bind (wpAny_newObj_type ?_)
  have e1 : (s.heap.push { cls := .type "list_iterator", data := .fields #[.ref l, .int 0 0] }).objs.size = s.heap.objs.size + 1 := Heap.size_push ..
  have ll : l < s.heap.objs.size := by obtain ⟨o, ho, _⟩ := hl; exact Heap.lt_size ho
  have lb : b < s.heap.objs.size := Heap.lt_size hb
  refine wpAny_pure ⟨plainId_quiet F.plain_sum_loop _, codeAny_sum_lists (A := A) hh s.heap.objs.size l _ its (Nat.ne_of_lt ll) ?_ ?_ rest 0 _ 0 n 2 b [] rfl (by omega) ?_ ?_ ?_ (Heap.get?_push_size _ rfl) ?_ (Nat.ne_of_lt lb) ?_ (by simpa using hz) ?_⟩
  · show (s.heap.push _).objs.size ≠ _
    rw [e1]; exact Nat.succ_ne_self _
  · show (s.heap.push _).objs.size ≠ _
    rw [e1]; exact Nat.ne_of_gt (Nat.lt_succ_of_lt ll)
  · intro j p hp
    obtain ⟨q1, m, q2⟩ := hr j p hp
    refine ⟨by rw [Nat.zero_add]; exact q1, ⟨m, ?_⟩, Nat.ne_of_lt (Heap.lt_size q2), ?_⟩
    · exact Heap.get?_push_of_some _ (Heap.get?_push_of_some _ q2)
    · show p.1 ≠ (s.heap.push _).objs.size
      rw [e1]
      exact Nat.ne_of_lt (Nat.lt_succ_of_lt (Heap.lt_size q2))
  · exact ⟨_, Heap.get?_push_of_some _ (Heap.get?_push_size _ rfl), rfl, rfl⟩
  · exact (hl.push _).push _
  · exact Heap.get?_push_of_some _ (Heap.get?_push_of_some _ hb)
  · show b ≠ (s.heap.push _).objs.size
    rw [e1]; exact Nat.ne_of_lt (Nat.lt_succ_of_lt lb)
  · intro h' tk T' kp hT e0 e1'
    refine hq h' tk T' (fun c o e => ?_) (by simpa using hT) ?_
    · have := Heap.lt_size e
      exact kp c o (Nat.ne_of_lt this) (by show c ≠ (s.heap.push _).objs.size; rw [e1]; exact Nat.ne_of_lt (Nat.lt_succ_of_lt this)) (Heap.get?_push_of_some _ (Heap.get?_push_of_some _ e))
    · have := e1' hne
      simp only [Heap.size_push] at this
      exact Nat.le_trans (Nat.le_succ _) (Nat.le_trans (Nat.le_succ _) this)
end
/-- sum of lists, begun with an empty one -/
def rSumL (K : PySem.W.Frag) : List V → Hp → VK → Prop := fun xs H Q => ∃ (a b : Addr) (ps : List Addr) (yss : List (List V)), xs = [.ref a, .ref b] ∧ SqL K H a (ps.map V.ref) ∧ H b = some (.lst []) ∧ ps.length = yss.length ∧ ps ≠ [] ∧
  (∀ (j : Nat) (p : Addr) (ys : List V), ps[j]? = some p → yss[j]? = some ys → H p = some (.lst ys)) ∧ yss.flatten.length ≤ sizeLine ∧ ∀ p, H p = none → Q (.ref p) (upd H p (.lst yss.flatten))
theorem vals_flat {X : Cx} {pins : List (Addr × Obj)} {σ : L2.St} {H : Hp} {s : Shared} (I : L2.Inv X pins σ H s) : ∀ (ps : List Addr) (yss : List (List V)), ps.length = yss.length → (∀ (j : Nat) (p : Addr) (ys : List V), ps[j]? = some p → yss[j]? = some ys → H p = some (.lst ys)) →
    ∃ rest : List (Addr × List Value), rest.length = ps.length ∧ (∀ (j : Nat) (p : Addr × List Value), rest[j]? = some p → ps[j]? = some p.1 ∧ ∃ m, IsL s.heap p.1 p.2.toArray m) ∧ Vals yss.flatten (rest.map (·.2)).flatten
  | [], [], _, _ => ⟨[], rfl, fun j p h => by simp at h, .nil⟩
  | [], _ :: _, h, _ => by simp at h
  | _ :: _, [], h, _ => by simp at h
  | p :: ps, ys :: yss, h, hp => by
    obtain ⟨rest, r1, r2, r3⟩ := vals_flat I ps yss (by simpa using h) fun j q zs h1 h2 => hp (j + 1) q zs (by simpa using h1) (by simpa using h2)
    obtain ⟨z, its, n, r, hl, e⟩ := I.lstM (hp 0 p ys rfl rfl)
    refine ⟨(p, its) :: rest, by simp [r1], ?_, ?_⟩
    · intro j q hq
      cases j with
      | zero => obtain rfl : (p, its) = q := by simpa using hq
                exact ⟨rfl, n, e⟩
      | succ j => obtain ⟨a1, a2⟩ := r2 j q (by simpa using hq)
                  exact ⟨by simpa using a1, a2⟩
    · rw [List.flatten_cons, List.map_cons, List.flatten_cons]
      exact r.append r3
theorem vals_refs : ∀ {ps : List Addr} {us : List Value}, Vals (ps.map V.ref) us → us = ps.map Value.ref
  | [], _, .nil => rfl
  | p :: ps, _, .cons a b => by
    rw [List.map_cons, vals_refs b]
    obtain rfl := a
    rfl
theorem call_sumL {X : Cx} (hh : X.calm = true := by rfl) : CallR X (.builtin "sum") (rSumL X.K) := by
  intro pins s σ H xs us Q I r h
  obtain ⟨a, b, ps, yss, rfl, ha, hb, hl, hne, hp, hz, q⟩ := h
  obtain ⟨u, c, rfl, ru, rc⟩ := vals2 r
  obtain rfl : u = Value.ref a := ru
  obtain rfl : c = Value.ref b := rc
  obtain ⟨its, rv, pl, zl⟩ := I.list ha
  obtain ⟨zb, itb, n, rb, lb, eb⟩ := I.lstM hb
  cases rb
  obtain rfl := vals_refs rv
  obtain ⟨rest, r1, r2, r3⟩ := vals_flat I ps yss hl hp
  refine call_sum_lists (I.ok.hd hh) pl.isList eb rest (by rw [List.size_toArray, List.length_map, r1]) ?_ ?_ ?_ ?_
  · intro j p hp'
    obtain ⟨a1, a2⟩ := r2 j p hp'
    refine ⟨?_, a2⟩
    simp [a1]
  · rintro rfl
    cases ps with
    | nil => exact hne rfl
    | cons => simp at r1
  · rw [← r3.length]; exact hz
  · intro h' tk T k ⟨n', hT⟩ hs
    exact ⟨.ref T, _, I.laid (o := .lst yss.flatten) (t' := tk) k hs ⟨hz, _, n', r3, hT⟩, rfl, q T (I.hok.fresh hs)⟩
/-- sep.join within a comprehension -/
def rJoin (K : PySem.W.Frag) : V → List V → Hp → VK → Prop := fun x xs H Q => ∃ a p, ∃ ys : List Str, x = .str a ∧ xs = [.ref p] ∧ (SqL K H p (ys.map V.str) ∨ SqT K H p (ys.map V.str)) ∧ (ys.map (·.length)).sum + ys.length * a.length ≤ 16777216 ∧ Q (.str (Txt.join a ys)) H
theorem pe_joinK {X : Cx} {K : PySem.W.Frag} {o e : Expr} {to te : TE} {apos pos : Pos} (ho : PE X o to) (he : PE X e te) (hK : X.K = K := by rfl) (hs : starEach [e] X.env = [(false, eval e X.env)] := by rfl) (hbase : attributeBase o "join" X.env (eval o X.env) = eval o X.env := by rfl) (hline : (apos.endLine == pos.line) = true := by rfl) :
    PE X (.Call (.Attribute o "join" apos) [e] [] pos) (tM1 (rJoin K) to te) := by
  subst hK
  exact pe_join ho he hs hbase hline
/-- a text not at all, or once -/
def rMul01 : R2 := fun x y H Q => ∃ (a : Str) (k : Int), x = .str a ∧ y = .int k ∧ (k = 0 ∨ k = 1) ∧ (k = 0 → Q (.str Str.empty) H) ∧ (k = 1 → Q (.str a) H)
theorem op_mul01 {X : Cx} : OpR X (binaryOp .Mult) rMul01 := by
  intro pins s σ H x y v u Q I rx ry h
  obtain ⟨a, k, rfl, rfl, hk, q0, q1⟩ := h
  obtain ⟨t, rfl⟩ := rx
  obtain ⟨t', rfl⟩ := ry
  rcases hk with rfl | rfl
  · exact PySem.P.mul_str_none (by decide) (by decide) ⟨.str _, H, I.tok _, ⟨_, rfl⟩, q0 rfl⟩
  · refine PySem.P.mul_str (by decide) (fun _ e => by cases e) (fun _ e => by cases e) ?_
    rw [if_neg (by decide), if_pos (by rfl)]
    exact ⟨.str a, H, I, ⟨t, rfl⟩, q1 rfl⟩
end SG
namespace SG
open PySem PySem.Spec PyProof.Rows L2
def top (i : Nat) : Stmt := PySem.Challenge.pw_strokeguess_k62_plain_touches.main.body.getD i (.Pass ⟨0, 0, 0, 0⟩)

structure Txt (K : PySem.W.Frag) (mg : Str → Option Value) : Prop where
  m_all : mg "all" = none
  m_any : mg "any" = none
  m_bool : mg "bool" = none
  m_dict : mg "dict" = none
  m_int : mg "int" = none
  m_isinstance : mg "isinstance" = none
  m_len : mg "len" = none
  m_list : mg "list" = none
  m_min : mg "min" = none
  m_range : mg "range" = none
  m_set : mg "set" = none
  m_sorted : mg "sorted" = none
  m_str : mg "str" = none
  m_sum : mg "sum" = none
  m_tuple : mg "tuple" = none
  m_zip : mg "zip" = none
  mSTEP_TIMEx : ∃ t, mg "STEP_TIME" = some (.int 10 t)
  mTAP_TIMEx : ∃ t, mg "TAP_TIME" = some (.int 50 t)
  mAPARTx : ∃ t, mg "APART" = some (.int 40 t)
  mENDSx : ∃ a, mg "ENDS" = some (.ref a) ∧ ∀ H : Hp, SqT K H a [.str "claim", .str "give"]
abbrev sstepped : Stmt := top 2
abbrev Nstepped : List Str := ["machine", "state", "word", "steps", "known", "goal"]
theorem scstepped : FnScope Nstepped ["machine", "state", "word"] (defScope sstepped) := ⟨rfl, rfl, rfl, by decide +kernel, rfl, by decide +kernel, by decide +kernel⟩

abbrev sclaimed : Stmt := top 4
abbrev Nclaimed : List Str := ["machine"]
theorem scclaimed : FnScope Nclaimed ["machine"] (defScope sclaimed) := ⟨rfl, rfl, rfl, by decide +kernel, rfl, by decide +kernel, by decide +kernel⟩

abbrev sled : Stmt := top 5
abbrev Nled : List Str := ["history", "x", "y", "moment", "finger", "slop", "touches", "word"]
theorem scled : FnScope Nled ["history", "x", "y", "moment", "finger", "slop"] (defScope sled) := ⟨rfl, rfl, rfl, by decide +kernel, rfl, by decide +kernel, by decide +kernel⟩

abbrev s_has_claimed : Stmt := top 6
abbrev N_has_claimed : List Str := ["looks"]
theorem sc_has_claimed : FnScope N_has_claimed ["looks"] (defScope s_has_claimed) := ⟨rfl, rfl, rfl, by decide +kernel, rfl, by decide +kernel, by decide +kernel⟩

abbrev s_shortest : Stmt := top 7
abbrev N_shortest : List Str := ["machines", "is_wanted", "start", "seen", "queue", "at", "states", "is_up", "has_passed", "history", "looks", "goals", "word", "key", "_"]
theorem sc_shortest : FnScope N_shortest ["machines", "is_wanted"] (defScope s_shortest) := ⟨rfl, rfl, rfl, by decide +kernel, rfl, by decide +kernel, by decide +kernel⟩

abbrev s_looks : Stmt := top 8
abbrev N_looks : List Str := ["machines", "states", "is_up", "machine", "state"]
theorem sc_looks : FnScope N_looks ["machines", "states", "is_up"] (defScope s_looks) := ⟨rfl, rfl, rfl, by decide +kernel, rfl, by decide +kernel, by decide +kernel⟩

abbrev s_look : Stmt := top 9
abbrev N_look : List Str := ["machine", "state", "is_up"]
theorem sc_look : FnScope N_look ["machine", "state", "is_up"] (defScope s_look) := ⟨rfl, rfl, rfl, by decide +kernel, rfl, by decide +kernel, by decide +kernel⟩

abbrev s_next_ones : Stmt := top 10
abbrev N_next_ones : List Str := ["machines", "states", "looks", "is_up", "has_passed", "words", "found", "word", "state"]
theorem sc_next_ones : FnScope N_next_ones ["machines", "states", "looks", "is_up", "has_passed"] (defScope s_next_ones) := ⟨rfl, rfl, rfl, by decide +kernel, rfl, by decide +kernel, by decide +kernel⟩

abbrev s_is_up_behind : Stmt := top 11
abbrev N_is_up_behind : List Str := ["word", "is_up"]
theorem sc_is_up_behind : FnScope N_is_up_behind ["word", "is_up"] (defScope s_is_up_behind) := ⟨rfl, rfl, rfl, by decide +kernel, rfl, by decide +kernel, by decide +kernel⟩

abbrev s_stepped_all : Stmt := top 12
abbrev N_stepped_all : List Str := ["machines", "states", "word", "is_up", "machine", "state"]
theorem sc_stepped_all : FnScope N_stepped_all ["machines", "states", "word", "is_up"] (defScope s_stepped_all) := ⟨rfl, rfl, rfl, by decide +kernel, rfl, by decide +kernel, by decide +kernel⟩

abbrev s_entered : Stmt := top 13
abbrev N_entered : List Str := ["machine", "goal", "is_up", "is_dead"]
theorem sc_entered : FnScope N_entered ["machine", "goal", "is_up"] (defScope s_entered) := ⟨rfl, rfl, rfl, by decide +kernel, rfl, by decide +kernel, by decide +kernel⟩

abbrev s_passed : Stmt := top 14
abbrev N_passed : List Str := ["machines", "states", "is_up", "rows", "times", "machine", "state", "time", "row", "_"]
theorem sc_passed : FnScope N_passed ["machines", "states", "is_up"] (defScope s_passed) := ⟨rfl, rfl, rfl, by decide +kernel, rfl, by decide +kernel, by decide +kernel⟩

abbrev s_ends_of : Stmt := top 15
abbrev N_ends_of : List Str := ["machine", "state", "is_up", "found", "time"]
theorem sc_ends_of : FnScope N_ends_of ["machine", "state", "is_up"] (defScope s_ends_of) := ⟨rfl, rfl, rfl, by decide +kernel, rfl, by decide +kernel, by decide +kernel⟩

abbrev s_at_time : Stmt := top 16
abbrev N_at_time : List Str := ["row", "time", "state", "end", "goal"]
theorem sc_at_time : FnScope N_at_time ["row", "time", "state"] (defScope s_at_time) := ⟨rfl, rfl, rfl, by decide +kernel, rfl, by decide +kernel, by decide +kernel⟩

abbrev splain : Stmt := top 21
abbrev Nplain : List Str := ["wish", "x", "y", "moment", "fingers", "slop", "kind", "finger", "history"]
theorem scplain : FnScope Nplain ["wish", "x", "y", "moment", "fingers", "slop"] (defScope splain) := ⟨rfl, rfl, rfl, by decide +kernel, rfl, by decide +kernel, by decide +kernel⟩

abbrev s_plain_taps : Stmt := top 22
abbrev N_plain_taps : List Str := ["times", "x", "y", "moment", "finger", "touches", "begin", "time"]
theorem sc_plain_taps : FnScope N_plain_taps ["times", "x", "y", "moment", "finger"] (defScope s_plain_taps) := ⟨rfl, rfl, rfl, by decide +kernel, rfl, by decide +kernel, by decide +kernel⟩

abbrev s_plain_pull : Stmt := top 23
abbrev N_plain_pull : List Str := ["way", "x", "y", "moment", "finger", "slop", "goal"]
theorem sc_plain_pull : FnScope N_plain_pull ["way", "x", "y", "moment", "finger", "slop"] (defScope s_plain_pull) := ⟨rfl, rfl, rfl, by decide +kernel, rfl, by decide +kernel, by decide +kernel⟩

abbrev s_plain_pair : Stmt := top 24
abbrev N_plain_pair : List Str := ["kind", "x", "y", "moment", "fingers", "finger", "other", "goal"]
theorem sc_plain_pair : FnScope N_plain_pair ["kind", "x", "y", "moment", "fingers"] (defScope s_plain_pair) := ⟨rfl, rfl, rfl, by decide +kernel, rfl, by decide +kernel, by decide +kernel⟩

abbrev s_law_tape : Stmt := top 26
abbrev N_law_tape : List Str := ["_law_script"]
theorem sc_law_tape : FnScope N_law_tape ["_law_script"] (defScope s_law_tape) := ⟨rfl, rfl, rfl, by decide +kernel, rfl, by decide +kernel, by decide +kernel⟩

abbrev s_law_draw : Stmt := top 27
abbrev N_law_draw : List Str := ["_law_tape_here", "_law_many", "_law_spot", "_law_cells", "_law_cell", "_law_seed", "_law_found"]
theorem sc_law_draw : FnScope N_law_draw ["_law_tape_here", "_law_many"] (defScope s_law_draw) := ⟨rfl, rfl, rfl, by decide +kernel, rfl, by decide +kernel, by decide +kernel⟩

abbrev s_law_pick : Stmt := top 28
abbrev N_law_pick : List Str := ["_law_tape_here", "_law_some"]
theorem sc_law_pick : FnScope N_law_pick ["_law_tape_here", "_law_some"] (defScope s_law_pick) := ⟨rfl, rfl, rfl, by decide +kernel, rfl, by decide +kernel, by decide +kernel⟩

abbrev s_law_words : Stmt := top 29
abbrev N_law_words : List Str := ["_law_tape_here", "_law_letters", "_law_first", "_law_by", "_law_begin", "_law_end", "_law_found", "_law_side", "_law_k", "_law_word"]
theorem sc_law_words : FnScope N_law_words ["_law_tape_here"] (defScope s_law_words) := ⟨rfl, rfl, rfl, by decide +kernel, rfl, by decide +kernel, by decide +kernel⟩

abbrev s_law_moved : Stmt := top 30
abbrev N_law_moved : List Str := ["_law_states", "_law_order", "_law_spots", "_law_found", "_law_at", "_law_wait", "_law_steps", "_law_k", "_law_word", "_law_goal"]
theorem sc_law_moved : FnScope N_law_moved ["_law_states", "_law_order"] (defScope s_law_moved) := ⟨rfl, rfl, rfl, by decide +kernel, rfl, by decide +kernel, by decide +kernel⟩

abbrev s_law_machine : Stmt := top 31
abbrev N_law_machine : List Str := ["_law_tape_here", "_law_many", "_law_waits", "_law_states", "_law_order", "_law_at", "_law_ends", "_law_wait", "_law_steps", "_law_word", "_law_goal", "_law_later", "_law_step"]
theorem sc_law_machine : FnScope N_law_machine ["_law_tape_here", "_law_many"] (defScope s_law_machine) := ⟨rfl, rfl, rfl, by decide +kernel, rfl, by decide +kernel, by decide +kernel⟩

abbrev s_law_wish : Stmt := top 32
abbrev N_law_wish : List Str := ["_law_tape_here", "_law_word", "_law_wait", "_law_way", "_law_some", "_law_wish_here"]
theorem sc_law_wish : FnScope N_law_wish ["_law_tape_here", "_law_word"] (defScope s_law_wish) := ⟨rfl, rfl, rfl, by decide +kernel, rfl, by decide +kernel, by decide +kernel⟩

abbrev s_law_alike : Stmt := top 33
abbrev N_law_alike : List Str := ["_law_found", "_law_due", "_law_kinds", "_law_one", "_law_other"]
theorem sc_law_alike : FnScope N_law_alike ["_law_found", "_law_due"] (defScope s_law_alike) := ⟨rfl, rfl, rfl, by decide +kernel, rfl, by decide +kernel, by decide +kernel⟩

abbrev s_law_plain : Stmt := top 34
abbrev N_law_plain : List Str := ["_law_wish_here", "_law_x", "_law_y", "_law_moment", "_law_one", "_law_two", "_law_reach", "_law_kind", "_law_some", "_law_there", "_law_found", "_law_k"]
theorem sc_law_plain : FnScope N_law_plain ["_law_wish_here", "_law_x", "_law_y", "_law_moment", "_law_one", "_law_two", "_law_reach"] (defScope s_law_plain) := ⟨rfl, rfl, rfl, by decide +kernel, rfl, by decide +kernel, by decide +kernel⟩

abbrev s_law_told : Stmt := top 35
abbrev N_law_told : List Str := ["_law_wish_here", "_law_spot", "_law_moment", "_law_fingers", "_law_reach"]
theorem sc_law_told : FnScope N_law_told ["_law_wish_here", "_law_spot", "_law_moment", "_law_fingers", "_law_reach"] (defScope s_law_told) := ⟨rfl, rfl, rfl, by decide +kernel, rfl, by decide +kernel, by decide +kernel⟩

abbrev slaw : Stmt := top 36
abbrev Nlaw : List Str := ["_law_script", "_law_tape_here", "_law_label", "_law_wish_here", "_law_other", "_law_one", "_law_spot", "_law_moment", "_law_fingers", "_law_reach", "_law_asked", "_law_thing", "_law_due", "_law_again", "_law_found"]
theorem sclaw : FnScope Nlaw ["_law_script"] (defScope slaw) := ⟨rfl, rfl, rfl, by decide +kernel, rfl, by decide +kernel, by decide +kernel⟩

end SG
/-! the plain touches of a wish, as data -/
namespace SG
open PySem PySem.Spec PyProof.Rows L2
def tch (m f : Int) (w : Str) (x y : Int) : PyData := .tuple [.int m, .int f, .str w, .int x, .int y]
inductive Wi where
  | tap (n : Nat)
  | press (w : Int)
  | pull (way : Str)
  | spread
  | turn
/-- what stands in a wish's tuple -/
def Wi.row (l : Str) : Wi → List V
  | .tap n => [.str "tap", .str l, .int (n : Int)]
  | .press w => [.str "press", .str l, .int w]
  | .pull y => [.str "pull", .str l, .str y]
  | .spread => [.str "spread", .str l]
  | .turn => [.str "turn", .str l]
def Wi.ok : Wi → Prop
  | .tap n => 1 ≤ n ∧ n ≤ 3
  | _ => True
def pair2 (m f : Int) (x y : Int) (k : Nat) : List PyData := [tch (m + 50 * (k : Int)) f "down" x y, tch (m + 50 * (k : Int) + 10) f "up" x y]
def Wi.pl (W : Wi) (x y m f g r : Int) : List PyData := match W with
  | .tap n => (List.range n).flatMap (pair2 m f x y)
  | .press w => [tch m f "down" x y, tch (m + w + 10) f "up" x y]
  | .pull way => if way = "along" then [tch m f "down" x y, tch (m + 10) f "move" x (y + r + 1), tch (m + 20) f "up" x (y + r + 1)] else [tch m f "down" x y, tch (m + 10) f "move" (x + r + 1) y, tch (m + 20) f "up" (x + r + 1) y]
  | .spread => [tch m f "down" x y, tch m g "down" (x + 40) y, tch (m + 10) g "move" (x + 80) y, tch (m + 20) f "up" x y, tch (m + 20) g "up" (x + 80) y]
  | .turn => [tch m f "down" x y, tch m g "down" (x + 40) y, tch (m + 10) g "move" x (y + 40), tch (m + 20) f "up" x y, tch (m + 20) g "up" x (y + 40)]
/-- a list of touches -/
def TsAt (H : Hp) (p : Addr) (ds : List PyData) : Prop := ∃ vs, H p = some (.lst vs) ∧ ImAll H vs ds
theorem im_tch {H : Hp} {p : Addr} {m f x y : Int} {w : Str} (h : H p = some (.tup [.int m, .int f, .str w, .int x, .int y])) : Im H (.ref p) (tch m f w x y) :=
  .tup h (.cons (.int _) (.cons (.int _) (.cons (.str _) (.cons (.int _) (.cons (.int _) .nil)))))
theorem ImAll.same {H H' : Hp} {vs : List V} {ds : List PyData} (h : ImAll H vs ds) (s : Same H H') : ImAll H' vs ds := ImAll.tp (Tp.same s) h
theorem Im.same {H H' : Hp} {v : V} {d : PyData} (h : Im H v d) (s : Same H H') : Im H' v d := Im.tp (Tp.same s) h
theorem ImAll.app {H : Hp} : ∀ {vs ws : List V} {ds es : List PyData}, ImAll H vs ds → ImAll H ws es → ImAll H (vs ++ ws) (ds ++ es)
  | _, _, _, _, .nil, h => h
  | _, _, _, _, .cons a b, h => .cons a (b.app h)
theorem ImAll.ln {H : Hp} : ∀ {vs : List V} {ds : List PyData}, ImAll H vs ds → vs.length = ds.length
  | _, _, .nil => rfl
  | _, _, .cons _ b => by rw [List.length_cons, List.length_cons, b.ln]
theorem range_succ_flat {α : Type} (f : Nat → List α) (n : Nat) : (List.range (n + 1)).flatMap f = (List.range n).flatMap f ++ f n := by
  rw [List.range_succ, List.flatMap_append]
  simp
theorem flat_len2 {α : Type} {f : Nat → List α} (h : ∀ k, (f k).length = 2) : ∀ n, ((List.range n).flatMap f).length = 2 * n
  | 0 => rfl
  | n + 1 => by rw [range_succ_flat, List.length_append, flat_len2 h n, h]; omega
theorem Fr.up {S : List Addr} {H H' : Hp} {p : Addr} {o : HO} (f : Fr S H H') (h : H p = none) : Fr S H (upd H' p o) := fun b u e n => by
  rw [upd_ne (ne_of_none e h)]
  exact f b u e n
theorem small100 {n : Nat} (h : n ≤ 100) : n < sizeLine := Nat.lt_of_le_of_lt h (by decide)
/-! a comprehension over zip -/
theorem lc_zipL {K : PySem.W.Frag} {a b : Addr} {xs ys : List V} {g : TG} {tt : TT} {te : TE} {vs : List Nat} {σ : L2.St} {H1 : Hp} {D : Addr} {Qd : Hp → Prop} (hl : xs.length = ys.length) (Pv : Nat → Hp → Prop) (h0 : Pv 0 (upd H1 D (.lst []))) (hq : ∀ i H, Pv i H → SqL K H a xs ∧ SqL K H b ys)
    (hs : ∀ (i : Nat) (x y : V) (T : Addr) (H : Hp), xs[i]? = some x → ys[i]? = some y → Pv i H → H T = none → g (.ref T) (wipe σ vs) (upd H T (.tup [x, y])) fun σ2 H2 => wipe σ2 vs = wipe σ vs ∧ tt σ2 H2 fun b H3 =>
      if b = true then te σ2 H3 fun y H4 => ∃ acc, H4 D = some (.lst acc) ∧ acc.length < sizeLine ∧ Pv (i + 1) (upd H4 D (.lst (acc ++ [y]))) else Pv (i + 1) H3) (hd : ∀ H, Pv xs.length H → Qd H) :
    ∃ W : Nat → Nat → Hp → Prop, (∃ m, W 0 m (upd H1 D (.lst []))) ∧ ∀ i m H, W i m H →
      ((Itz K a b).stop i H ∧ Qd H) ∨ ((Itz K a b).go i H ∧ ∃ Nx : Hp → Prop, (∀ H', Nx H' → ∃ m', m' < m ∧ W (i + 1) m' H') ∧ ∀ x H', (Itz K a b).yld i H x H' → g x (wipe σ vs) H' fun σ2 H2 => wipe σ2 vs = wipe σ vs ∧ tt σ2 H2 fun b H3 =>
        if b = true then te σ2 H3 fun y H4 => ∃ acc, H4 D = some (.lst acc) ∧ acc.length < sizeLine ∧ Nx (upd H4 D (.lst (acc ++ [y]))) else Nx H3) := by
  refine ⟨fun i m H => m = xs.length - i ∧ i ≤ xs.length ∧ Pv i H, ⟨xs.length, by simp, Nat.zero_le _, h0⟩, ?_⟩
  rintro i m H ⟨rfl, hi, p⟩
  obtain ⟨qx, qy⟩ := hq i H p
  by_cases hlt : i < xs.length
  · have hx : xs[i]? = some xs[i] := List.getElem?_eq_getElem hlt
    have hlt2 : i < ys.length := by omega
    have hy : ys[i]? = some ys[i] := List.getElem?_eq_getElem hlt2
    refine .inr ⟨⟨xs, ys, _, _, qx, qy, hx, hy⟩, Pv (i + 1), fun H' p' => ⟨xs.length - (i + 1), by omega, rfl, hlt, p'⟩, fun v H' y => ?_⟩
    obtain ⟨T, x', y', rfl, hT, rfl, f1, f2⟩ := y
    exact hs i x' y' T H (f1 xs qx) (f2 ys qy) p hT
  · have e : i = xs.length := by omega
    subst e
    exact .inl ⟨⟨xs, ys, qx, qy, Or.inl (Nat.le_refl _)⟩, hd H p⟩
theorem lc_zipT {K : PySem.W.Frag} {a b : Addr} {xs ys : List V} {g : TG} {tt : TT} {te : TE} {vs : List Nat} {σ : L2.St} {H1 : Hp} {D : Addr} {Qd : Hp → Prop} (hl : xs.length = ys.length) (Pv : Nat → Hp → Prop) (h0 : Pv 0 (upd H1 D (.lst []))) (hq : ∀ i H, Pv i H → SqT K H a xs ∧ SqT K H b ys)
    (hs : ∀ (i : Nat) (x y : V) (T : Addr) (H : Hp), xs[i]? = some x → ys[i]? = some y → Pv i H → H T = none → g (.ref T) (wipe σ vs) (upd H T (.tup [x, y])) fun σ2 H2 => wipe σ2 vs = wipe σ vs ∧ tt σ2 H2 fun b H3 =>
      if b = true then te σ2 H3 fun y H4 => ∃ acc, H4 D = some (.lst acc) ∧ acc.length < sizeLine ∧ Pv (i + 1) (upd H4 D (.lst (acc ++ [y]))) else Pv (i + 1) H3) (hd : ∀ H, Pv xs.length H → Qd H) :
    ∃ W : Nat → Nat → Hp → Prop, (∃ m, W 0 m (upd H1 D (.lst []))) ∧ ∀ i m H, W i m H →
      ((RZ.ItzT K a b).stop i H ∧ Qd H) ∨ ((RZ.ItzT K a b).go i H ∧ ∃ Nx : Hp → Prop, (∀ H', Nx H' → ∃ m', m' < m ∧ W (i + 1) m' H') ∧ ∀ x H', (RZ.ItzT K a b).yld i H x H' → g x (wipe σ vs) H' fun σ2 H2 => wipe σ2 vs = wipe σ vs ∧ tt σ2 H2 fun b H3 =>
        if b = true then te σ2 H3 fun y H4 => ∃ acc, H4 D = some (.lst acc) ∧ acc.length < sizeLine ∧ Nx (upd H4 D (.lst (acc ++ [y]))) else Nx H3) := by
  refine ⟨fun i m H => m = xs.length - i ∧ i ≤ xs.length ∧ Pv i H, ⟨xs.length, by simp, Nat.zero_le _, h0⟩, ?_⟩
  rintro i m H ⟨rfl, hi, p⟩
  obtain ⟨qx, qy⟩ := hq i H p
  by_cases hlt : i < xs.length
  · have hx : xs[i]? = some xs[i] := List.getElem?_eq_getElem hlt
    have hlt2 : i < ys.length := by omega
    have hy : ys[i]? = some ys[i] := List.getElem?_eq_getElem hlt2
    refine .inr ⟨⟨xs, ys, _, _, qx, qy, hx, hy⟩, Pv (i + 1), fun H' p' => ⟨xs.length - (i + 1), by omega, rfl, hlt, p'⟩, fun v H' y => ?_⟩
    obtain ⟨T, x', y', rfl, hT, rfl, f1, f2⟩ := y
    exact hs i x' y' T H (f1 xs qx) (f2 ys qy) p hT
  · have e : i = xs.length := by omega
    subst e
    exact .inl ⟨⟨xs, ys, qx, qy, Or.inl (Nat.le_refl _)⟩, hd H p⟩
end SG
namespace SG
open PySem PySem.Spec PyProof.Rows L2
/-- what comes of plain touches: a new list of them -/
def Told (H : Hp) (ds : List PyData) (Q : VK) : Prop := ∀ p H', Same H H' → H p = none → TsAt H' p ds → Q (.ref p) H'
theorem Told.same {H H1 : Hp} {ds : List PyData} {Q : VK} (k : Told H ds Q) (s : Same H H1) : Told H1 ds Q := fun p H' s' p0 ts => k p H' (s.trans s') (by
  cases e : H p with
  | none => rfl
  | some o => rw [s _ _ e] at p0; cases p0) ts
def spTaps : Sp := fun vs H Q _ => ∃ (n : Nat) (x y m f : Int), vs = [.int (n : Int), .int x, .int y, .int m, .int f] ∧ n ≤ 3 ∧ Told H (Wi.pl (.tap n) x y m f 0 0) Q
def spPull : Sp := fun vs H Q _ => ∃ (way : Str) (x y m f r : Int), vs = [.str way, .int x, .int y, .int m, .int f, .int r] ∧ Told H (Wi.pl (.pull way) x y m f 0 r) Q
def spPair (K : PySem.W.Frag) : Sp := fun vs H Q _ => ∃ (b : Bool) (q : Addr) (x y m f g : Int), vs = [.str (if b then "spread" else "turn"), .int x, .int y, .int m, .ref q] ∧ SqT K H q [.int f, .int g] ∧ Told H ((if b then Wi.spread else Wi.turn).pl x y m f g 0) Q
theorem ts_put {H : Hp} {L q : Addr} {vs : List V} {ds : List PyData} {d : PyData} (h : H L = some (.lst vs)) (i : ImAll H vs ds) (hq : Im H (.ref q) d) : TsAt (upd H L (.lst (vs ++ [.ref q]))) L (ds ++ [d]) := by
  have t : Tp H (upd H L (.lst (vs ++ [.ref q]))) := fun b xs e => by rw [upd_ne (ne_of e h (by intro z; cases z))]; exact e
  exact ⟨_, upd_same, (ImAll.tp t i).app (.cons (Im.tp t hq) .nil)⟩
section
variable {P : Program} {w : World} {K : PySem.W.Frag} {mg : Str → Option Value} {base : Heap}
theorem ok_plain_taps (D : Df K mg "_plain_taps" s_plain_taps ["times", "x", "y", "moment", "finger"]) (T : Txt K mg) : Cl P w K mg base 1 "_plain_taps" spTaps := by
  refine D.ok sc_plain_taps (fun vs H Q E h => ?_) (fun f cdv A outer s H vs Q E hr h => ?_)
  · obtain ⟨_, _, _, _, _, rfl, _⟩ := h
    rfl
  obtain ⟨n, x, y, m, f, rfl, n3, k⟩ := h
  have hu := hu_of hr
  obtain ⟨_, mSTEP_TIME⟩ := T.mSTEP_TIMEx
  obtain ⟨_, mTAP_TIME⟩ := T.mTAP_TIMEx
  refine ⟨_, -- touches = []
    (pss_cons (ps_set (i := 5) sc_plain_taps.nd rfl (Or.inl rfl) (pe_lst pa_nil))
    (pss_cons (ps_for PassesOwn.never rfl (pi_list (pe_lc (own := [("time", 7)]) rfl sc_plain_taps.nd (pi_range1 rfl T.m_range (pa_cons (pv 0) pa_nil)) (blkOk_by (N := N_plain_taps) (sc := defScope s_plain_taps) (by decide +kernel)) (fun _ _ _ _ _ => (pg_name (i := 7) sc_plain_taps.nd rfl (Or.inl rfl))) (fun _ _ _ _ _ => pts_nil) (fun _ _ _ _ _ => (pe_op op_add (pv 3) (pe_op op_mul (pe_glob (v := .int 50) rfl mTAP_TIME ⟨_, rfl⟩) (pv 7)))))) (pg_name (i := 6) sc_plain_taps.nd rfl (Or.inl rfl))
      (pss_cons (ps_expr (pe_bm PySem.F.plainAttrs_list PySem.F.slot_list_append PySem.F.type_list_append mt_append (pv 5) (pa_cons (pe_tup (pa_cons (pv 6) (pa_cons (pv 4) (pa_cons pe_str (pa_cons (pv 1) (pa_cons (pv 2) pa_nil)))))) pa_nil)))
      (pss_one (ps_expr (pe_bm PySem.F.plainAttrs_list PySem.F.slot_list_append PySem.F.type_list_append mt_append (pv 5) (pa_cons (pe_tup (pa_cons (pe_op op_add (pv 6) (pe_glob (v := .int 10) rfl mSTEP_TIME ⟨_, rfl⟩)) (pa_cons (pv 4) (pa_cons pe_str (pa_cons (pv 1) (pa_cons (pv 2) pa_nil)))))) pa_nil))))))
    (pss_one (ps_ret (pv 5))))), ?_⟩
  refine ⟨(by decide), ?_⟩
  (intro L L0; generalize hh_ : upd _ L _ = H1; have hL := upd_is hh_; have s1 := same_is hh_ L0; clear hh_)
  refine ⟨_, rfl, _, rfl, by omega, by omega, fun D hD => ?_⟩
  rw [show ((n : Int)).toNat = n by omega]
  refine lc_range (n := n) (fun i Hx => ∃ vs, Hx D = some (.lst vs) ∧ vs = (List.range i).map (fun k : Nat => V.int (m + 50 * (k : Int))) ∧ Same H1 Hx) ?_ ?_ ?_
  · exact ⟨[], upd_same, rfl, same_new hD⟩
  · rintro i Hx hi ⟨vs, h1, h2, h3⟩
    refine ⟨rfl, ?_⟩
    refine ⟨_, rfl, _, rfl, _, _, rfl, rfl, .inl ⟨by decide, by decide⟩, _, _, rfl, rfl, vs, h1, ?_, _, upd_same, ?_, ?_⟩
    · rw [h2, List.length_map, List.length_range]; exact small100 (by omega)
    · rw [h2, List.range_succ, List.map_append]
      simp
    · exact fun b o e => by rw [upd_ne (ne_of_none e hD)]; exact h3 _ _ e
  · rintro Hx ⟨vs, h1, h2, h3⟩
    refine ⟨D, rfl, ⟨_, SqL.of h1⟩, ?_⟩
    have hL2 := h3 _ _ hL
    have DL : D ≠ L := fun z => by rw [z] at hD; rw [hL] at hD; cases hD
    refine for_list (K := K) (a := D) (xs := vs) (fun i σ Hy => ∃ k6 : Option V, σ = [some (.int n), some (.int x), some (.int y), some (.int m), some (.int f), some (.ref L), k6, none] ∧ TsAt Hy L ((List.range i).flatMap (pair2 m f x y)) ∧ Hy D = some (.lst vs) ∧ Same H Hy ∧ (∃ us, Hy L = some (.lst us) ∧ us.length = 2 * i)) ?_ ?_ ?_ ?_
    · exact ⟨_, rfl, ⟨_, hL2, .nil⟩, h1, s1.trans h3, _, hL2, rfl⟩
    · rintro i σ Hy hi ⟨_, _, _, z, _⟩
      exact SqL.of z
    · rintro i v σ Hy hv ⟨k6, rfl, ⟨us, hl, im⟩, hd, sm, us', hl', lu⟩
      rw [hl'] at hl
      obtain rfl : us' = us := by cases hl; rfl
      have il : i < n := by
        have := (List.getElem?_eq_some_iff.mp hv).1
        rw [h2, List.length_map, List.length_range] at this
        exact this
      have ev : v = .int (m + 50 * (i : Int)) := by
        rw [h2, List.getElem?_map, List.getElem?_range il] at hv
        cases hv; rfl
      subst ev
      refine ⟨_, rfl, .inl ⟨rfl, _, SqL.of hl'⟩, _, rfl, _, rfl, _, rfl, _, rfl, (by show 5 ≤ sizeLine; decide), ?_⟩
      (intro q q0; generalize hh_ : upd _ q _ = H3; have hq := upd_is hh_; have s3 := same_is hh_ q0; clear hh_)
      refine ⟨L, _, _, rfl, rfl, s3 _ _ hl', small100 (by omega), ?_⟩
      have t1 := ts_put (s3 _ _ hl') (im.same s3) (im_tch hq)
      have hd4 : (upd H3 L (.lst (us' ++ [.ref q]))) D = some (.lst vs) := by rw [upd_ne DL]; exact s3 _ _ hd
      have sm4 : Same H (upd H3 L (.lst (us' ++ [.ref q]))) := fun b o e => by rw [upd_ne (ne_of_none e L0)]; exact s3 _ _ (sm _ _ e)
      have l4 : (upd H3 L (.lst (us' ++ [.ref q]))) L = some (.lst (us' ++ [.ref q])) := upd_same
      generalize upd H3 L (.lst (us' ++ [.ref q])) = H4 at *
      refine ⟨_, rfl, .inl ⟨rfl, _, SqL.of l4⟩, _, rfl, _, _, rfl, rfl, _, rfl, _, rfl, _, rfl, (by show 5 ≤ sizeLine; decide), ?_⟩
      (intro q2 q20; generalize hh_ : upd _ q2 _ = H5; have hq2 := upd_is hh_; have s5 := same_is hh_ q20; clear hh_)
      refine ⟨L, _, _, rfl, rfl, s5 _ _ l4, small100 (by rw [List.length_append]; show _ + 1 ≤ _; omega), ?_⟩
      obtain ⟨us4, l4', im4⟩ := t1
      rw [l4] at l4'
      obtain rfl : us' ++ [.ref q] = us4 := by cases l4'; rfl
      refine ⟨_, rfl, ?_, by rw [upd_ne DL]; exact s5 _ _ hd4, fun b o e => by rw [upd_ne (ne_of_none e L0)]; exact s5 _ _ (sm4 _ _ e), _, upd_same, by rw [List.length_append, List.length_append]; show _ + 1 + 1 = _; omega⟩
      have t2 := ts_put (s5 _ _ l4) (im4.same s5) (im_tch hq2)
      rw [range_succ_flat]
      rw [List.append_assoc (List.flatMap _ _)] at t2
      exact t2
    · rintro σ Hy ⟨k6, rfl, ts, _, sm, _⟩
      rw [h2, List.length_map, List.length_range] at ts
      exact ⟨_, rfl, k L Hy sm L0 ts⟩
theorem ok_plain_pull (D : Df K mg "_plain_pull" s_plain_pull ["way", "x", "y", "moment", "finger", "slop"]) (T : Txt K mg) : Cl P w K mg base 1 "_plain_pull" spPull := by
  refine D.ok sc_plain_pull (fun vs H Q E h => ?_) (fun f cdv A outer s H vs Q E hr h => ?_)
  · obtain ⟨_, _, _, _, _, _, rfl, _⟩ := h
    rfl
  obtain ⟨way, x, y, m, f, r, rfl, k⟩ := h
  have hu := hu_of hr
  obtain ⟨_, mSTEP_TIME⟩ := T.mSTEP_TIMEx
  refine ⟨_, -- goal = (x, y + slop + 1) if way == 'along' else (x + slop + 1, y)
    (C8.pss_cut (ps_set (i := 6) sc_plain_pull.nd rfl (Or.inl rfl) (pe_ifExp (pt_cmpR op_eq (pv 0) pe_str (nomark _)) (pe_tup (pa_cons (pv 1) (pa_cons (pe_op op_add (pe_op op_add (pv 2) (pv 5)) pe_int) pa_nil))) (pe_tup (pa_cons (pe_op op_add (pe_op op_add (pv 1) (pv 5)) pe_int) (pa_cons (pv 2) pa_nil)))))
    (pss_one (ps_ret (pe_lst (pa_cons (pe_tup (pa_cons (pv 3) (pa_cons (pv 4) (pa_cons pe_str (pa_cons (pv 1) (pa_cons (pv 2) pa_nil)))))) (pa_cons (pe_tup (pa_cons (pe_op op_add (pv 3) (pe_glob (v := .int 10) rfl mSTEP_TIME ⟨_, rfl⟩)) (pa_cons (pv 4) (pa_cons pe_str (StX.pa_star (pv 6) pa_nil))))) (pa_cons (pe_tup (pa_cons (pe_op op_add (pv 3) (pe_op op_mul pe_int (pe_glob (v := .int 10) rfl mSTEP_TIME ⟨_, rfl⟩))) (pa_cons (pv 4) (pa_cons pe_str (StX.pa_star (pv 6) pa_nil))))) pa_nil))))))), ?_⟩
  refine ⟨fun σ Hx => ∃ (q : Addr) (gx gy : Int), σ = [some (.str way), some (.int x), some (.int y), some (.int m), some (.int f), some (.int r), some (.ref q)] ∧ Hx q = some (.tup [.int gx, .int gy]) ∧ Same H Hx ∧
    [tch m f "down" x y, tch (m + 10) f "move" gx gy, tch (m + 20) f "up" gx gy] = (Wi.pull way).pl x y m f 0 r, ?_, ?_⟩
  · refine ⟨_, rfl, rfl, _, rfl, ite2 (fun c => ?_) fun c => ?_⟩
    · have e : way = "along" := by have := of_decide_eq_true c; cases this; rfl
      refine ⟨_, rfl, _, rfl, _, rfl, _, _, rfl, rfl, _, _, rfl, rfl, (by show 2 ≤ sizeLine; decide), ?_⟩
      (intro q q0; generalize hh_ : upd _ q _ = H1; have hq := upd_is hh_; have s1 := same_is hh_ q0; clear hh_)
      exact ⟨q, _, _, rfl, hq, s1, by simp only [Wi.pl]; rw [if_pos e]⟩
    · have e : ¬ way = "along" := fun z => by rw [z] at c; simp at c
      refine ⟨_, rfl, _, rfl, _, _, rfl, rfl, _, _, rfl, rfl, _, rfl, (by show 2 ≤ sizeLine; decide), ?_⟩
      (intro q q0; generalize hh_ : upd _ q _ = H1; have hq := upd_is hh_; have s1 := same_is hh_ q0; clear hh_)
      exact ⟨q, _, _, rfl, hq, s1, by simp only [Wi.pl]; rw [if_neg e]⟩
  · rintro σ Hx ⟨q, gx, gy, rfl, hq, sm, e⟩
    refine ⟨_, rfl, _, rfl, _, rfl, _, rfl, (by show 5 ≤ sizeLine; decide), ?_⟩
    (intro p1 p10; generalize hh_ : upd _ p1 _ = H1; have hp1 := upd_is hh_; have s1 := same_is hh_ p10; clear hh_)
    refine ⟨_, rfl, _, _, rfl, rfl, _, rfl, _, rfl, q, _, rfl, .inl (SqT.of (s1 _ _ hq)), (by show 5 ≤ sizeLine; decide), ?_⟩
    (intro p2 p20; generalize hh_ : upd _ p2 _ = H2; have hp2 := upd_is hh_; have s2 := same_is hh_ p20; clear hh_)
    refine ⟨_, rfl, _, _, rfl, rfl, .inl ⟨by decide, by decide⟩, _, _, rfl, rfl, _, rfl, _, rfl, q, _, rfl, .inl (SqT.of (s2 _ _ (s1 _ _ hq))), (by show 5 ≤ sizeLine; decide), ?_⟩
    (intro p3 p30; generalize hh_ : upd _ p3 _ = H3; have hp3 := upd_is hh_; have s3 := same_is hh_ p30; clear hh_)
    refine ⟨(by show 3 ≤ sizeLine; decide), ?_⟩
    (intro L L0; generalize hh_ : upd _ L _ = H4; have hL := upd_is hh_; have s4 := same_is hh_ L0; clear hh_)
    have s24 := s2.trans (s3.trans s4)
    refine k L H4 (sm.trans (s1.trans s24)) ?_ ?_
    · cases eL : H L with
      | none => rfl
      | some o => rw [s3 _ _ (s2 _ _ (s1 _ _ (sm _ _ eL)))] at L0; cases L0
    · rw [← e]
      exact ⟨_, hL, .cons (im_tch (s24 _ _ hp1)) (.cons (im_tch (s3.trans s4 _ _ hp2)) (.cons (im_tch (s4 _ _ hp3)) .nil))⟩
theorem ok_plain_pair (D : Df K mg "_plain_pair" s_plain_pair ["kind", "x", "y", "moment", "fingers"]) (T : Txt K mg) : Cl P w K mg base 1 "_plain_pair" (spPair K) := by
  refine D.ok sc_plain_pair (fun vs H Q E h => ?_) (fun f cdv A outer s H vs Q E hr h => ?_)
  · obtain ⟨_, _, _, _, _, _, _, rfl, _⟩ := h
    rfl
  obtain ⟨b, qf, x, y, m, f, g, rfl, hqf, k⟩ := h
  have hu := hu_of hr
  obtain ⟨_, mSTEP_TIME⟩ := T.mSTEP_TIMEx
  obtain ⟨_, mAPART⟩ := T.mAPARTx
  refine ⟨_, -- finger, other = fingers
    (pss_cons (ps_asg (pv 4) (pg_tup rfl (pgs_cons (pg_name (i := 5) sc_plain_pair.nd rfl (Or.inl rfl)) (pgs_cons (pg_name (i := 6) sc_plain_pair.nd rfl (Or.inl rfl)) pgs_nil))))
    (C8.pss_cut (ps_set (i := 7) sc_plain_pair.nd rfl (Or.inl rfl) (pe_ifExp (pt_cmpR op_eq (pv 0) pe_str (nomark _)) (pe_tup (pa_cons (pe_op op_add (pv 1) (pe_op op_mul pe_int (pe_glob (v := .int 40) rfl mAPART ⟨_, rfl⟩))) (pa_cons (pv 2) pa_nil))) (pe_tup (pa_cons (pv 1) (pa_cons (pe_op op_add (pv 2) (pe_glob (v := .int 40) rfl mAPART ⟨_, rfl⟩)) pa_nil)))))
    (pss_one (ps_ret (pe_lst (pa_cons (pe_tup (pa_cons (pv 3) (pa_cons (pv 5) (pa_cons pe_str (pa_cons (pv 1) (pa_cons (pv 2) pa_nil)))))) (pa_cons (pe_tup (pa_cons (pv 3) (pa_cons (pv 6) (pa_cons pe_str (pa_cons (pe_op op_add (pv 1) (pe_glob (v := .int 40) rfl mAPART ⟨_, rfl⟩)) (pa_cons (pv 2) pa_nil)))))) (pa_cons (pe_tup (pa_cons (pe_op op_add (pv 3) (pe_glob (v := .int 10) rfl mSTEP_TIME ⟨_, rfl⟩)) (pa_cons (pv 6) (pa_cons pe_str (StX.pa_star (pv 7) pa_nil))))) (pa_cons (pe_tup (pa_cons (pe_op op_add (pv 3) (pe_op op_mul pe_int (pe_glob (v := .int 10) rfl mSTEP_TIME ⟨_, rfl⟩))) (pa_cons (pv 5) (pa_cons pe_str (pa_cons (pv 1) (pa_cons (pv 2) pa_nil)))))) (pa_cons (pe_tup (pa_cons (pe_op op_add (pv 3) (pe_op op_mul pe_int (pe_glob (v := .int 10) rfl mSTEP_TIME ⟨_, rfl⟩))) (pa_cons (pv 6) (pa_cons pe_str (StX.pa_star (pv 7) pa_nil))))) pa_nil)))))))))), ?_⟩
  refine ⟨_, rfl, qf, _, rfl, hqf, rfl, _, _, rfl, _, _, rfl, rfl, ?_⟩
  refine ⟨fun σ Hx => ∃ (q : Addr) (gx gy : Int), σ = [some (.str (if b then "spread" else "turn")), some (.int x), some (.int y), some (.int m), some (.ref qf), some (.int f), some (.int g), some (.ref q)] ∧ Hx q = some (.tup [.int gx, .int gy]) ∧ Same H Hx ∧
    [tch m f "down" x y, tch m g "down" (x + 40) y, tch (m + 10) g "move" gx gy, tch (m + 20) f "up" x y, tch (m + 20) g "up" gx gy] = (if b then Wi.spread else Wi.turn).pl x y m f g 0, ?_, ?_⟩
  · refine ⟨_, rfl, rfl, _, rfl, ?_⟩
    cases b with
    | true =>
      refine iteT ⟨_, rfl, _, _, rfl, rfl, .inl ⟨by decide, by decide⟩, _, _, rfl, rfl, _, rfl, (by show 2 ≤ sizeLine; decide), ?_⟩
      (intro q q0; generalize hh_ : upd _ q _ = H1; have hq := upd_is hh_; have s1 := same_is hh_ q0; clear hh_)
      exact ⟨q, _, _, rfl, hq, s1, rfl⟩
    | false =>
      refine iteF ⟨_, rfl, _, rfl, _, _, rfl, rfl, (by show 2 ≤ sizeLine; decide), ?_⟩
      (intro q q0; generalize hh_ : upd _ q _ = H1; have hq := upd_is hh_; have s1 := same_is hh_ q0; clear hh_)
      exact ⟨q, _, _, rfl, hq, s1, rfl⟩
  · rintro σ Hx ⟨q, gx, gy, rfl, hq, sm, e⟩
    refine ⟨_, rfl, _, rfl, _, rfl, _, rfl, (by show 5 ≤ sizeLine; decide), ?_⟩
    (intro p1 p10; generalize hh_ : upd _ p1 _ = H1; have hp1 := upd_is hh_; have s1 := same_is hh_ p10; clear hh_)
    refine ⟨_, rfl, _, rfl, _, rfl, _, _, rfl, rfl, _, rfl, (by show 5 ≤ sizeLine; decide), ?_⟩
    (intro p2 p20; generalize hh_ : upd _ p2 _ = H2; have hp2 := upd_is hh_; have s2 := same_is hh_ p20; clear hh_)
    refine ⟨_, rfl, _, _, rfl, rfl, _, rfl, _, rfl, q, _, rfl, .inl (SqT.of ((s1.trans s2) _ _ hq)), (by show 5 ≤ sizeLine; decide), ?_⟩
    (intro p3 p30; generalize hh_ : upd _ p3 _ = H3; have hp3 := upd_is hh_; have s3 := same_is hh_ p30; clear hh_)
    refine ⟨_, rfl, _, _, rfl, rfl, .inl ⟨by decide, by decide⟩, _, _, rfl, rfl, _, rfl, _, rfl, _, rfl, (by show 5 ≤ sizeLine; decide), ?_⟩
    (intro p4 p40; generalize hh_ : upd _ p4 _ = H4; have hp4 := upd_is hh_; have s4 := same_is hh_ p40; clear hh_)
    refine ⟨_, rfl, _, _, rfl, rfl, .inl ⟨by decide, by decide⟩, _, _, rfl, rfl, _, rfl, _, rfl, q, _, rfl, .inl (SqT.of ((s1.trans (s2.trans (s3.trans s4))) _ _ hq)), (by show 5 ≤ sizeLine; decide), ?_⟩
    (intro p5 p50; generalize hh_ : upd _ p5 _ = H5; have hp5 := upd_is hh_; have s5 := same_is hh_ p50; clear hh_)
    refine ⟨(by show 5 ≤ sizeLine; decide), ?_⟩
    (intro L L0; generalize hh_ : upd _ L _ = H6; have hL := upd_is hh_; have s6 := same_is hh_ L0; clear hh_)
    have s56 := s5.trans s6
    have s46 := s4.trans s56
    have s36 := s3.trans s46
    have s26 := s2.trans s36
    refine k L H6 (sm.trans (s1.trans s26)) ?_ ?_
    · cases eL : H L with
      | none => rfl
      | some o => rw [s5 _ _ (s4 _ _ (s3 _ _ (s2 _ _ (s1 _ _ (sm _ _ eL)))))] at L0; cases L0
    · rw [← e]
      exact ⟨_, hL, .cons (im_tch (s26 _ _ hp1)) (.cons (im_tch (s36 _ _ hp2)) (.cons (im_tch (s46 _ _ hp3)) (.cons (im_tch (s56 _ _ hp4)) (.cons (im_tch (s6 _ _ hp5)) .nil))))⟩
theorem sq_row {H H' : Hp} {a : Addr} {xs : List V} (h : SqT K H a xs) (s : Same H H') : SqT K H' a xs := Same.tup s h
def spPlain (K : PySem.W.Frag) : Sp := fun vs H Q _ => ∃ (W : Wi) (l : Str) (a q : Addr) (x y m f g r : Int), vs = [.ref a, .int x, .int y, .int m, .ref q, .int r] ∧ SqT K H a (W.row l) ∧ W.ok ∧ SqT K H q [.int f, .int g] ∧ Told H (W.pl x y m f g r) Q
theorem ok_plain {n1 : Nat} {ks1 : List Str} {sp1 : Sp} (D : DfK K mg "plain" splain ["wish", "x", "y", "moment", "fingers", "slop"] 5 ["slop"] [.int 18]) (T : Txt K mg) (c_plain_pair : Cl P w K mg base 1 "_plain_pair" (spPair K)) (c_plain_taps : Cl P w K mg base 1 "_plain_taps" spTaps) (c_plain_pull : Cl P w K mg base 1 "_plain_pull" spPull)
    (cclaimed : Cl P w K mg base 1 "claimed" (fun _ _ _ _ => False)) (cledK : ClK P w K mg base 1 "led" 5 ["slop"] (fun _ _ _ _ => False)) : ClK P w K mg base 2 "plain" 5 ["slop"] (spPlain K) ∧ ClD P w K mg base 2 "plain" [.int 18] (spPlain K) := by
  refine D.ok scplain (fun vs H Q E h => ?_) (fun f cdv A outer s H vs Q E hr h => ?_)
  · obtain ⟨_, _, _, _, _, _, _, _, _, _, rfl, _⟩ := h
    rfl
  obtain ⟨W, l, a, q, x, y, m, f, g, r, rfl, ha, ok, hq, k⟩ := h
  have hu := hu_of hr
  obtain ⟨_, mSTEP_TIME⟩ := T.mSTEP_TIMEx
  refine ⟨_, -- kind = wish[0]
    (pss_cons (ps_set (i := 6) scplain.nd rfl (Or.inl rfl) (pe_ix ix_tup (pv 0) pe_int (fun _ _ => rfl)))
    (pss_cons (ps_if (pt_cmpR op_in_seq (pv 6) (pe_tup (pa_cons pe_str (pa_cons pe_str pa_nil))) (by with_unfolding_all rfl))
      (pss_one (ps_ret (pe_cl c_plain_pair (hr.mono (by first | decide | omega)) rfl (pa_cons (pv 6) (pa_cons (pv 1) (pa_cons (pv 2) (pa_cons (pv 3) (pa_cons (pv 4) pa_nil))))))))
      pss_nil)
    (pss_cons (ps_set (i := 7) scplain.nd rfl (Or.inl rfl) (pe_ix ix_tup (pv 4) pe_int (fun _ _ => rfl)))
    (pss_cons (ps_if (pt_cmpR op_eq (pv 6) pe_str (nomark _))
      (pss_one (ps_ret (pe_cl c_plain_taps (hr.mono (by first | decide | omega)) rfl (pa_cons (pe_ix ix_tup (pv 0) pe_int (fun _ _ => rfl)) (pa_cons (pv 1) (pa_cons (pv 2) (pa_cons (pv 3) (pa_cons (pv 7) pa_nil))))))))
      pss_nil)
    (pss_cons (ps_if (pt_cmpR op_eq (pv 6) pe_str (nomark _))
      (pss_one (ps_ret (pe_lst (pa_cons (pe_tup (pa_cons (pv 3) (pa_cons (pv 7) (pa_cons pe_str (pa_cons (pv 1) (pa_cons (pv 2) pa_nil)))))) (pa_cons (pe_tup (pa_cons (pe_op op_add (pe_op op_add (pv 3) (pe_ix ix_tup (pv 0) pe_int (fun _ _ => rfl))) (pe_glob (v := .int 10) rfl mSTEP_TIME ⟨_, rfl⟩)) (pa_cons (pv 7) (pa_cons pe_str (pa_cons (pv 1) (pa_cons (pv 2) pa_nil)))))) pa_nil)))))
      pss_nil)
    (pss_cons (ps_if (pt_cmpR op_eq (pv 6) pe_str (nomark _))
      (pss_one (ps_ret (pe_cl c_plain_pull (hr.mono (by first | decide | omega)) rfl (pa_cons (pe_ix ix_tup (pv 0) pe_int (fun _ _ => rfl)) (pa_cons (pv 1) (pa_cons (pv 2) (pa_cons (pv 3) (pa_cons (pv 7) (pa_cons (pv 5) pa_nil)))))))))
      pss_nil)
    (pss_cons (ps_set (i := 8) scplain.nd rfl (Or.inl rfl) (pe_cl cclaimed (hr.mono (by first | decide | omega)) rfl (pa_cons (pe_ix ix_tup (pv 0) pe_int (fun _ _ => rfl)) pa_nil)))
    (pss_one (ps_ret (pe_ifExp (pt_cmp (pc_isN (pv 8))) (pe_lst pa_nil) (pe_clK cledK (hr.mono (by first | decide | omega)) rfl (pa_cons (pv 8) (pa_cons (pv 1) (pa_cons (pv 2) (pa_cons (pv 3) (pa_cons (pv 7) pa_nil))))) (pk_cons (pv 5) pk_nil)))))))))))), ?_⟩
  have kind : ∀ (W : Wi) (kd : Str), (W.row l)[0]? = some (.str kd) → atI (W.row l) 0 = some (.str kd) := fun W kd e => atI_nat (j := 0) e
  cases W with
  | tap n =>
    refine ⟨_, rfl, a, _, 0, _, rfl, rfl, ha, kind (.tap n) _ rfl, ?_⟩
    refine ⟨_, rfl, (by show 2 ≤ sizeLine; decide), ?_⟩
    (intro t t0; generalize hh_ : upd _ t _ = H1; have ht := upd_is hh_; have s1 := same_is hh_ t0; clear hh_)
    refine ⟨t, _, rfl, .inr (SqT.of ht), rfl, by decide, _, rfl, ?_⟩
    refine iteF ⟨_, rfl, q, _, 0, _, rfl, rfl, sq_row hq s1, atI_nat (j := 0) rfl, ?_⟩
    refine ⟨_, rfl, rfl, _, rfl, iteT ?_⟩
    refine ⟨_, rfl, a, _, 2, _, rfl, rfl, sq_row ha s1, atI_nat (j := 2) rfl, _, rfl, _, rfl, _, rfl, _, rfl, ?_⟩
    exact ⟨n, x, y, m, f, rfl, ok.2, k.same s1⟩
  | press w =>
    refine ⟨_, rfl, a, _, 0, _, rfl, rfl, ha, kind (.press w) _ rfl, ?_⟩
    refine ⟨_, rfl, (by show 2 ≤ sizeLine; decide), ?_⟩
    (intro t t0; generalize hh_ : upd _ t _ = H1; have ht := upd_is hh_; have s1 := same_is hh_ t0; clear hh_)
    refine ⟨t, _, rfl, .inr (SqT.of ht), rfl, by decide, _, rfl, ?_⟩
    refine iteF ⟨_, rfl, q, _, 0, _, rfl, rfl, sq_row hq s1, atI_nat (j := 0) rfl, ?_⟩
    refine ⟨_, rfl, rfl, _, rfl, iteF ⟨_, rfl, rfl, _, rfl, iteT ?_⟩⟩
    refine ⟨_, rfl, _, rfl, _, rfl, _, rfl, (by show 5 ≤ sizeLine; decide), ?_⟩
    (intro p1 p10; generalize hh_ : upd _ p1 _ = H2; have hp1 := upd_is hh_; have s2 := same_is hh_ p10; clear hh_)
    refine ⟨_, rfl, _, rfl, a, _, 2, _, rfl, rfl, sq_row ha (s1.trans s2), atI_nat (j := 2) rfl, _, _, rfl, rfl, _, _, rfl, rfl, _, rfl, _, rfl, _, rfl, (by show 5 ≤ sizeLine; decide), ?_⟩
    (intro p2 p20; generalize hh_ : upd _ p2 _ = H3; have hp2 := upd_is hh_; have s3 := same_is hh_ p20; clear hh_)
    refine ⟨(by show 2 ≤ sizeLine; decide), ?_⟩
    (intro L L0; generalize hh_ : upd _ L _ = H4; have hL := upd_is hh_; have s4 := same_is hh_ L0; clear hh_)
    have s34 := s3.trans s4
    refine k L H4 (s1.trans (s2.trans s34)) ?_ ⟨_, hL, .cons (im_tch (s34 _ _ hp1)) (.cons (im_tch (s4 _ _ hp2)) .nil)⟩
    cases eL : H L with
    | none => rfl
    | some o => rw [s3 _ _ (s2 _ _ (s1 _ _ eL))] at L0; cases L0
  | pull w =>
    refine ⟨_, rfl, a, _, 0, _, rfl, rfl, ha, kind (.pull w) _ rfl, ?_⟩
    refine ⟨_, rfl, (by show 2 ≤ sizeLine; decide), ?_⟩
    (intro t t0; generalize hh_ : upd _ t _ = H1; have ht := upd_is hh_; have s1 := same_is hh_ t0; clear hh_)
    refine ⟨t, _, rfl, .inr (SqT.of ht), rfl, by decide, _, rfl, ?_⟩
    refine iteF ⟨_, rfl, q, _, 0, _, rfl, rfl, sq_row hq s1, atI_nat (j := 0) rfl, ?_⟩
    refine ⟨_, rfl, rfl, _, rfl, iteF ⟨_, rfl, rfl, _, rfl, iteF ⟨_, rfl, rfl, _, rfl, iteT ?_⟩⟩⟩
    refine ⟨_, rfl, a, _, 2, _, rfl, rfl, sq_row ha s1, atI_nat (j := 2) rfl, _, rfl, _, rfl, _, rfl, _, rfl, _, rfl, ?_⟩
    exact ⟨w, x, y, m, f, r, rfl, k.same s1⟩
  | spread =>
    refine ⟨_, rfl, a, _, 0, _, rfl, rfl, ha, kind .spread _ rfl, ?_⟩
    refine ⟨_, rfl, (by show 2 ≤ sizeLine; decide), ?_⟩
    (intro t t0; generalize hh_ : upd _ t _ = H1; have ht := upd_is hh_; have s1 := same_is hh_ t0; clear hh_)
    refine ⟨t, _, rfl, .inr (SqT.of ht), rfl, by decide, _, rfl, ?_⟩
    refine iteT ⟨_, rfl, _, rfl, _, rfl, _, rfl, _, rfl, ?_⟩
    exact ⟨true, q, x, y, m, f, g, rfl, sq_row hq s1, k.same s1⟩
  | turn =>
    refine ⟨_, rfl, a, _, 0, _, rfl, rfl, ha, kind .turn _ rfl, ?_⟩
    refine ⟨_, rfl, (by show 2 ≤ sizeLine; decide), ?_⟩
    (intro t t0; generalize hh_ : upd _ t _ = H1; have ht := upd_is hh_; have s1 := same_is hh_ t0; clear hh_)
    refine ⟨t, _, rfl, .inr (SqT.of ht), rfl, by decide, _, rfl, ?_⟩
    refine iteT ⟨_, rfl, _, rfl, _, rfl, _, rfl, _, rfl, ?_⟩
    exact ⟨false, q, x, y, m, f, g, rfl, sq_row hq s1, k.same s1⟩
end
end SG
namespace SG
open PySem PySem.Spec PyProof.Rows L2
/-! ### data in a heap that grows -/
/-! ### what a machine is, over data -/
def wordsL : List Str := ["out", "up", "down", "wait"]
def endsL : List Str := ["claim", "give"]
def isG (n : Nat) (d : PyData) : Bool := inL endsL d || bet d 0 ((n : Int) - 1)
def isStep (n : Nat) : PyData → Bool
  | .tuple [w, g] => inL wordsL w && isG n g
  | _ => false
def wordOf : PyData → Str
  | .tuple (.str s :: _) => s
  | _ => ""
def isSteps (n : Nat) (w : Bool) (ss : List PyData) : Bool :=
  ss.all (isStep n) && (decide ((seen (ss.map wordOf) ss.length).length = ss.length) && ((ss.map wordOf).any (· == "wait") == w))
def isState (n : Nat) : PyData → Bool
  | .tuple [.none, .tuple ss] => isSteps n false ss
  | .tuple [w, .tuple ss] => bet w 1 10000 && isSteps n true ss
  | _ => false
theorem isStep_two {n : Nat} {d : PyData} (h : isStep n d = true) : ∃ a b, d = .tuple [a, b] := by
  unfold isStep at h
  split at h
  · exact ⟨_, _, rfl⟩
  · cases h
theorem rowN_two {d : PyData} (h : rowN 2 d = true) : ∃ a b, d = .tuple [a, b] := by
  unfold rowN at h
  split at h
  · rename_i ds
    match ds, h with
    | [a, b], _ => exact ⟨a, b, rfl⟩
    | [], h => simp at h
    | [_], h => simp at h
    | _ :: _ :: _ :: _, h => simp at h
  · cases h
theorem DpAll.two {K : PySem.W.Frag} {H : Hp} {xs : List V} {a b : PyData} (h : DpAll K H xs [a, b]) : ∃ u v, xs = [u, v] ∧ Dp K H u a ∧ Dp K H v b := by
  cases h with
  | cons ha t => cases t with
    | cons hb t => cases t; exact ⟨_, _, rfl, ha, hb⟩
def goalOf : PyData → PyData
  | .tuple [_, g] => g
  | _ => .none
def stepsOf : PyData → List PyData
  | .tuple [_, .tuple ss] => ss
  | _ => []
def leadD (ss : List PyData) (w : Str) : Option PyData := (ss.find? fun s => wordOf s == w).map goalOf
def stepD (sts : List PyData) (i : Nat) (w : Str) : PyData :=
  match leadD (stepsOf (sts.getD i .none)) w with
  | some g => g
  | none => if w = "out" ∨ w = "up" then .str "give" else .none
theorem isState_two {n : Nat} {d : PyData} (h : isState n d = true) : ∃ a ss, d = .tuple [a, .tuple ss] ∧ ss.all (isStep n) = true := by
  unfold isState at h
  split at h
  · refine ⟨_, _, rfl, ?_⟩
    unfold isSteps at h
    simp only [Bool.and_eq_true] at h
    exact h.1
  · refine ⟨_, _, rfl, ?_⟩
    unfold isSteps at h
    simp only [Bool.and_eq_true] at h
    exact h.2.1
  · cases h
theorem isStep_parts {n : Nat} {d : PyData} (h : isStep n d = true) : ∃ w g, d = .tuple [.str w, g] ∧ w ∈ wordsL ∧ isG n g = true := by
  obtain ⟨a, b, rfl⟩ := isStep_two h
  have h' : (inL wordsL a && isG n b) = true := h
  rw [Bool.and_eq_true] at h'
  obtain ⟨s, hs, rfl⟩ := inL_str h'.1
  exact ⟨s, b, rfl, hs, h'.2⟩
/-- a list made of a tuple, item by item -/
theorem lc_mapT {K : PySem.W.Frag} {a : Addr} {xs : List V} {g : TG} {te : TE} {vs : List Nat} {σ : L2.St} {H : Hp} {D : Addr} {Qd : Hp → Prop} (F : Nat → V) (h : SqT K H a xs) (D0 : H D = none) (few : xs.length < 100000)
    (hs : ∀ i x Hx (N : V → Hp → Prop) (O : Hp → Prop), xs[i]? = some x → Same H Hx → (∀ H4, Same Hx H4 → N (F i) H4) → g x (wipe σ vs) Hx fun σ2 H2 => wipe σ2 vs = wipe σ vs ∧ tYes σ2 H2 fun b H3 => if b = true then te σ2 H3 N else O H3)
    (hd : ∀ Hx, Same H Hx → Hx D = some (.lst ((List.range xs.length).map F)) → Qd Hx) :
    ∃ W : Nat → Nat → Hp → Prop, (∃ m, W 0 m (upd H D (.lst []))) ∧ ∀ i m H, W i m H →
      ((Itt K a).stop i H ∧ Qd H) ∨ ((Itt K a).go i H ∧ ∃ Nx : Hp → Prop, (∀ H', Nx H' → ∃ m', m' < m ∧ W (i + 1) m' H') ∧ ∀ x H', (Itt K a).yld i H x H' → g x (wipe σ vs) H' fun σ2 H2 => wipe σ2 vs = wipe σ vs ∧ tYes σ2 H2 fun b H3 =>
        if b = true then te σ2 H3 fun y H4 => ∃ acc, H4 D = some (.lst acc) ∧ acc.length < sizeLine ∧ Nx (upd H4 D (.lst (acc ++ [y]))) else Nx H3) := by
  refine lc_tup (K := K) (a := a) (xs := xs) (fun i Hx => Hx D = some (.lst ((List.range i).map F)) ∧ Same H Hx) ⟨upd_same, same_new D0⟩ (fun i Hx _ ⟨_, sx⟩ => same_sqT sx h) ?_ ?_
  · rintro i x Hx hi ⟨hD, sx⟩
    have hil := (List.getElem?_eq_some_iff.mp hi).1
    have few' : 100000 ≤ sizeLine := by decide
    have step : ∀ H4, Same Hx H4 → ∃ acc, H4 D = some (.lst acc) ∧ acc.length < sizeLine ∧ ((upd H4 D (.lst (acc ++ [F i]))) D = some (.lst ((List.range (i + 1)).map F)) ∧ Same H (upd H4 D (.lst (acc ++ [F i])))) := by
      intro H4 s4
      refine ⟨_, s4 _ _ hD, ?_, ?_, ?_⟩
      · rw [List.length_map, List.length_range]; omega
      · rw [upd_same, List.range_succ, List.map_append]; rfl
      · intro p o e
        rw [upd_ne (ne_of_none e D0)]
        exact s4 _ _ (sx _ _ e)
    exact hs i x Hx _ _ hi sx step
  · rintro Hx ⟨hD, sx⟩
    exact hd Hx sx hD
theorem find_at {α : Type} {p : α → Bool} {ss : List α} {j : Nat} {s : α} (h : (ss.take j).find? p = none) (e : ss[j]? = some s) (hs : p s = true) : ss.find? p = some s := by
  have hj := (List.getElem?_eq_some_iff.mp e).1
  have e' := (List.getElem?_eq_some_iff.mp e).2
  have sp : ss = ss.take j ++ s :: ss.drop (j + 1) := by
    rw [← e', ← List.drop_eq_getElem_cons hj, List.take_append_drop]
  rw [sp, List.find?_append, h, List.find?_cons, hs]
  rfl
theorem find_no {α : Type} {p : α → Bool} {ss : List α} {j : Nat} {s : α} (h : (ss.take j).find? p = none) (e : ss[j]? = some s) (hs : ¬ p s = true) : (ss.take (j + 1)).find? p = none := by
  have hj := (List.getElem?_eq_some_iff.mp e).1
  have e' := (List.getElem?_eq_some_iff.mp e).2
  rw [List.take_succ_eq_append_getElem hj, List.find?_append, h, e', List.find?_cons]
  rw [Bool.eq_false_iff.mpr hs]
  rfl
/-! ### how large data is -/
mutual
def wt : PyData → Nat
  | .none | .bool _ | .int _ | .dict _ => 70
  | .str x => 70 + 10 * x.length
  | .list xs | .tuple xs => 10 + wtAll xs
def wtAll : List PyData → Nat
  | [] => 0
  | x :: xs => wt x + 2 + wtAll xs
end
theorem wt_ten : ∀ d : PyData, 10 ≤ wt d
  | .none => by simp [wt]
  | .bool _ => by simp [wt]
  | .int _ => by simp [wt]
  | .dict _ => by simp [wt]
  | .str _ => by simp [wt]; omega
  | .list _ => by simp [wt]
  | .tuple _ => by simp [wt]
theorem wtAll_len : ∀ ds : List PyData, 12 * ds.length ≤ wtAll ds
  | [] => by simp [wtAll]
  | d :: ds => by
    have := wt_ten d
    have := wtAll_len ds
    simp only [wtAll, List.length_cons]
    omega
theorem wtAll_mem : ∀ {ds : List PyData} {d : PyData}, d ∈ ds → wt d ≤ wtAll ds
  | d' :: ds, d, h => by
    simp only [wtAll]
    cases h with
    | head => omega
    | tail _ h => have := wtAll_mem h; omega
theorem isState_none (n : Nat) (ss : List PyData) : isState n (.tuple [.none, .tuple ss]) = isSteps n false ss := rfl
theorem isState_some {n : Nat} {a : PyData} {ss : List PyData} (h : a ≠ .none) : isState n (.tuple [a, .tuple ss]) = (bet a 1 10000 && isSteps n true ss) := by
  cases a <;> first | rfl | exact absurd rfl h
def isNon : PyData → Bool
  | .none => true
  | _ => false
theorem isState_eq (n : Nat) (a : PyData) (ss : List PyData) : isState n (.tuple [a, .tuple ss]) = ((isNon a || bet a 1 10000) && isSteps n (!isNon a) ss) := by
  cases a <;> rfl
theorem Dp.isNon {K : PySem.W.Frag} {H : Hp} {v : V} {d : PyData} (h : Dp K H v d) : decide (v = .non) = SG.isNon d := by
  cases h <;> simp [SG.isNon]
theorem isState_wait {n : Nat} {a b : PyData} (h : (SG.isNon a || bet a 1 10000) = false) : isState n (.tuple [a, b]) = false := by
  cases e : isState n (.tuple [a, b]) with
  | false => rfl
  | true =>
    obtain ⟨a', ss, eq, _⟩ := isState_two e
    cases eq
    rw [isState_eq, h] at e
    exact e.symm
theorem isState_tup {n : Nat} {a b : PyData} (h : b.isTuple = false) : isState n (.tuple [a, b]) = false := by
  cases e : isState n (.tuple [a, b]) with
  | false => rfl
  | true =>
    obtain ⟨a', ss, eq, _⟩ := isState_two e
    cases eq
    cases h
theorem isState_all {n : Nat} {a : PyData} {ss : List PyData} (h : ss.all (isStep n) = false) : isState n (.tuple [a, .tuple ss]) = false := by
  rw [isState_eq]
  unfold isSteps
  rw [h, Bool.false_and, Bool.and_false]
theorem map_range_get {α : Type} {β : Type} {f : α → β} {d : α} (ss : List α) : (List.range ss.length).map (fun i => f (ss.getD i d)) = ss.map f := by
  apply List.ext_getElem
  · simp
  · intro i h1 h2
    simp only [List.length_map, List.length_range] at h1
    simp [List.getD_eq_getElem?_getD, List.getElem?_eq_getElem h1]
/-- a list made of a range, number by number -/
theorem lc_mapR {lo : Int} {n : Nat} {g : TG} {te : TE} {vs : List Nat} {σ : L2.St} {H : Hp} {D : Addr} {Qd : Hp → Prop} (F : Nat → V) (D0 : H D = none) (few : n < 100000)
    (hs : ∀ i Hx (N : V → Hp → Prop) (O : Hp → Prop), i < n → Same H Hx → (∀ H4, Same Hx H4 → N (F i) H4) → g (.int (lo + i)) (wipe σ vs) Hx fun σ2 H2 => wipe σ2 vs = wipe σ vs ∧ tYes σ2 H2 fun b H3 => if b = true then te σ2 H3 N else O H3)
    (hd : ∀ Hx, Same H Hx → Hx D = some (.lst ((List.range n).map F)) → Qd Hx) :
    ∃ W : Nat → Nat → Hp → Prop, (∃ m, W 0 m (upd H D (.lst []))) ∧ ∀ i m H, W i m H →
      ((Itr lo n).stop i H ∧ Qd H) ∨ ((Itr lo n).go i H ∧ ∃ Nx : Hp → Prop, (∀ H', Nx H' → ∃ m', m' < m ∧ W (i + 1) m' H') ∧ ∀ x H', (Itr lo n).yld i H x H' → g x (wipe σ vs) H' fun σ2 H2 => wipe σ2 vs = wipe σ vs ∧ tYes σ2 H2 fun b H3 =>
        if b = true then te σ2 H3 fun y H4 => ∃ acc, H4 D = some (.lst acc) ∧ acc.length < sizeLine ∧ Nx (upd H4 D (.lst (acc ++ [y]))) else Nx H3) := by
  refine lc_range (n := n) (fun i Hx => Hx D = some (.lst ((List.range i).map F)) ∧ Same H Hx) ⟨upd_same, same_new D0⟩ ?_ ?_
  · rintro i Hx hi ⟨hD, sx⟩
    have few' : 100000 ≤ sizeLine := by decide
    have step : ∀ H4, Same Hx H4 → ∃ acc, H4 D = some (.lst acc) ∧ acc.length < sizeLine ∧ ((upd H4 D (.lst (acc ++ [F i]))) D = some (.lst ((List.range (i + 1)).map F)) ∧ Same H (upd H4 D (.lst (acc ++ [F i])))) := by
      intro H4 s4
      refine ⟨_, s4 _ _ hD, ?_, ?_, ?_⟩
      · rw [List.length_map, List.length_range]; omega
      · rw [upd_same, List.range_succ, List.map_append]; rfl
      · intro p o e
        rw [upd_ne (ne_of_none e D0)]
        exact s4 _ _ (sx _ _ e)
    exact hs i Hx _ _ hi sx step
  · rintro Hx ⟨hD, sx⟩
    exact hd Hx sx hD
/-! ### rings by waits -/
def nextW (sts : List PyData) (i : Nat) : Option Nat := match stepD sts i "wait" with | .int j => some j.toNat | _ => none
def runF (sts : List PyData) : Nat → Nat → Option Nat
  | 0, i => some i
  | k + 1, i => (runF sts k i).bind (nextW sts)
def isMach : PyData → Bool
  | .tuple sts => (decide (1 ≤ sts.length) && decide (sts.length ≤ 8)) && (sts.all (isState sts.length) && !((List.range sts.length).any fun i => (runF sts sts.length i).isSome))
  | _ => false
theorem leadD_goal {n : Nat} {ss : List PyData} {w : Str} {g : PyData} (ok : ss.all (isStep n) = true) (h : leadD ss w = some g) : isG n g = true := by
  unfold leadD at h
  cases e : ss.find? (fun s => wordOf s == w) with
  | none => rw [e] at h; cases h
  | some s =>
    rw [e] at h
    obtain ⟨w', g', rfl, _, hg⟩ := isStep_parts (List.all_eq_true.mp ok s (List.mem_of_find?_eq_some e))
    cases h
    exact hg
theorem isG_cases {n : Nat} {g : PyData} (h : isG n g = true) : (∃ s, s ∈ endsL ∧ g = .str s) ∨ ∃ j : Nat, j < n ∧ g = .int j := by
  unfold isG at h
  rw [Bool.or_eq_true] at h
  rcases h with h | h
  · exact .inl (inL_str h)
  · unfold bet at h
    split at h
    · rename_i i
      rw [Bool.and_eq_true] at h
      have h1 := of_decide_eq_true h.1
      have h2 := of_decide_eq_true h.2
      refine .inr ⟨i.toNat, by omega, ?_⟩
      rw [Int.toNat_of_nonneg h1]
    · cases h
theorem steps_ok {sts : List PyData} {n i : Nat} (ok : sts.all (isState n) = true) (hi : i < sts.length) : (stepsOf (sts.getD i .none)).all (isStep n) = true := by
  have e1 : sts[i]? = some sts[i] := List.getElem?_eq_getElem hi
  obtain ⟨a, ss, es, oks⟩ := isState_two (List.all_eq_true.mp ok sts[i] (List.getElem_mem hi))
  rw [List.getD_eq_getElem?_getD, e1, es]
  exact oks
theorem stepD_wait {sts : List PyData} {n i : Nat} (ok : sts.all (isState n) = true) (hi : i < sts.length) :
    stepD sts i "wait" = .none ∨ (∃ s, s ∈ endsL ∧ stepD sts i "wait" = .str s) ∨ ∃ j : Nat, j < n ∧ stepD sts i "wait" = .int j := by
  unfold stepD
  cases e : leadD (stepsOf (sts.getD i .none)) "wait" with
  | none =>
    left
    show (if ("wait" : Str) = "out" ∨ ("wait" : Str) = "up" then PyData.str "give" else .none) = .none
    rw [if_neg (by decide)]
  | some g => exact .inr (isG_cases (leadD_goal (steps_ok ok hi) e))
theorem runF_none {sts : List PyData} {k i : Nat} (h : runF sts k i = none) : ∀ {m : Nat}, k ≤ m → runF sts m i = none := by
  intro m
  induction m with
  | zero => intro hk; obtain rfl : k = 0 := by omega
            exact h
  | succ m ih =>
    intro hk
    by_cases e : k = m + 1
    · rw [← e]; exact h
    · show (runF sts m i).bind (nextW sts) = none
      rw [ih (by omega)]; rfl
theorem isMach_len {sts : List PyData} (h : ¬ (1 ≤ sts.length ∧ sts.length ≤ 8)) : isMach (.tuple sts) = false := by
  unfold isMach
  by_cases h1 : 1 ≤ sts.length
  · have h2 : ¬ sts.length ≤ 8 := fun z => h ⟨h1, z⟩
    simp [h2]
  · simp [h1]
theorem isMach_all {sts : List PyData} (h : sts.all (isState sts.length) = false) : isMach (.tuple sts) = false := by
  unfold isMach
  simp only [h, Bool.false_and, Bool.and_false]
theorem isMach_eq {sts : List PyData} (h1 : 1 ≤ sts.length) (h2 : sts.length ≤ 8) (h : sts.all (isState sts.length) = true) : isMach (.tuple sts) = !((List.range sts.length).any fun i => (runF sts sts.length i).isSome) := by
  unfold isMach
  simp only [h, h1, h2, decide_true, Bool.true_and, Bool.and_self]
/-- as isStep, by any word -/
def isStepS (n : Nat) : PyData → Bool
  | .tuple [.str _, g] => isG n g
  | _ => false
theorem isStepS_parts {n : Nat} {d : PyData} (h : isStepS n d = true) : ∃ w g, d = .tuple [.str w, g] ∧ isG n g = true := by
  unfold isStepS at h
  split at h
  · exact ⟨_, _, rfl, h⟩
  · cases h
theorem isStep_split (n : Nat) (d : PyData) : isStep n d = (isStepS n d && wordsL.contains (wordOf d)) := by
  cases h : isStepS n d with
  | true =>
    obtain ⟨w, g, rfl, hg⟩ := isStepS_parts h
    rw [Bool.true_and]
    show (inL wordsL (.str w) && isG n g) = wordsL.contains w
    rw [hg, Bool.and_true]
    cases e : wordsL.contains w with
    | true => exact inL_of (List.contains_iff_mem.mp e)
    | false =>
      rw [Bool.eq_false_iff]
      intro z
      obtain ⟨s, hs, e'⟩ := inL_str z
      cases e'
      rw [List.contains_iff_mem.mpr hs] at e
      cases e
  | false =>
    rw [Bool.false_and, Bool.eq_false_iff]
    intro z
    obtain ⟨w, g, rfl, _, hg⟩ := isStep_parts z
    have : isG n g = false := h
    rw [this] at hg
    cases hg
theorem all_split (n : Nat) : ∀ ss : List PyData, ss.all (isStep n) = (ss.all (isStepS n) && (ss.map wordOf).all fun w => wordsL.contains w)
  | [] => rfl
  | s :: ss => by
    simp only [List.all_cons, List.map_cons, all_split n ss, isStep_split n s]
    cases isStepS n s <;> cases wordsL.contains (wordOf s) <;> simp
theorem all_not {α : Type} {p : α → Bool} {ss : List α} {j : Nat} {s : α} (e : ss[j]? = some s) (h : p s = false) : ss.all p = false := by
  rw [List.all_eq_false]
  exact ⟨s, List.mem_of_getElem? e, by rw [h]; exact Bool.false_ne_true⟩
/-! ### words, each once -/
theorem seen_any (xs : List Str) (k : Str) : ∀ i, i ≤ xs.length → (seen xs i).any (· == k) = (xs.take i).any (· == k) := by
  intro i
  induction i with
  | zero => intro _; simp [seen]
  | succ i ih =>
    intro h
    have hi : i < xs.length := h
    rw [seen_succ (List.getElem?_eq_getElem hi), dedup_any, ih (by omega), List.take_succ_eq_append_getElem hi, List.any_append]
    congr 1
    simp only [List.any_cons, List.any_nil, Bool.or_false]
    rw [Bool.eq_iff_iff, beq_iff_eq, decide_eq_true_iff]
    exact eq_comm
theorem seen_full {xs : List Str} (h : (seen xs xs.length).length = xs.length) : ∀ m i, i + m = xs.length → (seen xs i).length = i := by
  intro m
  induction m with
  | zero => intro i e; have : i = xs.length := by omega
            rw [this]; exact h
  | succ m ih =>
    intro i e
    have hi : i < xs.length := by omega
    have h1 := ih (i + 1) (by omega)
    rw [seen_succ (List.getElem?_eq_getElem hi), dedup_len] at h1
    have h2 := seen_le xs i
    split at h1 <;> omega
theorem seen_nodup {xs : List Str} (h : (seen xs xs.length).length = xs.length) : xs.Nodup := by
  rw [List.Nodup, List.pairwise_iff_getElem]
  intro i j hi hj lt e
  have h1 := seen_full h (xs.length - (j + 1)) (j + 1) (by omega)
  have h0 := seen_full h (xs.length - j) j (by omega)
  rw [seen_succ (List.getElem?_eq_getElem hj), dedup_len, seen_any xs _ j (by omega)] at h1
  have hit : (xs.take j).any (· == xs[j]) = true := by
    rw [List.any_eq_true]
    refine ⟨xs[i], List.mem_iff_getElem.mpr ⟨i, by rw [List.length_take]; omega, by rw [List.getElem_take]⟩, ?_⟩
    rw [e]; exact beq_self_eq_true _
  rw [if_pos hit] at h1
  omega
theorem isSteps_nodup {n : Nat} {w : Bool} {ss : List PyData} (h : isSteps n w ss = true) : (ss.map wordOf).Nodup := by
  unfold isSteps at h
  simp only [Bool.and_eq_true] at h
  refine seen_nodup ?_
  rw [List.length_map]
  exact of_decide_eq_true h.2.1
theorem isState_nodup {n : Nat} {a : PyData} {ss : List PyData} (h : isState n (.tuple [a, .tuple ss]) = true) : (ss.map wordOf).Nodup := by
  rw [isState_eq, Bool.and_eq_true] at h
  exact isSteps_nodup h.2
theorem merge_nodup : ∀ (kvs acc : List (Key × V)), ((acc ++ kvs).map (·.1)).Nodup → mergeK acc kvs = acc ++ kvs
  | [], acc, _ => by rw [List.append_nil]; rfl
  | kv :: kvs, acc, h => by
    have hn : valV acc kv.1 = none := by
      cases e : valV acc kv.1 with
      | none => rfl
      | some v =>
        have s := valV_any kv.1 acc
        rw [e] at s
        rw [Option.isSome_some, List.any_eq_true] at s
        obtain ⟨p, hp, e2⟩ := s
        rw [List.map_append, List.nodup_append] at h
        exact (h.2.2 p.1 (List.mem_map.mpr ⟨p, hp, rfl⟩) kv.1 (by simp) (of_decide_eq_true e2)).elim
    show mergeK (putK acc kv.1 kv.2) kvs = _
    rw [putK_new _ hn, merge_nodup kvs _ (by rw [List.append_assoc]; exact h), List.append_assoc]
    rfl
/-! ### data whose tuples have no attributes -/
mutual
inductive Fz (K : PySem.W.Frag) (H : Hp) : V → PyData → Prop
  | non : Fz K H .non .none
  | bl (b : Bool) : Fz K H (.bl b) (.bool b)
  | int (i : Int) : Fz K H (.int i) (.int i)
  | str (x : Str) : Fz K H (.str x) (.str x)
  | lst {a : Addr} {xs : List V} {ds : List PyData} : H a = some (.lst xs) → FzAll K H xs ds → Fz K H (.ref a) (.list ds)
  | tup {a : Addr} {xs : List V} {ds : List PyData} : Tz H a xs → FzAll K H xs ds → Fz K H (.ref a) (.tuple ds)
inductive FzAll (K : PySem.W.Frag) (H : Hp) : List V → List PyData → Prop
  | nil : FzAll K H [] []
  | cons {v : V} {vs : List V} {d : PyData} {ds : List PyData} : Fz K H v d → FzAll K H vs ds → FzAll K H (v :: vs) (d :: ds)
end
mutual
theorem Fz.dp {K : PySem.W.Frag} {H : Hp} : ∀ {d : PyData} {v : V}, Fz K H v d → Dp K H v d
  | _, _, .non => .non
  | _, _, .bl b => .bl b
  | _, _, .int i => .int i
  | _, _, .str x => .str x
  | _, _, .lst a b => .lst (SqL.of a) (FzAll.dp b)
  | _, _, .tup a b => .tup a.sq (FzAll.dp b)
theorem FzAll.dp {K : PySem.W.Frag} {H : Hp} : ∀ {ds : List PyData} {vs : List V}, FzAll K H vs ds → DpAll K H vs ds
  | _, _, .nil => .nil
  | _, _, .cons h t => .cons (Fz.dp h) (FzAll.dp t)
end
theorem Tz.same {H H' : Hp} (e : Same H H') {a : Addr} {xs : List V} (h : Tz H a xs) : Tz H' a xs := by
  obtain ⟨o, h, d⟩ := h
  exact ⟨o, e _ _ h, d⟩
mutual
/-- kept where all lists and tuples are -/
theorem Fz.keep {K : PySem.W.Frag} {H H' : Hp} (l : ∀ a xs, H a = some (.lst xs) → H' a = some (.lst xs)) (t : ∀ a xs, Tz H a xs → Tz H' a xs) : ∀ {d : PyData} {v : V}, Fz K H v d → Fz K H' v d
  | _, _, .non => .non
  | _, _, .bl b => .bl b
  | _, _, .int i => .int i
  | _, _, .str x => .str x
  | _, _, .lst a b => .lst (l _ _ a) (FzAll.keep l t b)
  | _, _, .tup a b => .tup (t _ _ a) (FzAll.keep l t b)
theorem FzAll.keep {K : PySem.W.Frag} {H H' : Hp} (l : ∀ a xs, H a = some (.lst xs) → H' a = some (.lst xs)) (t : ∀ a xs, Tz H a xs → Tz H' a xs) : ∀ {ds : List PyData} {vs : List V}, FzAll K H vs ds → FzAll K H' vs ds
  | _, _, .nil => .nil
  | _, _, .cons h r => .cons (Fz.keep l t h) (FzAll.keep l t r)
end
theorem Fz.same {K : PySem.W.Frag} {H H' : Hp} (e : Same H H') {d : PyData} {v : V} (h : Fz K H v d) : Fz K H' v d := h.keep (fun _ _ z => e _ _ z) fun _ _ z => z.same e
theorem FzAll.same {K : PySem.W.Frag} {H H' : Hp} (e : Same H H') {ds : List PyData} {vs : List V} (h : FzAll K H vs ds) : FzAll K H' vs ds := h.keep (fun _ _ z => e _ _ z) fun _ _ z => z.same e
theorem Fz.tupOf {K : PySem.W.Frag} {H : Hp} {x : V} {ds : List PyData} (h : Fz K H x (.tuple ds)) : ∃ a xs, x = .ref a ∧ Tz H a xs ∧ FzAll K H xs ds := by
  cases h with
  | tup a b => exact ⟨_, _, rfl, a, b⟩
theorem FzAll.get {K : PySem.W.Frag} {H : Hp} : ∀ {ds : List PyData} {vs : List V}, FzAll K H vs ds → ∀ {i : Nat} {d : PyData}, ds[i]? = some d → ∃ v, vs[i]? = some v ∧ Fz K H v d
  | _, _, .nil, i, d, h => by simp at h
  | _, _, .cons a t, 0, d, h => by
    simp only [List.getElem?_cons_zero, Option.some.injEq] at h
    subst h
    exact ⟨_, rfl, a⟩
  | _, _, .cons a t, i + 1, d, h => by
    simp only [List.getElem?_cons_succ] at h
    obtain ⟨v, e, q⟩ := FzAll.get t h
    exact ⟨v, by simpa using e, q⟩
theorem FzAll.two {K : PySem.W.Frag} {H : Hp} {xs : List V} {a b : PyData} (h : FzAll K H xs [a, b]) : ∃ u v, xs = [u, v] ∧ Fz K H u a ∧ Fz K H v b := by
  cases h with
  | cons ha t => cases t with
    | cons hb t => cases t; exact ⟨_, _, rfl, ha, hb⟩
theorem FzAll.len {K : PySem.W.Frag} {H : Hp} {ds : List PyData} {vs : List V} (h : FzAll K H vs ds) : vs.length = ds.length := DpAll.len h.dp
/-- steps as pairs of a dict -/
theorem steps_pairs {K : PySem.W.Frag} {H : Hp} {n : Nat} : ∀ {ss : List PyData} {ys : List V}, FzAll K H ys ss → ss.all (isStep n) = true → ∃ (ps : List Addr) (kvs : List (Key × V)), ys = ps.map V.ref ∧ Paired (fun p kv => SqT K H p [kV kv.1, kv.2]) ps kvs ∧
    kvs.map (·.1) = ss.map (fun s => (Sum.inr (wordOf s) : Key)) ∧ ∀ wd, match leadD ss wd with
      | none => valV kvs (Sum.inr wd : Key) = none
      | some g => ∃ v, valV kvs (Sum.inr wd : Key) = some v ∧ Fz K H v g
  | _, _, .nil, _ => ⟨[], [], rfl, .nil, rfl, fun wd => rfl⟩
  | _, _, .cons (d := d) (ds := ds) h t, ok => by
    rw [List.all_cons, Bool.and_eq_true] at ok
    obtain ⟨ps, kvs, e1, pr, e2, look⟩ := steps_pairs t ok.2
    obtain ⟨wz, g, rfl, _, hg⟩ := isStep_parts ok.1
    obtain ⟨a, xs, rfl, hx, al⟩ := h.tupOf
    obtain ⟨z1, z2, rfl, h1, h2⟩ := al.two
    obtain rfl : z1 = .str wz := by cases h1; rfl
    refine ⟨a :: ps, (Sum.inr wz, z2) :: kvs, by rw [e1]; rfl, .cons hx.sq pr, by rw [List.map_cons, List.map_cons, e2]; rfl, ?_⟩
    intro wd
    by_cases e : wz = wd
    · subst e
      have f : leadD (.tuple [.str wz, g] :: ds) wz = some g := by
        unfold leadD
        rw [List.find?_cons, show (wordOf (.tuple [.str wz, g]) == wz) = true from beq_self_eq_true wz]
        rfl
      rw [f]
      exact ⟨z2, valV_pos rfl, h2⟩
    · have f : leadD (.tuple [.str wz, g] :: ds) wd = leadD ds wd := by
        unfold leadD
        rw [List.find?_cons, show (wordOf (.tuple [.str wz, g]) == wd) = false from beq_eq_false_iff_ne.mpr e]
      rw [f]
      have q := look wd
      rw [valV_neg (fun z => e (Sum.inr.inj z))]
      exact q
end SG
/-! a ring by waits among n states is seen after n turns as after nine -/
namespace SG
open PySem PySem.Spec PyProof.Rows L2
section
variable {sts : List PyData} {n : Nat}
theorem runF_shift : ∀ k i, runF sts (k + 1) i = (nextW sts i).bind (runF sts k)
  | 0, i => by
    show (some i).bind (nextW sts) = _
    cases e : nextW sts i with
    | none => rw [Option.bind_some, e]; rfl
    | some j => rw [Option.bind_some, e]; rfl
  | k + 1, i => by
    show (runF sts (k + 1) i).bind (nextW sts) = _
    rw [runF_shift k i, Option.bind_assoc]
    rfl
def S (sts : List PyData) (k i : Nat) : Bool := (runF sts k i).isSome
theorem S_down {k i : Nat} (h : S sts (k + 1) i = true) : S sts k i = true := by
  unfold S at h ⊢
  cases e : runF sts k i with
  | none => have : runF sts (k + 1) i = none := by show (runF sts k i).bind _ = none; rw [e]; rfl
            rw [this] at h; cases h
  | some j => rfl
theorem S_le {k i : Nat} : ∀ {m : Nat}, k ≤ m → S sts m i = true → S sts k i = true := by
  intro m
  induction m with
  | zero => intro h q; obtain rfl : k = 0 := by omega
            exact q
  | succ m ih =>
    intro h q
    by_cases e : k = m + 1
    · rw [e]; exact q
    · exact ih (by omega) (S_down q)
theorem S_step {k i : Nat} : S sts (k + 1) i = true ↔ ∃ j, nextW sts i = some j ∧ S sts k j = true := by
  unfold S
  rw [runF_shift]
  cases e : nextW sts i with
  | none => simp
  | some j => simp
theorem stable_up (hn : ∀ i j, i < n → nextW sts i = some j → j < n) {k : Nat} (h : ∀ i, i < n → S sts k i = true → S sts (k + 1) i = true) : ∀ m i, i < n → S sts k i = true → S sts (k + m) i = true := by
  have one : ∀ m i, i < n → S sts (k + m) i = true → S sts (k + m + 1) i = true := by
    intro m
    induction m with
    | zero => intro i hi q; exact h i hi q
    | succ m ih =>
      intro i hi q
      obtain ⟨j, e, q'⟩ := S_step.mp q
      exact S_step.mpr ⟨j, e, ih j (hn i j hi e) q'⟩
  intro m
  induction m with
  | zero => intro i _ q; exact q
  | succ m ih => intro i hi q; exact one m i hi (ih i hi q)
theorem count_le {p q : Nat → Bool} : ∀ l : List Nat, (∀ x ∈ l, p x = true → q x = true) → l.countP p ≤ l.countP q
  | [], _ => Nat.le_refl _
  | x :: l, h => by
    have ih := count_le l fun y hy => h y (by simp [hy])
    have h0 := h x (by simp)
    rw [List.countP_cons, List.countP_cons]
    cases hp : p x with
    | false => simp only [Bool.false_eq_true, if_false]; split <;> omega
    | true => rw [h0 hp]; simp only [if_true]; omega
theorem count_lt {p q : Nat → Bool} : ∀ l : List Nat, (∀ x ∈ l, p x = true → q x = true) → (∃ x ∈ l, q x = true ∧ p x = false) → l.countP p < l.countP q
  | [], _, ⟨x, hx, _⟩ => by cases hx
  | x :: l, h, ⟨y, hy, h1, h2⟩ => by
    have ih := count_le l fun y hy => h y (by simp [hy])
    have h0 := h x (by simp)
    rw [List.countP_cons, List.countP_cons]
    cases hy with
    | head => rw [h1, h2]; simp; omega
    | tail _ hy =>
      have ih2 := count_lt l (fun y hy => h y (by simp [hy])) ⟨y, hy, h1, h2⟩
      cases hp : p x with
      | false => simp only [Bool.false_eq_true, if_false]; split <;> omega
      | true => rw [h0 hp]; simp only [if_true]; omega
theorem shrink (k : Nat) : (List.range n).countP (S sts k) + k ≤ n ∨ ∃ k', k' < k ∧ ∀ i, i < n → S sts k' i = true → S sts (k' + 1) i = true := by
  induction k with
  | zero =>
    left
    have := List.countP_le_length (p := S sts 0) (l := List.range n)
    rw [List.length_range] at this
    omega
  | succ k ih =>
    rcases ih with ih | ⟨k', h1, h2⟩
    · by_cases st : ∀ i, i < n → S sts k i = true → S sts (k + 1) i = true
      · exact .inr ⟨k, by omega, st⟩
      · left
        have lt : (List.range n).countP (S sts (k + 1)) < (List.range n).countP (S sts k) := by
          refine count_lt _ (fun x _ => S_down) ?_
          have ex : ∃ i, ¬ (i < n → S sts k i = true → S sts (k + 1) i = true) := Classical.not_forall.mp st
          obtain ⟨i, hi⟩ := ex
          have h1 : i < n := Classical.byContradiction fun z => hi fun y => absurd y z
          have h2 : S sts k i = true := Classical.byContradiction fun z => hi fun _ y => absurd y z
          refine ⟨i, List.mem_range.mpr h1, h2, ?_⟩
          rw [Bool.eq_false_iff]
          exact fun z => hi fun _ _ => z
        omega
    · exact .inr ⟨k', by omega, h2⟩
theorem ring_eq (h8 : n ≤ 8) (hn : ∀ i j, i < n → nextW sts i = some j → j < n) : ((List.range n).any fun i => (runF sts n i).isSome) = (List.range n).any fun i => (runF sts 9 i).isSome := by
  rw [Bool.eq_iff_iff, List.any_eq_true, List.any_eq_true]
  constructor
  · rintro ⟨i, hi, q⟩
    have hi' := List.mem_range.mp hi
    rcases shrink (sts := sts) (n := n) n with h | ⟨k', h1, h2⟩
    · have z : 0 < (List.range n).countP (S sts n) := List.countP_pos_iff.mpr ⟨i, hi, q⟩
      omega
    · refine ⟨i, hi, ?_⟩
      have a : S sts k' i = true := S_le (by omega) q
      have b := stable_up hn h2 (9 - k') i hi' a
      rwa [show k' + (9 - k') = 9 by omega] at b
  · rintro ⟨i, hi, q⟩
    exact ⟨i, hi, S_le (by omega) q⟩
end
theorem nextW_lt {sts : List PyData} {n i j : Nat} (ok : sts.all (isState n) = true) (hi : i < sts.length) (h : nextW sts i = some j) : j < n := by
  unfold nextW at h
  rcases stepD_wait ok hi with e | ⟨s, hs, e⟩ | ⟨m, hm, e⟩
  · rw [e] at h; cases h
  · rw [e] at h; cases h
  · rw [e] at h
    have : (m : Int).toNat = j := Option.some.inj h
    omega
end SG
namespace SG
open PySem PySem.Spec PyProof.Rows L2
/-! ### the tape -/
def tapeD (c : Addr) (s l : Int) : List (Key × V) := [(Sum.inr "cells", .ref c), (Sum.inr "spot", .int s), (Sum.inr "left", .int l)]
theorem k12 : ¬ (Sum.inr ("cells" : Str) : Key) = Sum.inr ("spot" : Str) := by decide +kernel
theorem k13 : ¬ (Sum.inr ("cells" : Str) : Key) = Sum.inr ("left" : Str) := by decide +kernel
theorem k23 : ¬ (Sum.inr ("spot" : Str) : Key) = Sum.inr ("left" : Str) := by decide +kernel
theorem k32 : ¬ (Sum.inr ("left" : Str) : Key) = Sum.inr ("spot" : Str) := by decide +kernel
theorem n12 : ¬ ("cells" : Str) = ("spot" : Str) := by decide +kernel
theorem n13 : ¬ ("cells" : Str) = ("left" : Str) := by decide +kernel
theorem n23 : ¬ ("spot" : Str) = ("left" : Str) := by decide +kernel
theorem n32 : ¬ ("left" : Str) = ("spot" : Str) := by decide +kernel
theorem len3 {c : Addr} {s l : Int} : (tapeD c s l).length < sizeLine := by show 3 < sizeLine; decide
/-- a tape stands at t, of which at most n cells were taken -/
def TapeAt (H : Hp) (t c : Addr) (n : Nat) : Prop :=
  ∃ (cs : List Int) (s l : Int), H t = some (.dK (tapeD c s l)) ∧ H c = some (.lst (cs.map V.int)) ∧ 0 ≤ s ∧ s ≤ (n : Int) ∧ 0 ≤ l ∧ cs.length ≤ 63
section
variable {K : PySem.W.Frag} {H H' : Hp} {t c : Addr} {s l v : Int} {n m : Nat}
theorem tape_cells (h : H t = some (.dK (tapeD c s l))) : DGet H t (.str "cells") (some (.ref c)) := DGet.k (k := Sum.inr "cells") h
theorem tape_spot (h : H t = some (.dK (tapeD c s l))) : DGet H t (.str "spot") (some (.int s)) := by
  have e : valV (tapeD c s l) (Sum.inr ("spot" : Str) : Key) = some (.int s) := by
    unfold tapeD
    rw [valV_neg k12, valV_pos rfl]
  have q := DGet.k (k := Sum.inr "spot") h
  rw [e] at q
  exact q
theorem tape_left (h : H t = some (.dK (tapeD c s l))) : DGet H t (.str "left") (some (.int l)) := by
  have e : valV (tapeD c s l) (Sum.inr ("left" : Str) : Key) = some (.int l) := by
    unfold tapeD
    rw [valV_neg k13, valV_neg k23, valV_pos rfl]
  have q := DGet.k (k := Sum.inr "left") h
  rw [e] at q
  exact q
theorem key_ne {a b : Str} (h : ¬ a = b) : ¬ (Sum.inr a : Key) = Sum.inr b := fun e => h (Sum.inr.inj e)
theorem tape_put_left (h : H t = some (.dK (tapeD c s l))) : DPut H t (.str "left") (.int v) (upd H t (.dK (tapeD c s v))) := by
  have e : putK (tapeD c s l) (Sum.inr ("left" : Str) : Key) (.int v) = tapeD c s v := by
    simp [putK, tapeD, n13, n23]
  have q := DPut.k (k := Sum.inr "left") (v := .int v) h len3
  rw [e] at q
  exact q
theorem tape_put_spot (h : H t = some (.dK (tapeD c s l))) : DPut H t (.str "spot") (.int v) (upd H t (.dK (tapeD c v l))) := by
  have e : putK (tapeD c s l) (Sum.inr ("spot" : Str) : Key) (.int v) = tapeD c v l := by
    simp [putK, tapeD, n12, n32]
  have q := DPut.k (k := Sum.inr "spot") (v := .int v) h len3
  rw [e] at q
  exact q
/-- a list is no dict: it stays where only a dict changes -/
theorem sq_ne {xs : List V} {kvs : List (Key × V)} (hc : SqL K H c xs) (ht : H t = some (.dK kvs)) (f : Fr [t] H H') : SqL K H' c xs := by
  rcases hc with (h | ⟨o, h⟩) | h
  · exact .inl (.inl (f _ _ h (by simp only [List.mem_singleton]; exact ne_of h ht (by intro z; cases z))))
  · exact .inl (.inr ⟨o, f _ _ h (by simp only [List.mem_singleton]; exact ne_of h ht (by intro z; cases z))⟩)
  · exact .inr h
theorem TapeAt.mono (h : TapeAt H t c n) (q : n ≤ m) : TapeAt H t c m := by
  obtain ⟨cs, s, l, h1, h2, h3, h4, h5, h6⟩ := h
  exact ⟨cs, s, l, h1, h2, h3, by omega, h5, h6⟩
theorem TapeAt.same (h : TapeAt H t c n) (q : Same H H') : TapeAt H' t c n := by
  obtain ⟨cs, s, l, h1, h2, h3, h4, h5, h6⟩ := h
  exact ⟨cs, s, l, q _ _ h1, q _ _ h2, h3, h4, h5, h6⟩
theorem TapeAt.tp (h : TapeAt H t c n) (q : Fr [t] H H') : Tp H H' := fun b xs e => by
  obtain ⟨cs, s, l, h1, h2, h3, h4, h5, h6⟩ := h
  exact q _ _ e (by simp only [List.mem_singleton]; exact ne_of e h1 (by intro z; cases z))
theorem TapeAt.is (h : TapeAt H t c n) : ∃ kvs, H t = some (.dK kvs) := by
  obtain ⟨cs, s, l, h1, _⟩ := h
  exact ⟨_, h1⟩
theorem at_of' {α : Type} {xs : List α} {z : Int} {j : Nat} {v : α} (e : z = (j : Int)) (h : xs[j]? = some v) : atI xs z = some v := by
  rw [e]
  exact atI_nat h
theorem at_in {α : Type} {xs : List α} {i : Int} (h0 : 0 ≤ i) (h1 : i < xs.length) : ∃ x, x ∈ xs ∧ atI xs i = some x := by
  have hk : i.toNat < xs.length := by omega
  refine ⟨xs[i.toNat], List.getElem_mem hk, ?_⟩
  exact at_of' (j := i.toNat) (by omega) (List.getElem?_eq_getElem hk)
theorem at_ints {cs : List Int} {i : Int} (h0 : 0 ≤ i) (h1 : i < cs.length) : ∃ z, atI (cs.map V.int) i = some (.int z) := by
  obtain ⟨x, hx, e⟩ := at_in (xs := cs.map V.int) h0 (by rw [List.length_map]; exact h1)
  obtain ⟨z, _, rfl⟩ := List.mem_map.mp hx
  exact ⟨z, e⟩
/-- cells or [0] -/
theorem or_new {σ : L2.St} {Q : VK} {cs : List Int} (hS : SqL K H c (cs.map V.int)) (hl : cs.length ≤ 63)
    (k : ∀ c' cs' H', Same H H' → 0 < cs'.length → cs'.length ≤ 63 → SqL K H' c' (List.map V.int cs') → Q (.ref c') H') :
    ∃ b, TruV K (.ref c) H b ∧ if b = true then Q (.ref c) H else tLst (tCons (tC (.int 0)) tNil) σ H Q := by
  refine ⟨_, Or.inl ⟨_, hS, rfl⟩, ?_⟩
  cases cs with
  | nil =>
    refine iteF ?_
    refine ⟨(by show 1 ≤ sizeLine; decide), fun p hp => ?_⟩
    exact k p [0] _ (same_new hp) (by decide) (by decide) (SqL.of upd_same)
  | cons z r =>
    refine iteT ?_
    exact k c (z :: r) H (Same.refl H) (by simp) hl hS
end
section
variable {K : PySem.W.Frag} {H H' H1 : Hp} {t c p : Addr} {n m : Nat}
theorem Fr.one {S : List Addr} {o : HO} (f : Fr S H H') (h : H p = some o) (hn : p ∉ S) : H' p = some o := f p o h hn
theorem TapeAt.ne_new (h : TapeAt H t c n) (hp : H p = none) : p ≠ t := by
  obtain ⟨kvs, e⟩ := h.is
  exact fun z => by rw [z, e] at hp; cases hp
theorem TapeAt.ne_lst {xs : List V} (h : TapeAt H t c n) (hp : H p = some (.lst xs)) : p ≠ t := by
  obtain ⟨kvs, e⟩ := h.is
  exact ne_of hp e (by intro z; cases z)
theorem TapeAt.ne_tup {xs : List V} (h : TapeAt H t c n) (hp : H p = some (.tup xs)) : p ≠ t := by
  obtain ⟨kvs, e⟩ := h.is
  exact ne_of hp e (by intro z; cases z)
theorem not_in_one {a b : Addr} (h : a ≠ b) : a ∉ [b] := by simpa using h
theorem sl1000 {n : Nat} (h : n ≤ 1000) : n ≤ sizeLine := Nat.le_of_lt (small1000 h)
theorem TapeAt.ne_newc (h : TapeAt H t c n) (hp : H p = none) : p ≠ c := by
  obtain ⟨cs, s, l, h1, h2, h3, h4, h5, h6⟩ := h
  exact fun z => by rw [z, h2] at hp; cases hp
theorem TapeAt.ne_tupc {xs : List V} (h : TapeAt H t c n) (hp : H p = some (.tup xs)) : p ≠ c := by
  obtain ⟨cs, s, l, h1, h2, h3, h4, h5, h6⟩ := h
  exact ne_of hp h2 (by intro z; cases z)
theorem TapeAt.ne_dctc {xs : List (Key × V)} (h : TapeAt H t c n) (hp : H p = some (.dK xs)) : p ≠ c := by
  obtain ⟨cs, s, l, h1, h2, h3, h4, h5, h6⟩ := h
  exact ne_of hp h2 (by intro z; cases z)
theorem TapeAt.put {o : HO} (h : TapeAt H t c n) (h1 : p ≠ t) (h2 : p ≠ c) : TapeAt (upd H p o) t c n := by
  obtain ⟨cs, s, l, e1, e2, r⟩ := h
  exact ⟨cs, s, l, by rw [upd_ne h1.symm]; exact e1, by rw [upd_ne h2.symm]; exact e2, r⟩
end
/-! ### a draw -/
def spDraw : Sp := fun vs H Q _ => ∃ (t c : Addr) (m : Int) (n : Nat), vs = [.ref t, .int m] ∧ TapeAt H t c n ∧ (1 ≤ m ∧ m ≤ 1000000000) ∧ n ≤ 1000000000 ∧
  ∀ (r : Int) (H' : Hp), (0 ≤ r ∧ r < m) → TapeAt H' t c (n + 1) → Fr [t] H H' → Q (.int r) H'
theorem pw18 : CPowG 10 18 := ⟨by decide, by decide +kernel⟩
theorem pw6e : (10 : Int) ^ (6 : Int).toNat = 1000000 := by decide
theorem pw6 : CPowG 10 6 := ⟨by decide, by decide +kernel⟩
theorem pw50 : CPowG 10 50 := ⟨by decide, by decide +kernel⟩
theorem pw60 : CPowG (10 ^ (50 : Int).toNat) 60 := ⟨by decide, by decide +kernel⟩
theorem pw10 : CPowG ((10 ^ (50 : Int).toNat) ^ (60 : Int).toNat) 10 := ⟨by decide, by decide +kernel⟩
theorem big_pos : (0 : Int) < ((10 ^ (50 : Int).toNat) ^ (60 : Int).toNat) ^ (10 : Int).toNat := Int.pow_pos (Int.pow_pos (Int.pow_pos (by decide)))
section
variable {P : Program} {w : World} {K : PySem.W.Frag} {mg : Str → Option Value} {base : Heap}
theorem ok_draw (D : Df K mg "_law_draw" s_law_draw ["_law_tape_here", "_law_many"]) (T : Txt K mg) : Cl P w K mg base 1 "_law_draw" spDraw := by
  refine D.ok sc_law_draw (fun vs H Q E h => ?_) (fun f cdv A outer s H vs Q E hr h => ?_)
  · obtain ⟨t, c, m, n, rfl, _⟩ := h
    rfl
  obtain ⟨t, c, m, n, rfl, ⟨cs, s, l, ht, hcl, s0, sn, l0, h63⟩, ⟨m1, m6⟩, hn, k⟩ := h
  have hu := hu_of hr
  have hc : SqL K H c (cs.map V.int) := SqL.of hcl
  have ctn : c ∉ [t] := by simp only [List.mem_singleton]; exact ne_of hcl ht (by intro z; cases z)
  refine ⟨_, -- if _law_tape_here['left'] == 0:
    (C8.pss_cut (ps_if (pt_cmpR op_eq (pe_dget hu (pv 0) pe_str (fun _ _ => rfl)) pe_int (nomark _))
      (pss_cons (ps_par (i := 2) (j := 3) rfl sc_law_draw.nd rfl rfl (by decide) rfl rfl (pa_cons (pe_dget hu (pv 0) pe_str (fun _ _ => rfl)) (pa_cons (pe_orT (pe_dget hu (pv 0) pe_str (fun _ _ => rfl)) (pe_one (pe_lst (pa_cons pe_int pa_nil)))) pa_nil)) rfl)
      (pss_cons (ps_asg (pe_tupF (pa_cons (pe_ix ix_list (pv 3) (pe_op op_mod (pv 2) (pe_callB call_len_seq (by rfl) T.m_len PySem.boot_len (pa_cons (pv 3) pa_nil))) (fun _ _ => rfl)) (pa_cons (pe_op op_add (pv 2) pe_int) pa_nil))) (pg_tup rfl (pgs_cons (pg_name (i := 4) sc_law_draw.nd rfl (Or.inl rfl)) (pgs_cons (pg_sub (pv 0) pe_str (set_dict hu)) pgs_nil))))
      (C8.pss_cut (ps_if (PW.pt (pw_and (pt_cmpR op_gt (pv 4) (pe_op op_powG pe_int pe_int) (nomark _)) (pw_and1 (pt_cmpR op_lt (pv 2) (pe_callB call_len_seq (by rfl) T.m_len PySem.boot_len (pa_cons (pv 3) pa_nil)) (nomark _)))))
        (pss_one (ps_dput hu (pv 0) pe_str (pe_op op_mod (pe_op op_sub (pv 4) (pe_op op_powG pe_int pe_int)) (pe_op op_powG (pe_op op_powG (pe_op op_powG pe_int pe_int) pe_int) pe_int)) rfl))
        pss_nil)
      (pss_one (ps_if (pt_cmpR op_eq (pe_dget hu (pv 0) pe_str (fun _ _ => rfl)) pe_int (nomark _))
        (pss_cons (ps_set (i := 5) sc_law_draw.nd rfl (Or.inl rfl) (pe_op op_add (pe_op op_mul (pe_op op_mod (pv 4) pe_int) pe_int) (pe_op op_mul (pe_op op_mul pe_int (pv 2)) (pv 2))))
        (pss_cons (ps_set (i := 5) sc_law_draw.nd rfl (Or.inl rfl) (pe_op op_mod (pe_op op_add (pe_op op_add (pv 5) (pe_op op_mul pe_int (pv 2))) pe_int) pe_int))
        (pss_cons (ps_set (i := 5) sc_law_draw.nd rfl (Or.inl rfl) (pe_op op_mod (pe_op op_mul (pv 5) (pe_op op_add (pv 5) pe_int)) pe_int))
        (pss_one (ps_ret (pe_op op_mod (pe_op op_fdiv (pe_op op_mod (pe_op op_mul (pv 5) (pv 5)) pe_int) pe_int) (pv 1)))))))
        pss_nil)))))
      pss_nil)
    (pss_cons (ps_asg (pe_tupF (pa_cons (pe_op op_mod (pe_dget hu (pv 0) pe_str (fun _ _ => rfl)) (pv 1)) (pa_cons (pe_op op_fdiv (pe_dget hu (pv 0) pe_str (fun _ _ => rfl)) (pv 1)) pa_nil))) (pg_tup rfl (pgs_cons (pg_name (i := 6) sc_law_draw.nd rfl (Or.inl rfl)) (pgs_cons (pg_sub (pv 0) pe_str (set_dict hu)) pgs_nil))))
    (pss_one (ps_ret (pv 6))))), ?_⟩
  refine ⟨fun σ Hx => ∃ (k2 k3 k4 k5 : Option V) (s' l' : Int), σ = [some (.ref t), some (.int m), k2, k3, k4, k5, none] ∧ Hx t = some (.dK (tapeD c s' l')) ∧ 0 ≤ s' ∧ s' ≤ n + 1 ∧ 0 ≤ l' ∧ Fr [t] H Hx, ?_, ?_⟩
  · refine ⟨_, rfl, t, _, rfl, tape_left ht, rfl, _, rfl, ite2 (fun p => ?_) (fun p => ⟨none, none, none, none, s, l, rfl, ht, s0, by omega, l0, Fr.refl _ _⟩)⟩
    refine ⟨_, rfl, t, _, rfl, tape_spot ht, _, rfl, t, _, rfl, tape_cells ht, or_new hc h63 fun c2 cs2 H2 sm2 p2 l2 hc2 => ?_⟩
    have ht2 := sm2 _ _ ht
    refine ⟨_, _, rfl, ?_⟩
    have hl2 : (cs2.map V.int).length = cs2.length := List.length_map _
    have i0 : 0 ≤ s % (((cs2.map V.int).length : Nat) : Int) := Int.emod_nonneg _ (by omega)
    have i1 : s % (((cs2.map V.int).length : Nat) : Int) < (cs2.length : Int) := by
      rw [hl2]
      exact Int.emod_lt_of_pos _ (by omega)
    obtain ⟨cell, hcell⟩ := at_ints i0 i1
    refine ⟨_, rfl, _, rfl, _, rfl, c2, _, rfl, .inl hc2, _, _, rfl, rfl, (by rw [hl2]; omega), c2, _, _, _, rfl, rfl, hc2, hcell, _, rfl, _, _, rfl, rfl, (by show 2 ≤ sizeLine; decide), fun q o q0 _ => ?_⟩
    generalize hH : upd H2 q (.frz o (.tup [.int cell, .int (s + 1)])) = H3
    have s3 : Same H2 H3 := by rw [← hH]; exact same_new q0
    have at3 : SqT K H3 q [.int cell, .int (s + 1)] := .inl (.inr ⟨o, by rw [← hH]; exact upd_same⟩)
    have ht3 := s3 _ _ ht2
    refine ⟨q, _, rfl, at3, rfl, _, _, rfl, _, _, rfl, _, rfl, t, _, rfl, tape_put_spot ht3, rfl, ?_⟩
    have f4 : Fr [t] H3 (upd H3 t (.dK (tapeD c (s + 1) l))) := Fr.put (by simp)
    have ht4 : (upd H3 t (.dK (tapeD c (s + 1) l))) t = some (.dK (tapeD c (s + 1) l)) := upd_same
    have hc4 := sq_ne (s3.seq hc2) ht3 f4
    have f04 : Fr [t] H (upd H3 t (.dK (tapeD c (s + 1) l))) := (Fr.same (sm2.trans s3) _).trans f4
    generalize (upd H3 t (.dK (tapeD c (s + 1) l))) = H4 at *
    refine ⟨fun σ Hx => σ = [some (.ref t), some (.int m), some (.int s), some (.ref c2), some (.int cell), none, none] ∧ ∃ l' : Int, Hx t = some (.dK (tapeD c (s + 1) l')) ∧ 0 ≤ l' ∧ Fr [t] H Hx, ?_, ?_⟩
    · refine ⟨_, rfl, _, _, rfl, rfl, pw18, _, _, rfl, rfl, _, rfl, ?_⟩
      have skip : [some (V.ref t), some (V.int m), some (V.int s), some (V.ref c2), some (V.int cell), none, none] = [some (V.ref t), some (V.int m), some (V.int s), some (V.ref c2), some (V.int cell), none, none] ∧ ∃ l' : Int, H4 t = some (.dK (tapeD c (s + 1) l')) ∧ 0 ≤ l' ∧ Fr [t] H H4 := ⟨rfl, l, ht4, l0, f04⟩
      refine ite2 (fun p3 => ?_) (fun p3 => ite2 (fun z => by cases z) fun _ => skip)
      refine ⟨_, rfl, _, rfl, c2, _, rfl, .inl hc4, _, _, rfl, rfl, _, rfl, ?_⟩
      refine ite2 (fun p4 => ?_) (fun p4 => skip)
      refine ⟨_, rfl, _, _, rfl, rfl, pw18, _, _, rfl, rfl, _, _, rfl, rfl, pw50, _, _, rfl, rfl, pw60, _, _, rfl, rfl, pw10, _, _, rfl, rfl, big_pos, ?_⟩
      have g0 : 0 ≤ (cell - 10 ^ (18 : Int).toNat) % ((10 ^ (50 : Int).toNat) ^ (60 : Int).toNat) ^ (10 : Int).toNat := Int.emod_nonneg _ (Int.ne_of_gt big_pos)
      dsimp only
      generalize (cell - 10 ^ (18 : Int).toNat) % ((10 ^ (50 : Int).toNat) ^ (60 : Int).toNat) ^ (10 : Int).toNat = gr at *
      refine ⟨_, rfl, t, _, rfl, tape_put_left ht4, ?_⟩
      exact ⟨rfl, gr, upd_same, g0, f04.trans (Fr.put (by simp))⟩
    · rintro σ' H5 ⟨rfl, l', ht5, l0', f05⟩
      refine ⟨_, rfl, t, _, rfl, tape_left ht5, rfl, _, rfl, ite2 (fun p3 => ?_) fun p3 => ⟨_, _, _, _, s + 1, l', rfl, ht5, by omega, by omega, l0', f05⟩⟩
      have e0 : 0 ≤ cell % 2147483647 := Int.emod_nonneg _ (by decide)
      have e1 : cell % 2147483647 < 2147483647 := Int.emod_lt_of_pos _ (by decide)
      refine ⟨_, rfl, _, _, rfl, rfl, (by show (0 : Int) < 2147483647; decide), _, _, rfl, rfl, .inr ⟨by decide, by decide⟩, ?_⟩
      refine ⟨_, rfl, _, _, rfl, rfl, .inl ⟨by decide, by decide⟩, _, rfl, _, _, rfl, rfl, .inr ⟨by omega, by omega⟩, _, _, rfl, rfl, ?_⟩
      dsimp only
      generalize cell % 2147483647 * 48271 + 7919 * s * s = sd
      refine ⟨_, rfl, _, rfl, _, _, rfl, rfl, .inl ⟨by decide, by decide⟩, _, _, rfl, rfl, _, _, rfl, rfl, _, _, rfl, rfl, (by show (0 : Int) < 2147483629; decide), ?_⟩
      dsimp only
      generalize hse : (sd + 69621 * s + 1) % 2147483629 = se
      have d0 : 0 ≤ se := by rw [← hse]; exact Int.emod_nonneg _ (by decide)
      have d1 : se < 2147483629 := by rw [← hse]; exact Int.emod_lt_of_pos _ (by decide)
      refine ⟨_, rfl, _, rfl, _, _, rfl, rfl, _, _, rfl, rfl, .inl ⟨by omega, by omega⟩, _, _, rfl, rfl, (by show (0 : Int) < 2147483587; decide), ?_⟩
      dsimp only
      generalize hsf : se * (se + 16807) % 2147483587 = sf
      have g0 : 0 ≤ sf := by rw [← hsf]; exact Int.emod_nonneg _ (by decide)
      have g1 : sf < 2147483587 := by rw [← hsf]; exact Int.emod_lt_of_pos _ (by decide)
      refine ⟨_, rfl, _, rfl, _, _, rfl, rfl, .inl ⟨by omega, by omega⟩, _, _, rfl, rfl, (by show (0 : Int) < 2147483563; decide), _, _, rfl, rfl, ⟨by decide, by decide⟩, _, rfl, _, _, rfl, rfl, (by omega), ?_⟩
      exact k _ _ ⟨Int.emod_nonneg _ (by omega), Int.emod_lt_of_pos _ (by omega)⟩ ⟨cs, s + 1, l', ht5, f05 _ _ hcl ctn, by omega, by omega, l0', h63⟩ f05
  rintro σ H1 ⟨k2, k3, k4, k5, s', l', rfl, ht1, s0', sn', l0', f01⟩
  refine ⟨_, rfl, t, _, rfl, tape_left ht1, _, rfl, _, _, rfl, rfl, (by omega), _, rfl, t, _, rfl, tape_left ht1, _, rfl, _, _, rfl, rfl, ⟨by omega, by omega⟩, (by show 2 ≤ sizeLine; decide), fun q o q0 _ => ?_⟩
  dsimp only
  generalize hH : upd H1 q (.frz o (.tup [.int (l' % m), .int (l' / m)])) = H2
  have s2 : Same H1 H2 := by rw [← hH]; exact same_new q0
  have at2 : SqT K H2 q [.int (l' % m), .int (l' / m)] := .inl (.inr ⟨o, by rw [← hH]; exact upd_same⟩)
  have ht2 := s2 _ _ ht1
  refine ⟨q, _, rfl, at2, rfl, _, _, rfl, _, _, rfl, _, rfl, t, _, rfl, tape_put_left ht2, rfl, ?_⟩
  have f02 : Fr [t] H (upd H2 t (.dK (tapeD c s' (l' / m)))) := (f01.trans (Fr.same s2 _)).trans (Fr.put (by simp))
  exact ⟨_, rfl, k _ _ ⟨Int.emod_nonneg _ (by omega), Int.emod_lt_of_pos _ (by omega)⟩ ⟨cs, s', l' / m, upd_same, f02 _ _ hcl ctn, s0', by omega, Int.ediv_nonneg l0' (by omega), h63⟩ f02⟩
end
end SG
namespace SG
open PySem PySem.Spec PyProof.Rows L2
theorem tape_is (c : Addr) (s l : Int) : mergeK [] [((Sum.inr ("cells" : Str) : Key), V.ref c), (Sum.inr ("spot" : Str), .int s), (Sum.inr ("left" : Str), .int l)] = tapeD c s l := by
  simp [mergeK, putK, tapeD, n12, n13, n23]
def spTape (K : PySem.W.Frag) : Sp := fun vs H Q _ => ∃ (a : Addr) (ns : List Int), vs = [.ref a] ∧ SqL K H a (ns.map V.int) ∧ ns.length ≤ 63 ∧ ∀ (t c : Addr) (H' : Hp), TapeAt H' t c 0 → Same H H' → Q (.ref t) H'
def spPick (K : PySem.W.Frag) : Sp := fun vs H Q _ => ∃ (t c l : Addr) (xs : List V) (n : Nat), vs = [.ref t, .ref l] ∧ TapeAt H t c n ∧ n ≤ 1000000000 ∧ H l = some (.lst xs) ∧ (1 ≤ xs.length ∧ xs.length ≤ 1000) ∧
  ∀ v H', v ∈ xs → TapeAt H' t c (n + 1) → Fr [t] H H' → Q v H'
theorem TapeAt.ne_tz {H : Hp} {t c a : Addr} {n : Nat} {xs : List V} (h : TapeAt H t c n) (z : Tz H a xs) : a ≠ t := by
  obtain ⟨kvs, e⟩ := h.is
  obtain ⟨o, z, _⟩ := z
  exact ne_of z e (by intro z; cases z)
theorem Tz.fr {H H' : Hp} {t c a : Addr} {n : Nat} {xs : List V} (h : TapeAt H t c n) (f : Fr [t] H H') (z : Tz H a xs) : Tz H' a xs := by
  have ne := h.ne_tz z
  obtain ⟨o, z, d⟩ := z
  exact ⟨o, f _ _ z (not_in_one ne), d⟩
theorem Fz.fr {K : PySem.W.Frag} {H H' : Hp} {t c : Addr} {n : Nat} {v : V} {d : PyData} (h : TapeAt H t c n) (f : Fr [t] H H') (z : Fz K H v d) : Fz K H' v d :=
  z.keep (fun a xs e => f _ _ e (not_in_one (h.ne_lst e))) fun a xs e => e.fr h f
theorem FzAll.fr {K : PySem.W.Frag} {H H' : Hp} {t c : Addr} {n : Nat} {vs : List V} {ds : List PyData} (h : TapeAt H t c n) (f : Fr [t] H H') (z : FzAll K H vs ds) : FzAll K H' vs ds :=
  z.keep (fun a xs e => f _ _ e (not_in_one (h.ne_lst e))) fun a xs e => e.fr h f
section
variable {P : Program} {w : World} {K : PySem.W.Frag} {mg : Str → Option Value} {base : Heap}
theorem ok_tape (D : Df K mg "_law_tape" s_law_tape ["_law_script"]) (T : Txt K mg) : Cl P w K mg base 1 "_law_tape" (spTape K) := by
  refine D.ok sc_law_tape (fun vs H Q E h => ?_) (fun f cdv A outer s H vs Q E hr h => ?_)
  · obtain ⟨a, ns, rfl, _⟩ := h
    rfl
  obtain ⟨a, ns, rfl, hS, h63, k⟩ := h
  refine ⟨_, -- return {'cells': _law_script[:63], 'spot': 0, 'left': 0}
    (pss_one (ps_ret (pe_disp (pps_cons pe_str (pe_slice sl_list (pv 0) po_none (po_some pe_int)) (pps_cons pe_str pe_int (pps_cons pe_str pe_int pps_nil))) rfl rfl (by decide) (by decide)))), ?_⟩
  (intro t t0; generalize hh_ : upd _ t _ = H1; have ht := upd_is hh_; have s1 := same_is hh_ t0; clear hh_)
  refine ⟨_, rfl, _, rfl, a, _, rfl, s1.seq hS, ?_⟩
  (intro c c0; generalize hh_ : upd _ c _ = H2; have hc := upd_is hh_; have s2 := same_is hh_ c0; clear hh_)
  have ec : ∃ cs : List Int, cutV (ns.map V.int) none (some 63) = cs.map V.int ∧ cs.length ≤ 63 := by
    refine ⟨(ns.drop (HT.sIx ns.length 0 none)).take (HT.sIx ns.length ns.length (some 63) - HT.sIx ns.length 0 none), ?_, ?_⟩
    · unfold cutV
      rw [List.map_take, List.map_drop, List.length_map]
    · rw [List.length_take, List.length_drop]
      omega
  obtain ⟨cs, ec, lc⟩ := ec
  rw [ec] at hc
  refine ⟨s2 _ _ ht, [((Sum.inr ("cells" : Str) : Key), V.ref c), (Sum.inr ("spot" : Str), .int 0), (Sum.inr ("left" : Str), .int 0)], rfl, (by show 3 ≤ 15; decide), ?_⟩
  rw [tape_is]
  have tc : t ≠ c := ne_of (s2 _ _ ht) hc (by intro z; cases z)
  have tH := t0
  exact k t c _ ⟨cs, 0, 0, upd_same, by rw [upd_ne tc.symm]; exact hc, by decide, by decide, by decide, lc⟩ fun p o e => by
    rw [upd_ne (ne_of_none e tH)]
    exact s2 _ _ (s1 _ _ e)
/-- a list, or a text, that is picked from: its items -/
def PkAt (K : PySem.W.Frag) (H : Hp) (t : Addr) (a : V) (xs : List V) : Prop := (∃ p, a = .ref p ∧ p ≠ t ∧ SqL K H p xs) ∨ (∃ z : Str, a = .str z ∧ xs = z.cps.toList.map fun c => V.str ⟨#[c]⟩)
def spPickA (K : PySem.W.Frag) : Sp := fun vs H Q _ => ∃ (t c : Addr) (a : V) (n : Nat) (xs : List V), vs = [.ref t, a] ∧ TapeAt H t c n ∧ PkAt K H t a xs ∧ 1 ≤ xs.length ∧ xs.length ≤ 1000 ∧ n ≤ 1000000000 ∧
  ∀ (v : V) (H' : Hp), v ∈ xs → TapeAt H' t c (n + 1) → Fr [t] H H' → Q v H'
theorem sq_fr {K : PySem.W.Frag} {H H' : Hp} {S : List Addr} {p : Addr} {xs : List V} (h : SqL K H p xs) (f : Fr S H H') (n : p ∉ S) : SqL K H' p xs := by
  rcases h with (h | ⟨o, h⟩) | h
  · exact .inl (.inl (f _ _ h n))
  · exact .inl (.inr ⟨o, f _ _ h n⟩)
  · exact .inr h
theorem ok_pickA (D : Df K mg "_law_pick" s_law_pick ["_law_tape_here", "_law_some"]) (T : Txt K mg) (c_law_draw : Cl P w K mg base 1 "_law_draw" spDraw) : Cl P w K mg base 2 "_law_pick" (spPickA K) := by
  refine D.ok sc_law_pick (fun vs H Q E h => ?_) (fun f cdv A outer s H vs Q E hr h => ?_)
  · obtain ⟨_, _, _, _, _, rfl, _⟩ := h
    rfl
  obtain ⟨t, c, a, n, xs, rfl, hT, ha, x1, x2, hn, k⟩ := h
  refine ⟨_, -- return _law_some[_law_draw(_law_tape_here, len(_law_some))]
    (pss_one (ps_ret (pe_ix (IxR.or ix_list ix_str) (pv 1) (pe_cl c_law_draw (hr.mono (by first | decide | omega)) rfl (pa_cons (pv 0) (pa_cons (pe_callB (CallR.or call_len_seq call_len_str) (by rfl) T.m_len PySem.boot_len (pa_cons (pv 1) pa_nil)) pa_nil))) (fun _ _ => rfl)))), ?_⟩
  rcases ha with ⟨p, rfl, pt, hx⟩ | ⟨z, rfl, rfl⟩
  · refine ⟨_, rfl, _, rfl, _, rfl, .inl ⟨p, xs, rfl, .inl hx, ?_⟩⟩
    refine ⟨t, c, _, n, rfl, hT, ⟨by omega, by omega⟩, hn, fun r H' hr' T' f' => ?_⟩
    obtain ⟨v, hv, e⟩ := at_in (xs := xs) hr'.1 hr'.2
    exact .inl ⟨p, _, _, v, rfl, rfl, sq_fr hx f' (not_in_one pt), e, k v H' hv T' f'⟩
  · rw [List.length_map] at x1 x2
    have lz : z.length = z.cps.toList.length := by show z.cps.size = _; rw [Array.length_toList]
    refine ⟨_, rfl, _, rfl, _, rfl, .inr ⟨z, rfl, (by rw [lz]; exact Nat.le_trans x2 (by decide)), ?_⟩⟩
    refine ⟨t, c, _, n, rfl, hT, ⟨by omega, by omega⟩, hn, fun r H' hr' T' f' => ?_⟩
    obtain ⟨cc, hcc, e⟩ := at_in (xs := z.cps.toList) hr'.1 (by rw [← lz]; exact hr'.2)
    exact .inr ⟨z, r, cc, rfl, rfl, (by rw [lz]; exact Nat.le_trans x2 (by decide)), e, k _ H' (List.mem_map.mpr ⟨cc, hcc, rfl⟩) T' f'⟩
theorem pick_list {k : Nat} (c : Cl P w K mg base k "_law_pick" (spPickA K)) : Cl P w K mg base k "_law_pick" (spPick K) :=
  c.imp fun vs H Q E ⟨t, c, l, xs, n, e, hT, hn, hl, hx, k⟩ => ⟨t, c, .ref l, n, xs, e, hT, .inl ⟨l, rfl, hT.ne_lst hl, SqL.of hl⟩, hx.1, hx.2, hn, k⟩
end
end SG
/-! how long data is when shown -/
namespace SG
open PySem PySem.Spec PyProof.Rows L2
mutual
def gd : PyData → Bool
  | .none | .bool _ => true
  | .int i => decide (i.natAbs < 10 ^ 61)
  | .str x => x.cps.toList.all fun c => decide (c < 1000)
  | .list xs | .tuple xs => gdAll xs
  | .dict _ => false
def gdAll : List PyData → Bool
  | [] => true
  | x :: xs => gd x && gdAll xs
end
theorem log_small {m : Nat} (h : m < 10 ^ 61) : m.log2 < 1920 := by
  by_cases e : m = 0
  · subst e; decide
  · rw [Nat.log2_lt e]
    exact Nat.lt_of_lt_of_le h (by decide)
mutual
theorem gd_show : ∀ {d : PyData}, gd d = true → d.showable = true
  | .none, _ => rfl
  | .bool _, _ => rfl
  | .str _, _ => rfl
  | .int i, h => by
    have h' : decide (i.natAbs < 10 ^ 61) = true := h
    exact decide_eq_true (log_small (of_decide_eq_true h'))
  | .list xs, h => gdAll_show (ds := xs) h
  | .tuple xs, h => gdAll_show (ds := xs) h
  | .dict _, h => by cases h
theorem gdAll_show : ∀ {ds : List PyData}, gdAll ds = true → PyData.showableAll ds = true
  | [], _ => rfl
  | d :: ds, h => by
    have h' : (gd d && gdAll ds) = true := h
    rw [Bool.and_eq_true] at h'
    show (PyData.showable d && PyData.showableAll ds) = true
    rw [gd_show h'.1, gdAll_show h'.2]; rfl
end
theorem textFrom_up : ∀ (ts : List Str) (k : Nat) (acc : Str), (textFrom k acc ts).length ≤ acc.length + (ts.map fun t => t.length + 2).sum
  | [], k, acc => by simp [textFrom]
  | t :: r, k, acc => by
    have ih := textFrom_up r (k + 1) (acc ++ (if k > 0 then ", " else "" : String) ++ t)
    have e : (acc ++ ((if k > 0 then ", " else "" : String) : Str) ++ t).length ≤ acc.length + 2 + t.length := by
      rw [Str.length_append, Str.length_append]
      by_cases h : k > 0
      · rw [if_pos h]; show _ + 2 + _ ≤ _; omega
      · rw [if_neg h]; show _ + 0 + _ ≤ _; omega
    show (textFrom (k + 1) _ r).length ≤ _
    rw [List.map_cons, List.sum_cons]
    omega
theorem join_up : ∀ ts : List Str, (Str.join ", " ts).length ≤ (ts.map fun t => t.length + 2).sum
  | [] => by decide
  | t :: r => by
    have h := join_length_add (t :: r) (by simp)
    have p : ∀ l : List Str, piled l = (l.map fun t => t.length + 2).sum := by
      intro l
      induction l with
      | nil => rfl
      | cons a l ih => simp [piled, ih]
    rw [p] at h
    omega
theorem int_text {i : Int} (h : i.natAbs < 10 ^ 61) : (Str.ofString (toString i)).length ≤ 62 := by
  by_cases h0 : 0 ≤ i
  · have := toString_length_le h0 (k := 61) (by decide) (by omega)
    omega
  · have hp : 0 ≤ -i := by omega
    have h1 := toString_length_le hp (k := 61) (by decide) (by omega)
    cases i with
    | ofNat n => exact absurd (Int.natCast_nonneg n) h0
    | negSucc n =>
      have e1 : toString (Int.negSucc n) = "-" ++ toString (n + 1) := rfl
      have e2 : toString (-(Int.negSucc n)) = toString (n + 1) := rfl
      rw [e2, PyProof.Rows.ofString_length] at h1
      rw [e1, PyProof.Rows.ofString_length, String.toList_append, List.length_append]
      have : ("-" : String).toList.length = 1 := rfl
      omega
mutual
theorem shown_le : ∀ {d : PyData}, gd d = true → d.shown.length ≤ wt d
  | .none, _ => by show (4 : Nat) ≤ 70; omega
  | .bool b, _ => by cases b <;> decide
  | .int i, h => by
    have h' : decide (i.natAbs < 10 ^ 61) = true := h
    have := int_text (of_decide_eq_true h')
    show (Str.ofString (toString i)).length ≤ 70
    omega
  | .str x, h => by
    have h' : (x.cps.toList.all fun c => decide (c < 1000)) = true := h
    have := StrLaws.reprText_len x fun c hc => Nat.lt_trans (of_decide_eq_true (List.all_eq_true.mp h' c hc)) (by decide)
    show (reprText x).length ≤ 70 + 10 * x.length
    omega
  | .list xs, h => by
    have := shownAll_le (ds := xs) h
    have q := textFrom_up (PyData.shownAll xs) 0 "["
    show (listText (PyData.shownAll xs)).length ≤ 10 + wtAll xs
    unfold listText
    rw [Str.length_append]
    have e1 : ("[" : Str).length = 1 := rfl
    have e2 : ("]" : Str).length = 1 := rfl
    omega
  | .tuple xs, h => by
    have := shownAll_le (ds := xs) h
    have q := join_up (PyData.shownAll xs)
    show (tupleText (PyData.shownAll xs)).length ≤ 10 + wtAll xs
    unfold tupleText
    rw [Str.length_append, Str.length_append]
    have e1 : ("(" : Str).length = 1 := rfl
    have e2 : (((if (PyData.shownAll xs).length == 1 then ",)" else ")" : String) : Str)).length ≤ 2 := by
      split
      · show 2 ≤ 2; omega
      · show 1 ≤ 2; omega
    omega
  | .dict _, h => by cases h
theorem shownAll_le : ∀ {ds : List PyData}, gdAll ds = true → ((PyData.shownAll ds).map fun t => t.length + 2).sum ≤ wtAll ds
  | [], _ => Nat.le_refl _
  | d :: ds, h => by
    have h' : (gd d && gdAll ds) = true := h
    rw [Bool.and_eq_true] at h'
    have a := shown_le h'.1
    have b := shownAll_le h'.2
    show ((PyData.shown d :: PyData.shownAll ds).map fun t => t.length + 2).sum ≤ wt d + 2 + wtAll ds
    rw [List.map_cons, List.sum_cons]
    omega
end
end SG
/-! tuples and numbers of data, bent -/
namespace SG
open PySem PySem.Spec PyProof.Rows L2
def asI : PyData → Int
  | .int i => i
  | .bool b => if b = true then 1 else 0
  | _ => 0
section
variable {X : Cx}
def rIB (K : PySem.W.Frag) (g : Int → Int → Int) : R2 := fun x y H Q => ∃ d j, Dp K H x d ∧ d.isInt = true ∧ y = .int j ∧ Q (.int (g (asI d) j)) H
theorem op_addIB : OpR X (binaryOp .Add) (rIB X.K (· + ·)) := by
  intro pins s σ H x y v u Q I rx ry h
  obtain ⟨d, j, hd, p, rfl, q⟩ := h
  obtain ⟨t, rfl⟩ := ry
  cases hd with
  | int i =>
    exact op_add pins s σ H (.int i) (.int j) v _ Q I rx ⟨t, rfl⟩ ⟨i, j, rfl, rfl, q⟩
  | bl b =>
    obtain rfl : v = Value.bool b := rx
    exact IntBool.add_bool_int ⟨.int _, H, I.tok _, ⟨_, rfl⟩, q⟩
  | non => cases p
  | str s => cases p
  | lst a b => cases p
  | tup a b => cases p
theorem op_subIB : OpR X (binaryOp .Sub) (rIB X.K (· - ·)) := by
  intro pins s σ H x y v u Q I rx ry h
  obtain ⟨d, j, hd, p, rfl, q⟩ := h
  obtain ⟨t, rfl⟩ := ry
  cases hd with
  | int i =>
    exact op_sub pins s σ H (.int i) (.int j) v _ Q I rx ⟨t, rfl⟩ ⟨i, j, rfl, rfl, q⟩
  | bl b =>
    obtain rfl : v = Value.bool b := rx
    exact IntBool.sub_bool_int ⟨.int _, H, I.tok _, ⟨_, rfl⟩, q⟩
  | non => cases p
  | str s => cases p
  | lst a b => cases p
  | tup a b => cases p
def textOf : PyData → Str
  | .int i => toString i
  | .bool b => if b = true then "True" else "False"
  | _ => ""
theorem call_strIB : CallR X (.type "str") (fun xs H Q => ∃ x d, xs = [x] ∧ Dp X.K H x d ∧ d.isInt = true ∧ (asI d).natAbs.log2 < 1920 ∧ Q (.str (textOf d)) H) := by
  intro pins s σ H xs us Q I r h
  obtain ⟨x, d, rfl, hd, p, lg, q⟩ := h
  cases hd with
  | int i => exact call_str_int pins s σ H _ us Q I r ⟨i, rfl, lg, q⟩
  | bl b =>
    obtain ⟨u, rfl, rv⟩ := vals1 r
    obtain rfl : u = Value.bool b := rv
    exact P.str_of_bool ⟨.str _, H, I.tok _, ⟨_, by cases b <;> rfl⟩, q⟩
  | non => cases p
  | str s => cases p
  | lst a b => cases p
  | tup a b => cases p
end
/-! ### small numbers in data -/
mutual
def gdB (B : Nat) : PyData → Bool
  | .none | .bool _ => true
  | .int i => decide (i.natAbs ≤ B)
  | .str x => x.cps.toList.all fun c => decide (c < 1000)
  | .list xs | .tuple xs => gdBAll B xs
  | .dict _ => false
def gdBAll (B : Nat) : List PyData → Bool
  | [] => true
  | x :: xs => gdB B x && gdBAll B xs
end
mutual
theorem gdB_mono {B C : Nat} (h : B ≤ C) : ∀ {d : PyData}, gdB B d = true → gdB C d = true
  | .none, _ => rfl
  | .bool _, _ => rfl
  | .int i, q => decide_eq_true (Nat.le_trans (of_decide_eq_true (show decide (i.natAbs ≤ B) = true from q)) h)
  | .str _, q => q
  | .list xs, q => gdBAll_mono (ds := xs) h q
  | .tuple xs, q => gdBAll_mono (ds := xs) h q
  | .dict _, q => by cases q
theorem gdBAll_mono {B C : Nat} (h : B ≤ C) : ∀ {ds : List PyData}, gdBAll B ds = true → gdBAll C ds = true
  | [], _ => rfl
  | d :: ds, q => by
    have q' : (gdB B d && gdBAll B ds) = true := q
    rw [Bool.and_eq_true] at q'
    show (gdB C d && gdBAll C ds) = true
    rw [gdB_mono h q'.1, gdBAll_mono h q'.2]; rfl
end
mutual
theorem gdB_gd {B : Nat} (h : B < 10 ^ 61) : ∀ {d : PyData}, gdB B d = true → gd d = true
  | .none, _ => rfl
  | .bool _, _ => rfl
  | .int i, q => decide_eq_true (Nat.lt_of_le_of_lt (of_decide_eq_true (show decide (i.natAbs ≤ B) = true from q)) h)
  | .str _, q => q
  | .list xs, q => gdBAll_gd (ds := xs) h q
  | .tuple xs, q => gdBAll_gd (ds := xs) h q
  | .dict _, q => by cases q
theorem gdBAll_gd {B : Nat} (h : B < 10 ^ 61) : ∀ {ds : List PyData}, gdBAll B ds = true → gdAll ds = true
  | [], _ => rfl
  | d :: ds, q => by
    have q' : (gdB B d && gdBAll B ds) = true := q
    rw [Bool.and_eq_true] at q'
    show (gd d && gdAll ds) = true
    rw [gdB_gd h q'.1, gdBAll_gd h q'.2]; rfl
end
theorem gdBAll_mem {B : Nat} : ∀ {ds : List PyData}, gdBAll B ds = true ↔ ∀ d ∈ ds, gdB B d = true
  | [] => by simp [gdBAll]
  | d :: ds => by
    show (gdB B d && gdBAll B ds) = true ↔ _
    rw [Bool.and_eq_true, gdBAll_mem]
    simp
theorem wtAll_append : ∀ (a b : List PyData), wtAll (a ++ b) = wtAll a + wtAll b
  | [], b => by simp [wtAll]
  | x :: a, b => by
    show wt x + 2 + wtAll (a ++ b) = wt x + 2 + wtAll a + wtAll b
    rw [wtAll_append a b]; omega
theorem wtAll_reverse : ∀ a : List PyData, wtAll a.reverse = wtAll a
  | [] => rfl
  | x :: a => by
    rw [List.reverse_cons, wtAll_append, wtAll_reverse a]
    show wtAll a + (wt x + 2 + 0) = wt x + 2 + wtAll a
    omega
theorem wtAll_drop (a : List PyData) (k : Nat) : wtAll (a.drop k) ≤ wtAll a := by
  have := wtAll_append (a.take k) (a.drop k)
  rw [List.take_append_drop] at this
  omega
theorem wtAll_take (a : List PyData) (k : Nat) : wtAll (a.take k) ≤ wtAll a := by
  have := wtAll_append (a.take k) (a.drop k)
  rw [List.take_append_drop] at this
  omega
theorem depthAll_le {m : Nat} : ∀ {ds : List PyData}, (∀ d ∈ ds, d.depth ≤ m) → PyData.depthAll ds ≤ m
  | [], _ => Nat.zero_le _
  | d :: ds, h => Nat.max_le.mpr ⟨h d (by simp), depthAll_le fun e he => h e (by simp [he])⟩
theorem depth_mem : ∀ {ds : List PyData} {d : PyData}, d ∈ ds → d.depth ≤ PyData.depthAll ds
  | e :: ds, d, h => by
    cases h with
    | head => exact Nat.le_max_left _ _
    | tail _ h => exact Nat.le_trans (depth_mem h) (Nat.le_max_right _ _)
theorem depth_tup (ds : List PyData) : (PyData.tuple ds).depth = PyData.depthAll ds + 1 := rfl
theorem depth_list (ds : List PyData) : (PyData.list ds).depth = PyData.depthAll ds + 1 := rfl
/-- e is d bent: its numbers, its size, its depth -/
def Bent (B : Nat) (d e : PyData) : Prop := gdB (B + 1) e = true ∧ wt e ≤ 2 * wt d + 1000 ∧ e.depth ≤ d.depth + 2
/-! ### new tuples of data -/
theorem FzAll.append {K : PySem.W.Frag} {H : Hp} : ∀ {ds es : List PyData} {vs ws : List V}, FzAll K H vs ds → FzAll K H ws es → FzAll K H (vs ++ ws) (ds ++ es)
  | _, _, _, _, .nil, q => q
  | _, _, _, _, .cons h t, q => .cons h (t.append q)
theorem FzAll.take {K : PySem.W.Frag} {H : Hp} : ∀ {ds : List PyData} {vs : List V} (k : Nat), FzAll K H vs ds → FzAll K H (vs.take k) (ds.take k)
  | _, _, 0, _ => .nil
  | _, _, _ + 1, .nil => .nil
  | _, _, k + 1, .cons h t => .cons h (t.take k)
theorem FzAll.drop {K : PySem.W.Frag} {H : Hp} : ∀ {ds : List PyData} {vs : List V} (k : Nat), FzAll K H vs ds → FzAll K H (vs.drop k) (ds.drop k)
  | _, _, 0, q => q
  | _, _, _ + 1, .nil => .nil
  | _, _, k + 1, .cons h t => t.drop k
theorem FzAll.reverse {K : PySem.W.Frag} {H : Hp} : ∀ {ds : List PyData} {vs : List V}, FzAll K H vs ds → FzAll K H vs.reverse ds.reverse
  | _, _, .nil => .nil
  | _, _, .cons h t => by
    rw [List.reverse_cons, List.reverse_cons]
    exact t.reverse.append (.cons h .nil)
/-- what follows a new tuple -/
def KT (K : PySem.W.Frag) (H : Hp) (ds : List PyData) (Q : VK) : Prop := ∀ a xs H', Same H H' → Tz H' a xs → FzAll K H' xs ds → Q (.ref a) H'
theorem new_kt {K : PySem.W.Frag} {H : Hp} {xs : List V} {ds : List PyData} {Q : VK} (f : FzAll K H xs ds) (k : KT K H ds Q) : NewT H xs Q := fun p o p0 od =>
  k p xs _ (same_new p0) ⟨o, upd_same, od⟩ (f.same (same_new p0))
def cutD (ds : List PyData) (lo hi : Option Int) : List PyData := (ds.drop (HT.sIx ds.length 0 lo)).take (HT.sIx ds.length ds.length hi - HT.sIx ds.length 0 lo)
theorem slice_kt {K : PySem.W.Frag} {H : Hp} {a : Addr} {xs : List V} {ds : List PyData} {lo hi : Option Int} {Q : VK} (z : Tz H a xs) (f : FzAll K H xs ds) (k : KT K H (cutD ds lo hi) Q) : rSlF K (.ref a) lo hi H Q := by
  have ln := f.len
  refine ⟨a, xs, rfl, z.sq, fun e => ?_, fun _ => ?_⟩
  · rw [ln] at e
    have e2 : cutD ds lo hi = ds := by
      unfold cutD
      rw [e.1, e.2, List.drop_zero, Nat.sub_zero, List.take_length]
    rw [e2] at k
    exact k a xs H (Same.refl _) z f
  · refine new_kt ?_ k
    unfold cutV cutD
    rw [ln]
    exact (f.drop _).take _
theorem cat_kt {K : PySem.W.Frag} {H : Hp} {a b : Addr} {xs ys : List V} {ds es : List PyData} {Q : VK} (z : Tz H a xs) (f : FzAll K H xs ds) (z2 : Tz H b ys) (f2 : FzAll K H ys es) (few : xs.length + ys.length ≤ sizeLine) (k : KT K H (ds ++ es) Q) :
    rCatF K (.ref a) (.ref b) H Q := by
  refine ⟨a, b, xs, ys, rfl, rfl, z.sq, z2.sq, few, fun e => ?_, fun _ e => ?_, fun _ _ => new_kt (f.append f2) k⟩
  · subst e
    cases f
    exact k b ys H (Same.refl _) z2 f2
  · subst e
    cases f2
    rw [List.append_nil] at k
    exact k a xs H (Same.refl _) z f
end SG
/-! states put in another order -/
namespace SG
open PySem PySem.Spec PyProof.Rows L2
def mvG (ord : List Nat) : PyData → PyData
  | .int j => .int (ord.idxOf j.toNat : Nat)
  | g => g
def mvStep (ord : List Nat) : PyData → PyData
  | .tuple [w, g] => .tuple [w, mvG ord g]
  | d => d
def mvState (ord : List Nat) : PyData → PyData
  | .tuple [w, .tuple ss] => .tuple [w, .tuple (ss.map (mvStep ord))]
  | d => d
def moved (sts : List PyData) (ord : List Nat) : List PyData := ord.map fun i => mvState ord (sts.getD i .none)
/-- an order of n states -/
structure Ord (n : Nat) (ord : List Nat) : Prop where
  nd : ord.Nodup
  len : ord.length = n
  mem : ∀ i, i ∈ ord ↔ i < n
theorem wordOf_mv {ord : List Nat} {n : Nat} {s : PyData} (h : isStep n s = true) : wordOf (mvStep ord s) = wordOf s := by
  obtain ⟨w, g, rfl, _, _⟩ := isStep_parts h
  rfl
theorem isG_mv {ord : List Nat} {n : Nat} {g : PyData} (o : Ord n ord) (h : isG n g = true) : isG n (mvG ord g) = true := by
  rcases isG_cases h with ⟨s, hs, rfl⟩ | ⟨j, hj, rfl⟩
  · exact h
  · have hi : ord.idxOf j < n := by rw [← o.len]; exact List.idxOf_lt_length_iff.mpr ((o.mem j).mpr hj)
    show (inL endsL _ || bet (.int ((ord.idxOf (j : Int).toNat : Nat) : Int)) 0 ((n : Int) - 1)) = true
    rw [Bool.or_eq_true]
    right
    show (decide ((0 : Int) ≤ (ord.idxOf j : Nat)) && decide (((ord.idxOf j : Nat) : Int) ≤ (n : Int) - 1)) = true
    rw [Bool.and_eq_true]
    exact ⟨decide_eq_true (by omega), decide_eq_true (by omega)⟩
theorem isStep_mv {ord : List Nat} {n : Nat} {s : PyData} (o : Ord n ord) (h : isStep n s = true) : isStep n (mvStep ord s) = true := by
  have h0 := h
  obtain ⟨w, g, rfl, hw, hg⟩ := isStep_parts h
  show (inL wordsL (.str w) && isG n (mvG ord g)) = true
  rw [isG_mv o hg, inL_of hw]; rfl
theorem words_mv {ord : List Nat} {n : Nat} : ∀ {ss : List PyData}, ss.all (isStep n) = true → (ss.map (mvStep ord)).map wordOf = ss.map wordOf
  | [], _ => rfl
  | s :: ss, h => by
    rw [List.all_cons, Bool.and_eq_true] at h
    rw [List.map_cons, List.map_cons, List.map_cons, wordOf_mv h.1, words_mv h.2]
theorem isState_mv {ord : List Nat} {n : Nat} {d : PyData} (o : Ord n ord) (h : isState n d = true) : isState n (mvState ord d) = true := by
  obtain ⟨a, ss, rfl, oks⟩ := isState_two h
  show isState n (.tuple [a, .tuple (ss.map (mvStep ord))]) = true
  rw [isState_eq] at h ⊢
  unfold isSteps at h ⊢
  rw [words_mv oks, List.length_map]
  rw [oks] at h
  rw [show (ss.map (mvStep ord)).all (isStep n) = true by
    rw [List.all_map, List.all_eq_true]
    exact fun s hs => isStep_mv o (List.all_eq_true.mp oks s hs)]
  exact h
theorem leadD_mv {ord : List Nat} {n : Nat} {w : Str} : ∀ {ss : List PyData}, ss.all (isStep n) = true → leadD (ss.map (mvStep ord)) w = (leadD ss w).map (mvG ord)
  | [], _ => rfl
  | s :: ss, h => by
    rw [List.all_cons, Bool.and_eq_true] at h
    have ih := leadD_mv (ord := ord) (w := w) h.2
    unfold leadD at ih ⊢
    rw [List.map_cons, List.find?_cons, List.find?_cons, wordOf_mv h.1]
    cases e : wordOf s == w with
    | true =>
      obtain ⟨w', g, rfl, _, _⟩ := isStep_parts h.1
      rfl
    | false => exact ih
theorem moved_len (sts : List PyData) (ord : List Nat) : (moved sts ord).length = ord.length := List.length_map _
theorem moved_get {sts : List PyData} {ord : List Nat} {k : Nat} (h : k < ord.length) : (moved sts ord).getD k .none = mvState ord (sts.getD ord[k] .none) := by
  unfold moved
  rw [List.getD_eq_getElem?_getD, List.getElem?_map, List.getElem?_eq_getElem h]
  rfl
theorem moved_mach {sts : List PyData} {ord : List Nat} {n : Nat} (o : Ord n ord) (l1 : 1 ≤ n) (l8 : n ≤ 8) (ok : ∀ i, i < n → isState n (sts.getD i .none) = true)
    (up : ∀ (i j : Nat), i < n → leadD (stepsOf (sts.getD i .none)) "wait" = some (.int j) → i < j) : isMach (.tuple (moved sts ord)) = true := by
  have ln := moved_len sts ord
  rw [o.len] at ln
  have all_ : (moved sts ord).all (isState n) = true := by
    rw [List.all_eq_true]
    intro d hd
    obtain ⟨i, hi, rfl⟩ := List.mem_map.mp hd
    exact isState_mv o (ok i ((o.mem i).mp hi))
  rw [isMach_eq (by omega) (by omega) (by rw [ln]; exact all_), ln, Bool.not_eq_true', List.any_eq_false]
  intro i hi
  have hi' := List.mem_range.mp hi
  have grow : ∀ k c, runF (moved sts ord) k i = some c → c < n ∧ ∀ h : c < ord.length, k ≤ ord[c] := by
    intro k
    induction k with
    | zero =>
      intro c e
      obtain rfl : i = c := Option.some.inj e
      exact ⟨hi', fun _ => Nat.zero_le _⟩
    | succ k ih =>
      intro c e
      have e' : (runF (moved sts ord) k i).bind (nextW (moved sts ord)) = some c := e
      cases q : runF (moved sts ord) k i with
      | none => rw [q] at e'; cases e'
      | some b =>
        rw [q] at e'
        have e2 : nextW (moved sts ord) b = some c := e'
        obtain ⟨hb, gb⟩ := ih b q
        have hc : c < n := nextW_lt all_ (by omega) e2
        refine ⟨hc, fun h => ?_⟩
        have hbl : b < ord.length := by rw [o.len]; exact hb
        have gb' := gb hbl
        have hob : ord[b] < n := (o.mem _).mp (List.getElem_mem hbl)
        have okb := ok _ hob
        obtain ⟨a, ss, es, oks⟩ := isState_two okb
        unfold nextW at e2
        unfold stepD at e2
        rw [moved_get hbl, es] at e2
        have e3 : stepsOf (mvState ord (.tuple [a, .tuple ss])) = ss.map (mvStep ord) := rfl
        rw [e3, leadD_mv oks] at e2
        cases ld : leadD ss "wait" with
        | none =>
          rw [ld] at e2
          have : (if ("wait" : Str) = "out" ∨ ("wait" : Str) = "up" then PyData.str "give" else .none) = .none := if_neg (by decide)
          simp only [Option.map_none] at e2
          rw [this] at e2
          cases e2
        | some g =>
          rw [ld] at e2
          rcases isG_cases (leadD_goal oks ld) with ⟨s, hs, rfl⟩ | ⟨j, hj, rfl⟩
          · cases e2
          · have e4 : ((ord.idxOf j : Nat) : Int).toNat = c := Option.some.inj e2
            rw [Int.toNat_natCast] at e4
            have lt := up ord[b] j hob (by rw [es]; exact ld)
            have mem := (o.mem j).mpr hj
            have gj : ord[c] = j := by
              subst e4
              exact List.getElem_idxOf _
            omega
  cases q : runF (moved sts ord) n i with
  | none => exact Bool.false_ne_true
  | some c =>
    obtain ⟨hc, g⟩ := grow n c q
    have hcl : c < ord.length := by rw [o.len]; exact hc
    have := g hcl
    have := (o.mem _).mp (List.getElem_mem hcl)
    omega
end SG
namespace SG
open PySem PySem.Spec PyProof.Rows L2
theorem paired_of {α β : Type} {R : α → β → Prop} : ∀ {xs : List α} {ys : List β}, xs.length = ys.length → (∀ (j : Nat) x y, xs[j]? = some x → ys[j]? = some y → R x y) → Paired R xs ys
  | [], [], _, _ => .nil
  | x :: xs, y :: ys, l, h => .cons (h 0 x y rfl rfl) (paired_of (by simpa using l) fun j a b ha hb => h (j + 1) a b (by simpa using ha) (by simpa using hb))
  | [], _ :: _, l, _ => by simp at l
  | _ :: _, [], l, _ => by simp at l
def nums (ord : List Nat) : List V := ord.map fun i => V.int ((i : Nat) : Int)
def spotK (ord : List Nat) : List (Key × V) := (List.range ord.length).map fun k => ((Sum.inl ((ord.getD k 0 : Nat) : Int) : Key), V.int ((k : Nat) : Int))
theorem spot_str {ord : List Nat} {s : Str} : valV (spotK ord) (Sum.inr s : Key) = none := by
  unfold valV
  rw [List.find?_eq_none.mpr ?_]
  · rfl
  · intro kv hkv
    obtain ⟨k, _, rfl⟩ := List.mem_map.mp hkv
    intro z
    have := of_decide_eq_true z
    cases this
theorem spot_int {ord : List Nat} {n j : Nat} (o : Ord n ord) (hj : j < n) : valV (spotK ord) (Sum.inl ((j : Nat) : Int) : Key) = some (.int ((ord.idxOf j : Nat) : Int)) := by
  have hm := (o.mem j).mpr hj
  have hi := List.idxOf_lt_length_iff.mpr hm
  have g : ord.getD (ord.idxOf j) 0 = j := by
    rw [List.getD_eq_getElem?_getD, List.getElem?_eq_getElem hi]
    exact List.getElem_idxOf hi
  unfold valV
  cases e : (spotK ord).find? (fun kv => decide (kv.1 = (Sum.inl ((j : Nat) : Int) : Key))) with
  | none =>
    rw [List.find?_eq_none] at e
    have := e (Sum.inl ((j : Nat) : Int), V.int ((ord.idxOf j : Nat) : Int)) (List.mem_map.mpr ⟨ord.idxOf j, List.mem_range.mpr hi, by rw [g]⟩)
    exact absurd (decide_eq_true rfl) this
  | some kv =>
    have hkv := List.mem_of_find?_eq_some e
    have hp := List.find?_some e
    obtain ⟨k, hk, rfl⟩ := List.mem_map.mp hkv
    have hk' := List.mem_range.mp hk
    have e1 : ((ord.getD k 0 : Nat) : Int) = j := Sum.inl.inj (of_decide_eq_true hp)
    have e2 : ord[k] = j := by
      rw [List.getD_eq_getElem?_getD, List.getElem?_eq_getElem hk'] at e1
      exact Int.ofNat_inj.mp e1
    have e3 : ord.idxOf j = k := by
      rw [← e2]
      exact o.nd.idxOf_getElem k hk'
    show some (V.int ((k : Nat) : Int)) = _
    rw [e3]
theorem spot_nodup {ord : List Nat} (nd : ord.Nodup) : ((([] : List (Key × V)) ++ spotK ord).map (·.1)).Nodup := by
  rw [List.nil_append]
  unfold spotK
  rw [List.map_map, List.Nodup, List.pairwise_map]
  rw [List.pairwise_iff_getElem]
  intro i j hi hj lt z
  rw [List.length_range] at hi hj
  rw [List.getElem_range, List.getElem_range] at z
  have z' : ((ord.getD i 0 : Nat) : Int) = ((ord.getD j 0 : Nat) : Int) := Sum.inl.inj z
  rw [List.getD_eq_getElem?_getD, List.getD_eq_getElem?_getD, List.getElem?_eq_getElem hi, List.getElem?_eq_getElem hj] at z'
  have z2 : ord[i] = ord[j] := Int.ofNat_inj.mp z'
  rw [List.Nodup, List.pairwise_iff_getElem] at nd
  exact nd i j hi hj lt z2
mutual
/-- no list within -/
def noL : PyData → Bool
  | .none | .bool _ | .int _ | .str _ => true
  | .tuple xs => noLAll xs
  | .list _ | .dict _ => false
def noLAll : List PyData → Bool
  | [] => true
  | x :: xs => noL x && noLAll xs
end
mutual
theorem Fz.keepT {K : PySem.W.Frag} {H H' : Hp} (t : ∀ a xs, Tz H a xs → Tz H' a xs) : ∀ {d : PyData} {v : V}, noL d = true → Fz K H v d → Fz K H' v d
  | .none, _, _, q => by cases q; exact .non
  | .bool _, _, _, q => by cases q; exact .bl _
  | .int _, _, _, q => by cases q; exact .int _
  | .str _, _, _, q => by cases q; exact .str _
  | .tuple ds, _, h, q => by
    cases q with
    | tup a b => exact .tup (t _ _ a) (FzAll.keepT (ds := ds) t h b)
  | .list _, _, h, _ => by cases h
  | .dict _, _, h, _ => by cases h
theorem FzAll.keepT {K : PySem.W.Frag} {H H' : Hp} (t : ∀ a xs, Tz H a xs → Tz H' a xs) : ∀ {ds : List PyData} {vs : List V}, noLAll ds = true → FzAll K H vs ds → FzAll K H' vs ds
  | [], _, _, q => by cases q; exact .nil
  | d :: ds, _, h, q => by
    have h' : (noL d && noLAll ds) = true := h
    rw [Bool.and_eq_true] at h'
    cases q with
    | cons a b => exact .cons (Fz.keepT t h'.1 a) (FzAll.keepT t h'.2 b)
end
theorem noLAll_mem : ∀ {ds : List PyData}, (∀ d ∈ ds, noL d = true) → noLAll ds = true
  | [], _ => rfl
  | d :: ds, h => by
    show (noL d && noLAll ds) = true
    rw [h d (by simp), noLAll_mem fun e he => h e (by simp [he])]; rfl
theorem isG_noL {n : Nat} {g : PyData} (h : isG n g = true) : noL g = true := by
  rcases isG_cases h with ⟨s, _, rfl⟩ | ⟨j, _, rfl⟩ <;> rfl
theorem isStep_noL {n : Nat} {d : PyData} (h : isStep n d = true) : noL d = true := by
  obtain ⟨w, g, rfl, _, hg⟩ := isStep_parts h
  show (true && (noL g && true)) = true
  rw [isG_noL hg]; rfl
theorem isState_noL {n : Nat} {d : PyData} (h : isState n d = true) : noL d = true := by
  obtain ⟨a, ss, rfl, oks⟩ := isState_two h
  have ha : noL a = true := by
    rw [isState_eq, Bool.and_eq_true, Bool.or_eq_true] at h
    rcases h.1 with h | h
    · cases a <;> first | rfl | cases h
    · cases a <;> first | rfl | cases h
  show (noL a && (noLAll ss && true)) = true
  rw [ha, noLAll_mem fun s hs => isStep_noL (List.all_eq_true.mp oks s hs)]; rfl
theorem Tz.put_lst {H : Hp} {p a : Addr} {ys zs xs : List V} (h : H p = some (.lst ys)) (z : Tz H a xs) : Tz (upd H p (.lst zs)) a xs := by
  obtain ⟨o, e, d⟩ := z
  exact ⟨o, by rw [upd_ne (fun q => by rw [q, h] at e; cases e)]; exact e, d⟩
def spMoved (K : PySem.W.Frag) : Sp := fun vs H Q _ => ∃ (s o : Addr) (sts : List PyData) (xs : List V) (ord : List Nat) (n : Nat), vs = [.ref s, .ref o] ∧ H s = some (.lst xs) ∧ FzAll K H xs sts ∧ sts.length = n ∧ H o = some (.lst (nums ord)) ∧ Ord n ord ∧
  (1 ≤ n ∧ n ≤ 8) ∧ (∀ d ∈ sts, isState n d = true ∧ wt d ≤ 10000) ∧ ∀ H' v, Same H H' → Fz K H' v (.tuple (moved sts ord)) → Q v H'
section
variable {P : Program} {w : World} {K : PySem.W.Frag} {mg : Str → Option Value} {base : Heap}
theorem ok_moved (D : Df K mg "_law_moved" s_law_moved ["_law_states", "_law_order"]) (T : Txt K mg) : Cl P w K mg base 1 "_law_moved" (spMoved K) := by
  refine D.ok sc_law_moved (fun vs H Q E h => ?_) (fun f cdv A outer s H vs Q E hr h => ?_)
  · obtain ⟨s, o, sts, xs, ord, n, rfl, _⟩ := h
    rfl
  obtain ⟨st, od, sts, xs, ord, n, rfl, hs, fs, ln, ho, oo, ⟨n1, n8⟩, oks, k⟩ := h
  have hu := hu_of hr
  have big : 100000 ≤ sizeLine := by decide
  have lno := oo.len
  refine ⟨_, -- _law_spots = dict([(_law_order[_law_k], _law_k) for _law_k in range(len(_law_order))])
    (pss_cons (ps_set (i := 2) sc_law_moved.nd rfl (Or.inr rfl) (pe_callTy (call_dictP rfl) (by rfl) T.m_dict (by decide +kernel) (pa_cons (pe_lc (own := [("_law_k", 7)]) rfl sc_law_moved.nd (pi_range1 rfl T.m_range (pa_cons (pe_callB call_len_seq (by rfl) T.m_len PySem.boot_len (pa_cons (pv 1) pa_nil)) pa_nil)) (blkOk_by (N := N_law_moved) (sc := defScope s_law_moved) (by decide +kernel)) (fun _ _ _ _ _ => (pg_name (i := 7) sc_law_moved.nd rfl (Or.inl rfl))) (fun _ _ _ _ _ => pts_nil) (fun _ _ _ _ _ => (pe_tupF (pa_cons (pe_ix (r := rIxL K) ix_list (pv 1) (pv 7) (fun _ _ => rfl)) (pa_cons (pv 7) pa_nil))))) pa_nil)))
    (pss_cons (ps_set (i := 3) sc_law_moved.nd rfl (Or.inl rfl) (pe_lst pa_nil))
    (pss_cons (ps_for PassesOwn.never rfl (pi_list (pv 1)) (pg_name (i := 4) sc_law_moved.nd rfl (Or.inl rfl))
      (pss_cons (ps_asg (pe_ix ix_list (pv 0) (pv 4) (fun _ _ => rfl)) (pg_tup rfl (pgs_cons (pg_name (i := 5) sc_law_moved.nd rfl (Or.inl rfl)) (pgs_cons (pg_name (i := 6) sc_law_moved.nd rfl (Or.inl rfl)) pgs_nil))))
      (pss_one (ps_expr (pe_bm PySem.F.plainAttrs_list PySem.F.slot_list_append PySem.F.type_list_append mt_append (pv 3) (pa_cons (pe_tupF (pa_cons (pv 5) (pa_cons (pe_tupleOfF rfl T.m_tuple (pe_lc (own := [("_law_word", 8), ("_law_goal", 9)]) rfl sc_law_moved.nd (pi_tup (pv 6)) (blkOk_by (N := N_law_moved) (sc := defScope s_law_moved) (by decide +kernel)) (fun _ _ _ _ _ => (pg_two (K := K) (i := 8) (j := 9) rfl rfl sc_law_moved.nd rfl rfl (Or.inl rfl) (Or.inl rfl))) (fun _ _ _ _ _ => pts_nil) (fun _ _ _ _ _ => (pe_tupF (pa_cons (pv 8) (pa_cons (pe_dget2 hu (pv 2) (pv 9) (pv 9) ⟨by rfl, by rfl, by rfl, by rfl⟩) pa_nil)))))) pa_nil))) pa_nil))))))
    (pss_one (ps_ret (pe_tupleOfF rfl T.m_tuple (pv 3))))))), ?_⟩
  have lnn : (nums ord).length = n := by unfold nums; rw [List.length_map]; exact lno
  refine ⟨_, rfl, _, _, rfl, .inl (SqL.of ho), _, rfl, by omega, by omega, ?_⟩
  rw [show (((nums ord).length : Nat) : Int).toNat = n by omega]
  intro dd dd0
  refine lc_range (n := n) (fun i Hx => ∃ ps : List Addr, Hx dd = some (.lst (ps.map V.ref)) ∧ ps.length = i ∧ (∀ j p, ps[j]? = some p → SqT K Hx p [.int ((ord.getD j 0 : Nat) : Int), .int ((j : Nat) : Int)]) ∧ Same H Hx) ⟨[], upd_same, rfl, fun j p e => by simp at e, same_new dd0⟩ ?_ ?_
  · rintro i Hx hi ⟨ps, x1, x2, x3, sx⟩
    refine ⟨rfl, ?_⟩
    have hio : i < ord.length := by omega
    have eo : (nums ord)[i]? = some (.int ((ord.getD i 0 : Nat) : Int)) := by
      unfold nums
      rw [List.getElem?_map, List.getD_eq_getElem?_getD, List.getElem?_eq_getElem hio]; rfl
    refine ⟨_, rfl, _, rfl, od, nums ord, _, _, rfl, rfl, SqL.of (sx _ _ ho), at_of' (j := i) (by omega) eo, _, rfl, (by show 2 ≤ sizeLine; decide), fun p o p0 od' => ?_⟩
    generalize hH : upd Hx p (.frz o (.tup [.int ((ord.getD i 0 : Nat) : Int), .int (0 + (i : Int))])) = H1
    have s1 : Same Hx H1 := by rw [← hH]; exact same_new p0
    have z1 : SqT K H1 p [.int ((ord.getD i 0 : Nat) : Int), .int (0 + (i : Int))] := .inl (.inr ⟨o, by rw [← hH]; exact upd_same⟩)
    rw [Int.zero_add] at z1
    have sm : Same H (upd H1 dd (.lst (ps.map V.ref ++ [.ref p]))) := fun q u e => by
      rw [upd_ne (ne_of_none e dd0)]
      exact s1 _ _ (sx _ _ e)
    have keepT : ∀ {q : Addr} {ys : List V}, SqT K H1 q ys → SqT K (upd H1 dd (.lst (ps.map V.ref ++ [.ref p]))) q ys := by
      intro q ys hq
      have e1 := s1 _ _ x1
      rcases hq with (h | ⟨o', h⟩) | h
      · exact .inl (.inl (by rw [upd_ne (fun z => by rw [z, e1] at h; cases h)]; exact h))
      · exact .inl (.inr ⟨o', by rw [upd_ne (fun z => by rw [z, e1] at h; cases h)]; exact h⟩)
      · exact .inr h
    refine ⟨_, s1 _ _ x1, by rw [List.length_map]; omega, ps ++ [p], by rw [upd_same, List.map_append]; rfl, by rw [List.length_append, x2]; rfl, ?_, sm⟩
    intro j q e
    by_cases hj : j < ps.length
    · rw [List.getElem?_append_left hj] at e
      exact keepT (same_sqT s1 (x3 j q e))
    · have hj2 := (List.getElem?_eq_some_iff.mp e).1
      rw [List.length_append] at hj2
      have hj3 : j = ps.length := by
        have : ([p] : List Addr).length = 1 := rfl
        omega
      subst hj3
      rw [List.getElem?_append_right (Nat.le_refl _), Nat.sub_self] at e
      obtain rfl := Option.some.inj e
      rw [x2]
      exact keepT z1
  · rintro Hx ⟨ps, x1, x2, x3, sx⟩
    have few : (ps.map V.ref).length = n := by rw [List.length_map]; exact x2
    have lk : (spotK ord).length = n := by unfold spotK; rw [List.length_map, List.length_range]; exact lno
    refine ⟨dd, ps, spotK ord, rfl, SqL.of x1, paired_of (by rw [x2, lk]) ?_, fun sp sp0 => ?_⟩
    · intro j p kv hp hkv
      have hj : j < ord.length := by
        have := (List.getElem?_eq_some_iff.mp hp).1
        omega
      unfold spotK at hkv
      rw [List.getElem?_map, List.getElem?_range hj] at hkv
      obtain rfl := Option.some.inj hkv
      exact x3 j p hp
    rw [merge_nodup _ _ (spot_nodup oo.nd), List.nil_append]
    generalize hH : upd Hx sp (.dK (spotK ord)) = H1
    have s1 : Same Hx H1 := by rw [← hH]; exact same_new sp0
    have hsp : H1 sp = some (.dK (spotK ord)) := by rw [← hH]; exact upd_same
    have s01 := sx.trans s1
    refine ⟨(by show 0 ≤ sizeLine; decide), fun fo fo0 => ?_⟩
    generalize hG : upd H1 fo (.lst []) = H2
    have s2 : Same H1 H2 := by rw [← hG]; exact same_new fo0
    have hfo : H2 fo = some (.lst []) := by rw [← hG]; exact upd_same
    have s02 := s01.trans s2
    have fo1 := fo0
    refine ⟨_, rfl, od, rfl, ⟨_, SqL.of (s02 _ _ ho)⟩, ?_⟩
    refine for_list (K := K) (a := od) (xs := nums ord) (fun i σ Hz => ∃ (k4 k5 k6 : Option V) (ys : List V), σ = [some (.ref st), some (.ref od), some (.ref sp), some (.ref fo), k4, k5, k6, none, none, none] ∧ Same H1 Hz ∧ Hz fo = some (.lst ys) ∧ FzAll K Hz ys ((ord.take i).map fun a => mvState ord (sts.getD a .none))) ⟨none, none, none, [], rfl, s2, hfo, .nil⟩ (fun i σ Hz _ ⟨_, _, _, _, _, sz', _⟩ => SqL.of (sz' _ _ (s01 _ _ ho))) ?_ ?_
    · rintro i v σ Hz hi ⟨k4, k5, k6, ys, rfl, sz', hys, fys⟩
      have hil := (List.getElem?_eq_some_iff.mp hi).1
      rw [lnn] at hil
      have hio : i < ord.length := by omega
      have eo : (nums ord)[i]? = some (.int ((ord[i] : Nat) : Int)) := by
        unfold nums
        rw [List.getElem?_map, List.getElem?_eq_getElem hio]; rfl
      rw [hi] at eo
      obtain rfl := Option.some.inj eo
      have ha : ord[i] < n := (oo.mem _).mp (List.getElem_mem hio)
      generalize hat : ord[i] = at_ at ha
      have es : sts[at_]? = some sts[at_] := List.getElem?_eq_getElem (by omega)
      obtain ⟨okd, szd⟩ := oks sts[at_] (List.getElem_mem (by omega))
      obtain ⟨a, ss, ed, okss⟩ := isState_two okd
      obtain ⟨u, eu, fu⟩ := fs.get es
      rw [ed] at fu szd okd
      have s0z := s01.trans sz'
      have few : 12 * ss.length ≤ 10000 := by
        have := wtAll_len ss
        simp only [wt, wtAll] at szd
        omega
      have fuz := fu.same s0z
      obtain ⟨t2, xs2, rfl, z2, al2⟩ := fuz.tupOf
      obtain ⟨p, q, rfl, fp, fq⟩ := al2.two
      obtain ⟨t3, ys3, rfl, z3, al3⟩ := fq.tupOf
      have l3 := al3.len
      refine ⟨_, rfl, _, rfl, st, xs, _, _, rfl, rfl, SqL.of (s0z _ _ hs), atI_nat eu, t2, _, rfl, z2.sq, rfl, _, _, rfl, _, _, rfl, rfl, ?_⟩
      refine ⟨_, rfl, .inl ⟨rfl, _, SqL.of hys⟩, _, rfl, _, rfl, t3, rfl, ⟨_, z3.sq⟩, ?_⟩
      intro d2 d20
      refine lc_tup (K := K) (a := t3) (xs := ys3) (fun j Hw => ∃ zs : List V, Hw d2 = some (.lst zs) ∧ zs.length = j ∧ FzAll K Hw zs ((ss.take j).map (mvStep ord)) ∧ Same Hz Hw) ⟨[], upd_same, rfl, .nil, same_new d20⟩ (fun j Hw _ ⟨_, _, _, _, sw⟩ => same_sqT sw z3.sq) ?_ ?_
      · rintro j y Hw hj ⟨zs, x1', x2', x3', sw⟩
        have hjl := (List.getElem?_eq_some_iff.mp hj).1
        have hjs : j < ss.length := by omega
        have e2 : ss[j]? = some ss[j] := List.getElem?_eq_getElem hjs
        have okj := List.all_eq_true.mp okss ss[j] (List.getElem_mem hjs)
        obtain ⟨wz, g, eg, hwz, hg⟩ := isStep_parts okj
        obtain ⟨v', ev, hv⟩ := al3.get e2
        rw [hj] at ev
        obtain rfl := Option.some.inj ev
        have et : ss.take (j + 1) = ss.take j ++ [.tuple [.str wz, g]] := by rw [List.take_succ, e2, eg]; rfl
        rw [eg] at hv
        obtain ⟨t4, zs4, rfl, z4, al4⟩ := hv.tupOf
        obtain ⟨y1, y2, rfl, h1, h2⟩ := al4.two
        obtain rfl : y1 = .str wz := by cases h1; rfl
        have spw := sw _ _ (sz' _ _ hsp)
        obtain ⟨o2, dg, res⟩ : ∃ o2, DGet Hw sp y2 o2 ∧ Fz K Hw (o2.getD y2) (mvG ord g) := by
          rcases isG_cases hg with ⟨s, _, rfl⟩ | ⟨m, hm, rfl⟩
          · obtain rfl : y2 = .str s := by cases h2; rfl
            refine ⟨_, DGet.k (k := Sum.inr s) spw, ?_⟩
            rw [spot_str]
            exact .str _
          · obtain rfl : y2 = .int m := by cases h2; rfl
            refine ⟨_, DGet.k (k := Sum.inl (m : Int)) spw, ?_⟩
            rw [spot_int oo hm]
            exact .int _
        refine ⟨t4, _, rfl, (z4.same sw).sq, rfl, _, _, rfl, _, _, rfl, rfl, rfl, ?_⟩
        refine ⟨_, rfl, _, rfl, sp, rfl, .inl ⟨_, .inl spw⟩, _, rfl, _, rfl, o2, dg, (by show 2 ≤ sizeLine; decide), new_kt (K := K) (.cons (.str wz) (.cons res .nil)) fun t5 xs5 Hv sv z5 f5 => ?_⟩
        have s_up : ∀ {ws : List V}, Same Hz (upd Hv d2 (.lst ws)) := fun p o e => by
          rw [upd_ne (ne_of_none e d20)]
          exact sv _ _ (sw _ _ e)
        have nol : noLAll ((ss.take (j + 1)).map (mvStep ord)) = true := noLAll_mem fun d hd => by
          obtain ⟨s', hs', rfl⟩ := List.mem_map.mp hd
          exact isStep_noL (isStep_mv oo (List.all_eq_true.mp okss s' (List.mem_of_mem_take hs')))
        refine ⟨zs, sv _ _ x1', by omega, zs ++ [.ref t5], upd_same, by rw [List.length_append, x2']; rfl, ?_, s_up⟩
        refine FzAll.keepT (fun a' xs' z => z.put_lst (sv _ _ x1')) nol ?_
        rw [et, List.map_append]
        exact (x3'.same sv).append (.cons (.tup z5 f5) .nil)
      · rintro Hw ⟨zs, x1', x2', x3', sw⟩
        rw [l3, List.take_length] at x3'
        refine .inl ⟨d2, zs, rfl, SqL.of x1', new_kt (K := K) x3' fun t5 xs5 Hv sv z5 f5 => ?_⟩
        have s1v := sw.trans sv
        refine ⟨(by show 2 ≤ sizeLine; decide), new_kt (K := K) (.cons (fp.same s1v) (.cons (.tup z5 f5) .nil)) fun t6 xs6 Hu su z6 f6 => ?_⟩
        have s2v := s1v.trans su
        have lys := fys.len
        rw [List.length_map, List.length_take] at lys
        have et : ord.take (i + 1) = ord.take i ++ [at_] := by rw [List.take_succ, List.getElem?_eq_getElem hio, hat]; rfl
        have edd : sts.getD at_ .none = .tuple [a, .tuple ss] := by rw [List.getD_eq_getElem?_getD, es, ed]; rfl
        have nol : noLAll ((ord.take (i + 1)).map fun a => mvState ord (sts.getD a .none)) = true := noLAll_mem fun d hd => by
          obtain ⟨b, hb, rfl⟩ := List.mem_map.mp hd
          have hb' : b < n := (oo.mem b).mp (List.mem_of_mem_take hb)
          have eb : sts[b]? = some sts[b] := List.getElem?_eq_getElem (by omega)
          rw [List.getD_eq_getElem?_getD, eb]
          exact isState_noL (isState_mv oo (oks sts[b] (List.getElem_mem (by omega))).1)
        refine ⟨fo, ys, _, rfl, rfl, s2v _ _ hys, by omega, _, _, _, ys ++ [.ref t6], rfl, ?_, upd_same, ?_⟩
        · intro p' o' e'
          rw [upd_ne (fun z => by rw [z, fo1] at e'; cases e')]
          exact s2v _ _ (sz' _ _ e')
        · refine FzAll.keepT (fun a' xs' z => z.put_lst (s2v _ _ hys)) nol ?_
          rw [et, List.map_append]
          refine (fys.same s2v).append (.cons ?_ .nil)
          show Fz K Hu (.ref t6) (mvState ord (sts.getD at_ .none))
          rw [edd]
          exact .tup z6 f6
    · rintro σ Hz ⟨k4, k5, k6, ys, rfl, sz', hys, fys⟩
      rw [lnn, show ord.take n = ord by rw [← lno]; exact List.take_length] at fys
      exact ⟨_, rfl, .inl ⟨fo, ys, rfl, SqL.of hys, fun p o p0 od' => k _ _ ((s01.trans sz').trans (same_new p0)) (.tup ⟨o, upd_same, od'⟩ (fys.same (same_new p0)))⟩⟩
end
end SG
/-! drawn states -/
namespace SG
theorem gd_int {B : Nat} {i : Int} (h : i.natAbs ≤ B) : gdB B (.int i) = true := decide_eq_true h
open PySem PySem.Spec PyProof.Rows L2
theorem seen_of_nodup {xs : List Str} (h : xs.Nodup) : ∀ i, i ≤ xs.length → (seen xs i).length = i := by
  intro i
  induction i with
  | zero => intro _; simp [seen]
  | succ i ih =>
    intro hi
    rw [seen_succ (List.getElem?_eq_getElem hi), dedup_len, seen_any xs _ i (by omega)]
    have no : ¬ (xs.take i).any (· == xs[i]) = true := by
      intro z
      obtain ⟨x, hx, e⟩ := List.any_eq_true.mp z
      obtain ⟨j, hj, ej⟩ := List.mem_iff_getElem.mp hx
      rw [List.length_take] at hj
      rw [List.getElem_take] at ej
      have e' := eq_of_beq e
      rw [List.Nodup, List.pairwise_iff_getElem] at h
      exact h j i (by omega) hi (by omega) (ej.trans e')
    rw [if_neg no, ih (by omega)]
theorem ord_insert {n r : Nat} {ord : List Nat} (o : Ord n ord) (h : r ≤ n) : Ord (n + 1) (ord.take r ++ [n] ++ ord.drop r) := by
  have p : (ord.take r ++ [n] ++ ord.drop r).Perm (n :: ord) := by
    have a : (ord.take r ++ [n] ++ ord.drop r).Perm ([n] ++ (ord.take r ++ ord.drop r)) := by
      rw [List.append_assoc]
      exact List.perm_append_comm_assoc _ _ _
    rwa [List.take_append_drop] at a
  refine ⟨?_, ?_, ?_⟩
  · rw [p.nodup_iff, List.nodup_cons]
    exact ⟨fun z => by have := (o.mem n).mp z; omega, o.nd⟩
  · rw [p.length_eq, List.length_cons, o.len]
  · intro i
    rw [p.mem_iff, List.mem_cons, o.mem i]
    omega
/-- steps drawn by the words out, up, down -/
structure Pre (n : Nat) (ws : List Str) (ss : List PyData) : Prop where
  ok : ss.all (isStep n) = true
  sub : (ss.map wordOf).Sublist ws
theorem Pre.skip {n : Nat} {ws : List Str} {ss : List PyData} (p : Pre n ws ss) (w : Str) : Pre n (ws ++ [w]) ss := ⟨p.ok, p.sub.trans (List.sublist_append_left ws [w])⟩
theorem Pre.take {n : Nat} {ws : List Str} {ss : List PyData} {w : Str} {g : PyData} (p : Pre n ws ss) (hw : w ∈ wordsL) (hg : isG n g = true) : Pre n (ws ++ [w]) (ss ++ [.tuple [.str w, g]]) := by
  refine ⟨?_, ?_⟩
  · rw [List.all_append, p.ok]
    show ((inL wordsL (.str w) && isG n g) && true) = true
    rw [inL_of hw, hg]; rfl
  · rw [List.map_append]
    exact p.sub.append (List.Sublist.refl _)
/-- the state of drawn steps, a wait and where it goes -/
theorem drawn_state {n i r : Nat} {a g : PyData} {ss : List PyData} (p : Pre n ["out", "up", "down"] ss) (ha : (SG.isNon a || bet a 1 10000) = true) (hg : isG n g = true) (up : ∀ j : Nat, g = .int j → i < j) :
    isState n (.tuple [a, .tuple ((ss.take r ++ [PyData.tuple [.str "wait", g]] ++ ss.drop r).filter fun s => !SG.isNon a || !(wordOf s == "wait"))]) = true ∧
    ∀ j : Nat, leadD ((ss.take r ++ [PyData.tuple [.str "wait", g]] ++ ss.drop r).filter fun s => !SG.isNon a || !(wordOf s == "wait")) "wait" = some (.int j) → i < j := by
  have nw : ∀ s ∈ ss, (wordOf s == "wait") = false := by
    intro s hs
    have := p.sub.subset (List.mem_map.mpr ⟨s, hs, rfl⟩)
    simp only [List.mem_cons, List.not_mem_nil, or_false] at this
    rcases this with e | e | e <;> rw [e] <;> decide
  have nd : (ss.map wordOf).Nodup := p.sub.nodup (by decide)
  have wok : isStep n (.tuple [.str "wait", g]) = true := by
    show (inL wordsL (.str "wait") && isG n g) = true
    rw [hg, Bool.and_true]
    exact inL_of (by decide)
  have perm : (ss.take r ++ [PyData.tuple [.str "wait", g]] ++ ss.drop r).Perm (.tuple [.str "wait", g] :: ss) := by
    have q : (ss.take r ++ [PyData.tuple [.str "wait", g]] ++ ss.drop r).Perm ([PyData.tuple [.str "wait", g]] ++ (ss.take r ++ ss.drop r)) := by
      rw [List.append_assoc]
      exact List.perm_append_comm_assoc _ _ _
    rwa [List.take_append_drop] at q
  generalize hfull : ss.take r ++ [PyData.tuple [.str "wait", g]] ++ ss.drop r = full at perm
  have okf : full.all (isStep n) = true := by
    rw [List.all_eq_true]
    intro s hs
    rcases List.mem_cons.mp (perm.mem_iff.mp hs) with rfl | h
    · exact wok
    · exact List.all_eq_true.mp p.ok s h
  have ndf : (full.map wordOf).Nodup := by
    rw [(perm.map wordOf).nodup_iff, List.map_cons, List.nodup_cons]
    refine ⟨fun z => ?_, nd⟩
    obtain ⟨s, hs, e⟩ := List.mem_map.mp z
    have := nw s hs
    rw [e] at this
    exact Bool.noConfusion ((show (wordOf (PyData.tuple [.str "wait", g]) == "wait") = true from beq_self_eq_true ("wait" : Str)).symm.trans this)
  have wf : (.tuple [.str "wait", g] : PyData) ∈ full := perm.mem_iff.mpr (by simp)
  cases hn : SG.isNon a with
  | true =>
    have ef : (full.filter fun s => !true || !(wordOf s == "wait")).all (isStep n) = true := by
      rw [List.all_eq_true]
      exact fun s hs => List.all_eq_true.mp okf s (List.mem_filter.mp hs).1
    have noW : ∀ s ∈ full.filter (fun s => !true || !(wordOf s == "wait")), (wordOf s == "wait") = false := by
      intro s hs
      have := (List.mem_filter.mp hs).2
      simpa using this
    have ndF : ((full.filter fun s => !true || !(wordOf s == "wait")).map wordOf).Nodup := ndf.sublist (List.filter_sublist.map wordOf)
    refine ⟨?_, ?_⟩
    · rw [isState_eq, ha, hn, Bool.true_and]
      unfold isSteps
      rw [ef, Bool.true_and]
      have sl := seen_of_nodup ndF _ (Nat.le_refl _)
      rw [List.length_map] at sl
      rw [sl, decide_eq_true rfl, Bool.true_and]
      rw [show ((full.filter fun s => !true || !(wordOf s == "wait")).map wordOf).any (· == "wait") = false by
        rw [List.any_eq_false]
        intro w hw
        obtain ⟨s, hs, rfl⟩ := List.mem_map.mp hw
        rw [noW s hs]; exact Bool.false_ne_true]
      rfl
    · intro j h
      unfold leadD at h
      rw [List.find?_eq_none.mpr fun s hs => by rw [noW s hs]; exact Bool.false_ne_true] at h
      cases h
  | false =>
    have ef : (full.filter fun s => !false || !(wordOf s == "wait")) = full := by
      rw [List.filter_eq_self]
      intro s _
      rfl
    rw [ef]
    refine ⟨?_, ?_⟩
    · rw [isState_eq, ha, hn, Bool.true_and]
      unfold isSteps
      rw [okf, Bool.true_and]
      have sl := seen_of_nodup ndf _ (Nat.le_refl _)
      rw [List.length_map] at sl
      rw [sl, decide_eq_true rfl, Bool.true_and]
      rw [show (full.map wordOf).any (· == "wait") = true by
        rw [List.any_eq_true]
        exact ⟨"wait", List.mem_map.mpr ⟨_, wf, rfl⟩, beq_self_eq_true _⟩]
      rfl
    · intro j h
      unfold leadD at h
      cases e : full.find? (fun s => wordOf s == "wait") with
      | none => rw [e] at h; cases h
      | some s =>
        rw [e] at h
        have hs := perm.mem_iff.mp (List.mem_of_find?_eq_some e)
        have hw := List.find?_some e
        rcases List.mem_cons.mp hs with rfl | h2
        · exact up j (Option.some.inj h)
        · have := nw s h2
          rw [this] at hw
          cases hw
end SG
namespace SG
open PySem PySem.Spec PyProof.Rows L2
def spMachine (K : PySem.W.Frag) : Sp := fun vs H Q _ => ∃ (t c : Addr) (m n : Nat), vs = [.ref t, .int m] ∧ TapeAt H t c n ∧ (1 ≤ m ∧ m ≤ 8) ∧ n ≤ 1000000 ∧
  ∀ v sts H', TapeAt H' t c (n + 500) → Fr [t] H H' → Fz K H' v (.tuple sts) → isMach (.tuple sts) = true → sts.length = m → gdB 10000 (.tuple sts) = true → wt (.tuple sts) ≤ 10000 → (PyData.tuple sts).depth ≤ 4 → Q v H'
def outs : List Str := ["out", "up", "down"]
def intsV (ws : List Int) : List V := ws.map V.int
def strsV (ws : List Str) : List V := ws.map V.str
theorem nums_insert (ord : List Nat) (r x : Nat) : (nums ord).take r ++ [V.int ((x : Nat) : Int)] ++ (nums ord).drop r = nums (ord.take r ++ [x] ++ ord.drop r) := by
  unfold nums
  rw [List.map_append, List.map_append, List.map_take, List.map_drop]
  rfl
theorem wt_mvG (ord : List Nat) (g : PyData) : SG.wt (mvG ord g) = SG.wt g := by cases g <;> rfl
theorem depth_mvG (ord : List Nat) (g : PyData) : (mvG ord g).depth = g.depth := by cases g <;> rfl
theorem mv_steps {ord : List Nat} {n : Nat} (o : Ord n ord) (h8 : n ≤ 8) : ∀ {ss : List PyData}, ss.all (isStep n) = true → gdBAll 10000 ss = true → wtAll (ss.map (mvStep ord)) = wtAll ss ∧ PyData.depthAll (ss.map (mvStep ord)) = PyData.depthAll ss ∧ gdBAll 10000 (ss.map (mvStep ord)) = true
  | [], _, _ => ⟨rfl, rfl, rfl⟩
  | s :: ss, h, g => by
    rw [List.all_cons, Bool.and_eq_true] at h
    have g' : (gdB 10000 s && gdBAll 10000 ss) = true := g
    rw [Bool.and_eq_true] at g'
    obtain ⟨i1, i2, i3⟩ := mv_steps o h8 h.2 g'.2
    obtain ⟨w, x, rfl, _, hx⟩ := isStep_parts h.1
    have gx : gdB 10000 (mvG ord x) = true := by
      rcases isG_cases (isG_mv o hx) with ⟨z, _, e⟩ | ⟨q, hq, e⟩
      · rcases isG_cases hx with ⟨z', _, e'⟩ | ⟨q', _, e'⟩
        · have gw : ((w.cps.toList.all fun c => decide (c < 1000)) && (gdB 10000 x && true)) = true := g'.1
          rw [e'] at gw ⊢
          simp only [Bool.and_eq_true] at gw
          exact gw.2.1
        · rw [e'] at e; cases e
      · rw [e]; exact gd_int (by omega)
    refine ⟨?_, ?_, ?_⟩
    · show (10 + (SG.wt (.str w) + 2 + (SG.wt (mvG ord x) + 2 + 0))) + 2 + wtAll (ss.map (mvStep ord)) = (10 + (SG.wt (.str w) + 2 + (SG.wt x + 2 + 0))) + 2 + wtAll ss
      rw [i1, wt_mvG]
    · show max (max 0 (max (mvG ord x).depth 0) + 1) (PyData.depthAll (ss.map (mvStep ord))) = max (max 0 (max x.depth 0) + 1) (PyData.depthAll ss)
      rw [i2, depth_mvG]
    · show (gdB 10000 (.tuple [.str w, mvG ord x]) && gdBAll 10000 (ss.map (mvStep ord))) = true
      have gw : ((w.cps.toList.all fun c => decide (c < 1000)) && (gdB 10000 x && true)) = true := g'.1
      simp only [Bool.and_eq_true] at gw
      rw [i3, Bool.and_true]
      show ((w.cps.toList.all fun c => decide (c < 1000)) && (gdB 10000 (mvG ord x) && true)) = true
      rw [gw.1, gx]; rfl
theorem mv_state {ord : List Nat} {n : Nat} {d : PyData} (o : Ord n ord) (h8 : n ≤ 8) (ok : isState n d = true) (g : gdB 10000 d = true) : SG.wt (mvState ord d) = SG.wt d ∧ (mvState ord d).depth = d.depth ∧ gdB 10000 (mvState ord d) = true := by
  obtain ⟨a, ss, rfl, oks⟩ := isState_two ok
  have g' : (gdB 10000 a && (gdBAll 10000 ss && true)) = true := g
  simp only [Bool.and_eq_true] at g'
  obtain ⟨i1, i2, i3⟩ := mv_steps o h8 oks g'.2.1
  refine ⟨?_, ?_, ?_⟩
  · show 10 + (SG.wt a + 2 + ((10 + wtAll (ss.map (mvStep ord))) + 2 + 0)) = 10 + (SG.wt a + 2 + ((10 + wtAll ss) + 2 + 0))
    rw [i1]
  · show max a.depth (max (PyData.depthAll (ss.map (mvStep ord)) + 1) 0) + 1 = max a.depth (max (PyData.depthAll ss + 1) 0) + 1
    rw [i2]
  · show (gdB 10000 a && (gdBAll 10000 (ss.map (mvStep ord)) && true)) = true
    rw [g'.1, i3]; rfl
theorem wtAll_le {M : Nat} : ∀ {ds : List PyData}, (∀ d ∈ ds, SG.wt d ≤ M) → wtAll ds ≤ (M + 2) * ds.length
  | [], _ => Nat.zero_le _
  | d :: ds, h => by
    have a := h d (by simp)
    have b := wtAll_le (M := M) (ds := ds) fun e he => h e (by simp [he])
    show SG.wt d + 2 + wtAll ds ≤ (M + 2) * (ds.length + 1)
    rw [Nat.mul_succ]
    omega
/-- a drawn state, of number j -/
structure Good (n j : Nat) (d : PyData) : Prop where
  ok : isState n d = true
  up : ∀ q : Nat, leadD (stepsOf d) "wait" = some (.int q) → j < q
  gd : gdB 10000 d = true
  wt : SG.wt d ≤ 1200
  dp : d.depth ≤ 3
theorem step_fine {m : Nat} {wz : Str} {g : PyData} (hw : wz ∈ wordsL) (hg : isG m g = true) (h8 : m ≤ 8) : gdB 10000 (.tuple [.str wz, g]) = true ∧ SG.wt (.tuple [.str wz, g]) ≤ 250 ∧ (PyData.tuple [.str wz, g]).depth ≤ 1 := by
  have w1 : wz.length ≤ 4 ∧ (wz.cps.toList.all fun c => decide (c < 1000)) = true := by
    have : ∀ w ∈ wordsL, w.length ≤ 4 ∧ (w.cps.toList.all fun c => decide (c < 1000)) = true := by decide +kernel
    exact this wz hw
  have g1 : gdB 10000 g = true ∧ SG.wt g ≤ 120 ∧ g.depth = 0 := by
    rcases isG_cases hg with ⟨s, hs, rfl⟩ | ⟨j, hj, rfl⟩
    · have : ∀ w ∈ endsL, (w.cps.toList.all fun c => decide (c < 1000)) = true ∧ 70 + 10 * w.length ≤ 120 := by decide +kernel
      have q := this s hs
      exact ⟨q.1, q.2, rfl⟩
    · exact ⟨gd_int (by omega), by show 70 ≤ 120; omega, rfl⟩
  refine ⟨?_, ?_, ?_⟩
  · show ((wz.cps.toList.all fun c => decide (c < 1000)) && (gdB 10000 g && true)) = true
    rw [w1.2, g1.1]; rfl
  · show 10 + ((70 + 10 * wz.length) + 2 + (SG.wt g + 2 + 0)) ≤ 250
    omega
  · show max 0 (max g.depth 0) + 1 ≤ 1
    rw [g1.2.2]; decide
theorem rep_bit {H : Hp} {l : Addr} {kb : Bool} {xs : List V} {Q : VK} (h : H l = some (.lst xs)) (few : xs.length ≤ 1000) (k0 : ∀ p, H p = none → Q (.ref p) (upd H p (.lst []))) (k1 : kb = true → ∀ p, H p = none → Q (.ref p) (upd H p (.lst xs))) : rRep (.ref l) (.int (if kb = true then 1 else 0)) H Q := by
  have big : 1000 ≤ sizeLine := by decide
  cases kb with
  | true => exact ⟨l, 1, xs, rfl, rfl, h, by decide, by decide, by show xs.length * 1 ≤ sizeLine; omega, fun p hp => by
      have e : (List.replicate (1 : Int).toNat xs).flatten = xs := by show (xs ++ []) = xs; exact List.append_nil xs
      rw [e]; exact k1 rfl p hp⟩
  | false => exact ⟨l, 0, xs, rfl, rfl, h, by decide, by decide, by show xs.length * 0 ≤ sizeLine; omega, fun p hp => k0 p hp⟩
theorem rep_any {H : Hp} {l : Addr} {kb : Bool} {xs : List V} {Q : VK} (h : H l = some (.lst xs)) (few : xs.length ≤ 1000) (k : ∀ p zs, H p = none → (zs = [] ∨ (kb = true ∧ zs = xs)) → Q (.ref p) (upd H p (.lst zs))) : rRep (.ref l) (.int (if kb = true then 1 else 0)) H Q :=
  rep_bit h few (fun p hp => k p [] hp (.inl rfl)) fun e p hp => k p xs hp (.inr ⟨e, rfl⟩)
section
variable {P : Program} {w : World} {K : PySem.W.Frag} {mg : Str → Option Value} {base : Heap}
theorem ok_machine (D : Df K mg "_law_machine" s_law_machine ["_law_tape_here", "_law_many"]) (T : Txt K mg) (c_law_draw : Cl P w K mg base 1 "_law_draw" spDraw) (c_law_pick : Cl P w K mg base 2 "_law_pick" (spPick K)) (c_law_moved : Cl P w K mg base 1 "_law_moved" (spMoved K)) :
    Cl P w K mg base 3 "_law_machine" (spMachine K) := by
  refine D.ok sc_law_machine (fun vs H Q E h => ?_) (fun f cdv A outer s H vs Q E hr h => ?_)
  · obtain ⟨t, c, m, n, rfl, _⟩ := h
    rfl
  obtain ⟨t, c, m, n, rfl, hT, ⟨m1, m8⟩, hn, k⟩ := h
  have hu := hu_of hr
  have big : 100000 ≤ sizeLine := by decide
  refine ⟨_, -- _law_waits = _law_pick(_law_tape_here, [[1, 2, 3], [9, 10, 99, 100], [300, 500, 5000, 10000]])
    (pss_cons (ps_set (i := 2) sc_law_machine.nd rfl (Or.inl rfl) (pe_cl c_law_pick (hr.mono (by first | decide | omega)) rfl (pa_cons (pv 0) (pa_cons (pe_lst (pa_cons (pe_lst (pa_cons pe_int (pa_cons pe_int (pa_cons pe_int pa_nil)))) (pa_cons (pe_lst (pa_cons pe_int (pa_cons pe_int (pa_cons pe_int (pa_cons pe_int pa_nil))))) (pa_cons (pe_lst (pa_cons pe_int (pa_cons pe_int (pa_cons pe_int (pa_cons pe_int pa_nil))))) pa_nil)))) pa_nil))))
    (pss_cons (ps_par (i := 3) (j := 4) rfl sc_law_machine.nd rfl rfl (by decide) rfl rfl (pa_cons (pe_lst pa_nil) (pa_cons (pe_lst (pa_cons pe_int pa_nil)) pa_nil)) rfl)
    (pss_cons (ps_for PassesOwn.never rfl (pi_range2 rfl T.m_range (pa_cons pe_int (pa_cons (pv 1) pa_nil))) (pg_name (i := 5) sc_law_machine.nd rfl (Or.inl rfl))
      (pss_one (ps_expr (pe_bm PySem.F.plainAttrs_list PySem.F.slot_list_insert PySem.F.type_list_insert mt_insert (pv 4) (pa_cons (pe_op op_add pe_int (pe_cl c_law_draw (hr.mono (by first | decide | omega)) rfl (pa_cons (pv 0) (pa_cons (pe_callB call_len_seq (by rfl) T.m_len PySem.boot_len (pa_cons (pv 4) pa_nil)) pa_nil)))) (pa_cons (pv 5) pa_nil))))))
    (pss_cons (ps_set (i := 6) sc_law_machine.nd rfl (Or.inl rfl) (pe_cl c_law_pick (hr.mono (by first | decide | omega)) rfl (pa_cons (pv 0) (pa_cons (pe_lst (pa_cons (pe_lst (pa_cons pe_str (pa_cons pe_str pa_nil))) (pa_cons (pe_lst (pa_cons pe_str (pa_cons pe_str (pa_cons pe_str pa_nil)))) (pa_cons (pe_lst (pa_cons pe_str (pa_cons pe_str (pa_cons pe_str pa_nil)))) pa_nil)))) pa_nil))))
    (pss_cons (ps_for PassesOwn.never rfl (pi_range1 rfl T.m_range (pa_cons (pv 1) pa_nil)) (pg_name (i := 5) sc_law_machine.nd rfl (Or.inl rfl))
      (pss_cons (ps_asg (pe_tupF (pa_cons (pe_cl c_law_pick (hr.mono (by first | decide | omega)) rfl (pa_cons (pv 0) (pa_cons (pe_lst (pa_cons pe_non (pa_cons (pe_cl c_law_pick (hr.mono (by first | decide | omega)) rfl (pa_cons (pv 0) (pa_cons (pv 2) pa_nil))) (pa_cons (pe_cl c_law_pick (hr.mono (by first | decide | omega)) rfl (pa_cons (pv 0) (pa_cons (pv 2) pa_nil))) pa_nil)))) pa_nil))) (pa_cons (pe_lst pa_nil) pa_nil))) (pg_tup rfl (pgs_cons (pg_name (i := 7) sc_law_machine.nd rfl (Or.inr rfl)) (pgs_cons (pg_name (i := 8) sc_law_machine.nd rfl (Or.inl rfl)) pgs_nil))))
      (pss_cons (ps_for PassesOwn.never rfl (pi_list (pe_lst (pa_cons pe_str (pa_cons pe_str (pa_cons pe_str pa_nil))))) (pg_name (i := 9) sc_law_machine.nd rfl (Or.inl rfl))
        (pss_cons (ps_set (i := 10) sc_law_machine.nd rfl (Or.inl rfl) (pe_cl c_law_pick (hr.mono (by first | decide | omega)) rfl (pa_cons (pv 0) (pa_cons (pe_op op_cat (pv 6) (pe_op op_rep (pe_lst (pa_cons (pe_cl c_law_draw (hr.mono (by first | decide | omega)) rfl (pa_cons (pv 0) (pa_cons (pv 1) pa_nil))) pa_nil)) pe_int)) pa_nil))))
        (pss_one (ps_expr (pe_bm PySem.F.plainAttrs_list PySem.F.slot_list_extend PySem.F.type_list_extend mt_extend (pv 8) (pa_cons (pe_op op_rep (pe_lst (pa_cons (pe_tupF (pa_cons (pv 9) (pa_cons (pv 10) pa_nil))) pa_nil)) (pe_callTy call_int1 rfl T.m_int (by decide +kernel) (pa_cons (pe_cmpR op_gt (pe_cl c_law_draw (hr.mono (by first | decide | omega)) rfl (pa_cons (pv 0) (pa_cons pe_int pa_nil))) (pe_op op_mul (pe_callTy call_int1 rfl T.m_int (by decide +kernel) (pa_cons (pe_cmpR op_eq (pv 9) pe_str (nomark _)) pa_nil)) pe_int) (nomark _)) pa_nil))) pa_nil))))))
      (pss_cons (ps_set (i := 11) sc_law_machine.nd rfl (Or.inl rfl) (pe_cl c_law_pick (hr.mono (by first | decide | omega)) rfl (pa_cons (pv 0) (pa_cons (pe_op op_cat (pv 6) (pe_op op_rep (pe_op op_rep (pe_lst (pa_cons (pe_callB (call_min2 rfl) (by rfl) T.m_min (by decide +kernel) (pa_cons (pe_op op_sub (pv 1) pe_int) (pa_cons (pe_op op_add (pe_op op_add (pv 5) pe_int) (pe_cl c_law_draw (hr.mono (by first | decide | omega)) rfl (pa_cons (pv 0) (pa_cons (pv 1) pa_nil)))) pa_nil))) pa_nil)) pe_int) (pe_callTy call_int1 rfl T.m_int (by decide +kernel) (pa_cons (pe_cmpR op_lt (pv 5) (pe_op op_sub (pv 1) pe_int) (nomark _)) pa_nil)))) pa_nil))))
      (pss_cons (ps_expr (pe_bm PySem.F.plainAttrs_list PySem.F.slot_list_insert PySem.F.type_list_insert mt_insert (pv 8) (pa_cons (pe_cl c_law_draw (hr.mono (by first | decide | omega)) rfl (pa_cons (pv 0) (pa_cons (pe_op op_add (pe_callB call_len_seq (by rfl) T.m_len PySem.boot_len (pa_cons (pv 8) pa_nil)) pe_int) pa_nil))) (pa_cons (pe_tupF (pa_cons pe_str (pa_cons (pv 11) pa_nil))) pa_nil))))
      (pss_one (ps_expr (pe_bm PySem.F.plainAttrs_list PySem.F.slot_list_append PySem.F.type_list_append mt_append (pv 3) (pa_cons (pe_tupF (pa_cons (pv 7) (pa_cons (pe_tupleOfF rfl T.m_tuple (pe_lc (own := [("_law_step", 12)]) rfl sc_law_machine.nd (pi_list (pv 8)) (blkOk_by (N := N_law_machine) (sc := defScope s_law_machine) (by decide +kernel)) (fun _ _ _ _ _ => (pg_name (i := 12) sc_law_machine.nd rfl (Or.inl rfl))) (fun _ _ _ _ _ => pts_one (PW.pt (pw_or (pt_cmp (pc_notN (pv 7))) (pw_or1 (pt_cmpR op_ne (pe_ix (r := rIxT K) ix_tup (pv 12) pe_int (fun _ _ => rfl)) pe_str (nomark _)))))) (fun _ _ _ _ _ => (pv 12)))) pa_nil))) pa_nil)))))))))
    (pss_one (ps_ret (pe_cl c_law_moved (hr.mono (by first | decide | omega)) rfl (pa_cons (pv 3) (pa_cons (pv 4) pa_nil)))))))))), ?_⟩
  refine ⟨_, rfl, (by show 3 ≤ sizeLine; decide), fun w1 w10 => ?_⟩
  generalize hA : upd H w1 _ = Ha
  have sa := same_is hA w10
  have ha := upd_is hA
  refine ⟨(by show 4 ≤ sizeLine; decide), fun w2 w20 => ?_⟩
  generalize hB : upd Ha w2 _ = Hb
  have sb := same_is hB w20
  have hb := upd_is hB
  refine ⟨(by show 4 ≤ sizeLine; decide), fun w3 w30 => ?_⟩
  generalize hC : upd Hb w3 _ = Hc
  have sc := same_is hC w30
  have hc := upd_is hC
  refine ⟨(by show 3 ≤ sizeLine; decide), fun l l0 => ?_⟩
  generalize hD : upd Hc l _ = Hd
  have sd := same_is hD l0
  have hd := upd_is hD
  have s0d := sa.trans (sb.trans (sc.trans sd))
  refine ⟨t, c, l, _, n, rfl, hT.same s0d, by omega, hd, ⟨by show 1 ≤ 3; omega, by show 3 ≤ 1000; omega⟩, fun v H1 hv T1 F1 => ?_⟩
  have F01 : Fr [t] H H1 := (Fr.same s0d _).trans F1
  obtain ⟨wl, ws, rfl, hwl, wpos, wok⟩ : ∃ (wl : Addr) (ws : List Int), v = .ref wl ∧ H1 wl = some (.lst (intsV ws)) ∧ (1 ≤ ws.length ∧ ws.length ≤ 4) ∧ ∀ x ∈ ws, 1 ≤ x ∧ x ≤ 10000 := by
    have at_ : ∀ {q : Addr} {xs : List V}, Hd q = some (.lst xs) → H1 q = some (.lst xs) := fun e => F1 _ _ e (not_in_one ((hT.same s0d).ne_lst e))
    simp only [List.mem_cons, List.not_mem_nil, or_false] at hv
    rcases hv with rfl | rfl | rfl
    · exact ⟨w1, [1, 2, 3], rfl, at_ ((sb.trans (sc.trans sd)) _ _ ha), by decide, by decide⟩
    · exact ⟨w2, [9, 10, 99, 100], rfl, at_ ((sc.trans sd) _ _ hb), by decide, by decide⟩
    · exact ⟨w3, [300, 500, 5000, 10000], rfl, at_ (sd _ _ hc), by decide, by decide⟩
  refine ⟨(by show 0 ≤ sizeLine; decide), fun st st0 => ?_⟩
  generalize hE : upd H1 st _ = H2
  have s2 := same_is hE st0
  have hst := upd_is hE
  refine ⟨(by show 1 ≤ sizeLine; decide), fun od od0 => ?_⟩
  generalize hF : upd H2 od _ = H3
  have s3 := same_is hF od0
  have hod := upd_is hF
  refine ⟨_, _, rfl, ?_⟩
  have T3 := (T1.same s2).same s3
  have hst3 := s3 _ _ hst
  have hwl3 := s3 _ _ (s2 _ _ hwl)
  have F03 : Fr [t] H H3 := F01.trans (Fr.same (s2.trans s3) _)
  have od_t : od ≠ t := fun z => by obtain ⟨kvs, e⟩ := (T1.same s2).is; rw [← z, od0] at e; cases e
  have od_c : od ≠ c := (T1.same s2).ne_newc od0
  have st_od : st ≠ od := ne_of_none hst od0
  have wl_od : wl ≠ od := ne_of_none (s2 _ _ hwl) od0
  have od_H : H od = none := by
    cases e : H od with
    | none => rfl
    | some u =>
      have := (F01.trans (Fr.same s2 _)) _ _ e (not_in_one od_t)
      rw [od0] at this; cases this
  refine ⟨_, rfl, 1, (m : Int), rfl, ⟨by decide, by decide, by omega, by omega⟩, ?_⟩
  rw [show ((m : Int) - 1).toNat = m - 1 by omega]
  refine for_range (lo := 1) (n := m - 1) (fun i σ Hz => ∃ (k5 : Option V) (ord : List Nat), σ = [some (.ref t), some (.int m), some (.ref wl), some (.ref st), some (.ref od), k5, none, none, none, none, none, none, none] ∧ Ord (i + 1) ord ∧ Hz od = some (.lst (nums ord)) ∧ TapeAt Hz t c (n + 1 + i) ∧ Fr [t, od] H3 Hz) ?_ ?_ ?_
  · exact ⟨none, [0], rfl, ⟨by simp, rfl, fun i => by simp⟩, hod, T3, Fr.refl _ _⟩
  · rintro i σ Hz hi ⟨k5, ord, rfl, oo, ho, Tz', Fz'⟩
    have lo : (nums ord).length = i + 1 := by unfold nums; rw [List.length_map]; exact oo.len
    refine ⟨_, rfl, .inl ⟨rfl, _, SqL.of ho⟩, _, rfl, _, rfl, _, _, rfl, .inl (SqL.of ho), t, c, _, n + 1 + i, rfl, Tz', ⟨by omega, by omega⟩, by omega, fun r H4 hr4 T4 F4 => ?_⟩
    have ho4 := F4 _ _ ho (not_in_one od_t)
    refine ⟨_, _, rfl, rfl, _, rfl, od, _, _, _, rfl, rfl, ho4, by omega, by omega, by omega, ?_⟩
    have eo : (nums ord).take (1 + r).toNat ++ [V.int (1 + (i : Int))] ++ (nums ord).drop (1 + r).toNat = nums (ord.take (1 + r).toNat ++ [i + 1] ++ ord.drop (1 + r).toNat) := by
      rw [show (1 + (i : Int)) = ((i + 1 : Nat) : Int) by omega]
      exact nums_insert ord _ _
    refine ⟨_, ord.take (1 + r).toNat ++ [i + 1] ++ ord.drop (1 + r).toNat, rfl, ord_insert oo (by omega), ?_, T4.put od_t od_c, ?_⟩
    · rw [← eo]
      exact upd_same
    · exact Fz'.trans ((F4.mono (by simp)).trans (Fr.put (by simp)))
  · rintro σ H4 ⟨k5, ord, rfl, oo, ho, T4, F34⟩
    rw [show m - 1 + 1 = m by omega] at oo
    have st_n : st ∉ [t, od] := by simp only [List.mem_cons, List.not_mem_nil, or_false, not_or]; exact ⟨T3.ne_lst hst3, st_od⟩
    have wl_n : wl ∉ [t, od] := by simp only [List.mem_cons, List.not_mem_nil, or_false, not_or]; exact ⟨T3.ne_lst hwl3, wl_od⟩
    have hst4 := F34 _ _ hst3 st_n
    have hwl4 := F34 _ _ hwl3 wl_n
    have F04 : Fr [t] H H4 := fun b o e nb => F34 _ _ (F03 _ _ e nb) (by
      simp only [List.mem_cons, List.not_mem_nil, or_false, not_or] at nb ⊢
      exact ⟨nb, fun z => by rw [z, od_H] at e; cases e⟩)
    have T4' := T4.mono (show n + 1 + (m - 1) ≤ n + 10 by omega)
    refine ⟨_, rfl, (by show 2 ≤ sizeLine; decide), fun e1 e10 => ?_⟩
    generalize hA' : upd H4 e1 _ = Ia
    have ja := same_is hA' e10
    have ga := upd_is hA'
    refine ⟨(by show 3 ≤ sizeLine; decide), fun e2 e20 => ?_⟩
    generalize hB' : upd Ia e2 _ = Ib
    have jb := same_is hB' e20
    have gb := upd_is hB'
    refine ⟨(by show 3 ≤ sizeLine; decide), fun e3 e30 => ?_⟩
    generalize hC' : upd Ib e3 _ = Ic
    have jc := same_is hC' e30
    have gc := upd_is hC'
    refine ⟨(by show 3 ≤ sizeLine; decide), fun l2 l20 => ?_⟩
    generalize hD' : upd Ic l2 _ = Id
    have jd := same_is hD' l20
    have gd' := upd_is hD'
    have j0d := ja.trans (jb.trans (jc.trans jd))
    refine ⟨t, c, l2, _, n + 10, rfl, T4'.same j0d, by omega, gd', ⟨by show 1 ≤ 3; omega, by show 3 ≤ 1000; omega⟩, fun v H5 hv T5 F5 => ?_⟩
    have F45 : Fr [t] H4 H5 := (Fr.same j0d _).trans F5
    obtain ⟨el, es, rfl, el_st, hel, epos, eok⟩ : ∃ (el : Addr) (es : List Str), v = .ref el ∧ el ≠ st ∧ H5 el = some (.lst (strsV es)) ∧ (1 ≤ es.length ∧ es.length ≤ 3) ∧ ∀ x ∈ es, x ∈ endsL := by
      have at_ : ∀ {q : Addr} {xs : List V}, Id q = some (.lst xs) → H5 q = some (.lst xs) := fun e => F5 _ _ e (not_in_one ((T4'.same j0d).ne_lst e))
      simp only [List.mem_cons, List.not_mem_nil, or_false] at hv
      rcases hv with rfl | rfl | rfl
      · exact ⟨e1, ["claim", "give"], rfl, (ne_of_none hst4 e10).symm, at_ ((jb.trans (jc.trans jd)) _ _ ga), by decide, by decide +kernel⟩
      · exact ⟨e2, ["claim", "claim", "give"], rfl, (ne_of_none (ja _ _ hst4) e20).symm, at_ ((jc.trans jd) _ _ gb), by decide, by decide +kernel⟩
      · exact ⟨e3, ["give", "give", "claim"], rfl, (ne_of_none ((ja.trans jb) _ _ hst4) e30).symm, at_ (jd _ _ gc), by decide, by decide +kernel⟩
    have F05 := F04.trans F45
    have hst5 := F45 _ _ hst4 (not_in_one (T4.ne_lst hst4))
    have hwl5 := F45 _ _ hwl4 (not_in_one (T4.ne_lst hwl4))
    have ho5 := F45 _ _ ho (not_in_one (T4.ne_lst ho))
    have wl_st : wl ≠ st := ne_of_none hwl st0
    have st_t : st ≠ t := T4.ne_lst hst4
    have st_c : st ≠ c := T1.ne_newc st0
    have st_H : H st = none := by
      cases e : H st with
      | none => rfl
      | some u =>
        have := F01 _ _ e (not_in_one st_t)
        rw [st0] at this; cases this
    refine ⟨_, rfl, _, rfl, by omega, by omega, ?_⟩
    rw [show ((m : Int)).toNat = m by omega]
    refine for_range (lo := 0) (n := m) (fun i σ Hz => ∃ (k5 k7 k8 k9 k10 k11 : Option V) (ys : List V) (sd : List PyData), σ = [some (.ref t), some (.int m), some (.ref wl), some (.ref st), some (.ref od), k5, some (.ref el), k7, k8, k9, k10, k11, none] ∧ Hz st = some (.lst ys) ∧ FzAll K Hz ys sd ∧ sd.length = i ∧
      (∀ j, j < i → Good m j (sd.getD j .none)) ∧ TapeAt Hz t c (n + 11 + 20 * i) ∧ Fr [t, st] H5 Hz) ?_ ?_ ?_
    · exact ⟨_, none, none, none, none, none, [], [], rfl, hst5, .nil, rfl, fun j hj => by omega, T5, Fr.refl _ _⟩
    · rintro i σ Hz hi ⟨k5, k7, k8, k9, k10, k11, ys, sd, rfl, hys, fys, lsd, good, Tz', F5z⟩
      have wl_n2 : wl ∉ [t, st] := by simp only [List.mem_cons, List.not_mem_nil, or_false, not_or]; exact ⟨T4.ne_lst hwl4, wl_st⟩
      have el_n2 : el ∉ [t, st] := by simp only [List.mem_cons, List.not_mem_nil, or_false, not_or]; exact ⟨T5.ne_lst hel, el_st⟩
      have hwlz := F5z _ _ hwl5 wl_n2
      have helz := F5z _ _ hel el_n2
      have lws : (intsV ws).length = ws.length := by unfold intsV; exact List.length_map _
      refine ⟨_, rfl, _, rfl, _, rfl, t, c, wl, intsV ws, n + 11 + 20 * i, rfl, Tz', by omega, hwlz, by omega, fun v1 G1 hv1 U1 f1 => ?_⟩
      have hwl1 := f1 _ _ hwlz (not_in_one (Tz'.ne_lst hwlz))
      refine ⟨_, rfl, _, rfl, t, c, wl, intsV ws, _, rfl, U1, by omega, hwl1, by omega, fun v2 G2 hv2 U2 f2 => ?_⟩
      refine ⟨(by show 3 ≤ sizeLine; decide), fun l3 l30 => ?_⟩
      generalize hX : upd G2 l3 _ = G3
      have x3 := same_is hX l30
      have y3 := upd_is hX
      refine ⟨t, c, l3, _, _, rfl, U2.same x3, by omega, y3, ⟨by show 1 ≤ 3; omega, by show 3 ≤ 1000; omega⟩, fun v3 G4 hv3 U4 f4 => ?_⟩
      obtain ⟨a, av, aok, agd⟩ : ∃ a : PyData, (∀ Hq : Hp, Fz K Hq v3 a) ∧ (SG.isNon a || bet a 1 10000) = true ∧ gdB 10000 a = true := by
        have one : ∀ {v : V}, v ∈ intsV ws → ∃ a : PyData, (∀ Hq : Hp, Fz K Hq v a) ∧ (SG.isNon a || bet a 1 10000) = true ∧ gdB 10000 a = true := by
          intro v hv
          obtain ⟨x, hx, rfl⟩ := List.mem_map.mp hv
          obtain ⟨h1, h2⟩ := wok x hx
          refine ⟨.int x, fun _ => .int x, ?_, gd_int (by omega)⟩
          show (false || (decide (1 ≤ x) && decide (x ≤ 10000))) = true
          rw [decide_eq_true h1, decide_eq_true h2]; rfl
        simp only [List.mem_cons, List.not_mem_nil, or_false] at hv3
        rcases hv3 with rfl | rfl | rfl
        · exact ⟨.none, fun _ => .non, rfl, rfl⟩
        · exact one hv1
        · exact one hv2
      refine ⟨(by show 0 ≤ sizeLine; decide), fun sp sp0 => ?_⟩
      generalize hY : upd G4 sp _ = G5
      have x5 := same_is hY sp0
      have y5 := upd_is hY
      refine ⟨(by show 2 ≤ sizeLine; decide), fun q o q0 _ => ?_⟩
      generalize hZ : upd G5 q _ = G6
      have x6 := same_is hZ q0
      have y6 := upd_is hZ
      refine ⟨q, _, rfl, .inl (.inr ⟨o, y6⟩), rfl, _, _, rfl, _, _, rfl, rfl, ?_⟩
      have U6 := (U4.same x5).same x6
      have hsp6 := x6 _ _ y5
      have sp_t : sp ≠ t := fun z => by obtain ⟨kvs, e⟩ := U4.is; rw [← z, sp0] at e; cases e
      have sp_c : sp ≠ c := U4.ne_newc sp0
      have hel6 : G6 el = some (.lst (strsV es)) := by
        have h1 := f1 _ _ helz (not_in_one (Tz'.ne_lst helz))
        have h2 := f2 _ _ h1 (not_in_one (U1.ne_lst h1))
        have h3 := x3 _ _ h2
        have h4 := f4 _ _ h3 (not_in_one ((U2.same x3).ne_lst h3))
        exact x6 _ _ (x5 _ _ h4)
      refine ⟨(by show 3 ≤ sizeLine; decide), fun lw lw0 => ?_⟩
      generalize hW : upd G6 lw _ = G7
      have x7 := same_is hW lw0
      have y7 := upd_is hW
      have U7 := U6.same x7
      have hsp7 := x7 _ _ hsp6
      have hel7 := x7 _ _ hel6
      have el_sp : el ≠ sp := by
        have h1 := f1 _ _ helz (not_in_one (Tz'.ne_lst helz))
        have h2 := f2 _ _ h1 (not_in_one (U1.ne_lst h1))
        have h3 := x3 _ _ h2
        have h4 := f4 _ _ h3 (not_in_one ((U2.same x3).ne_lst h3))
        exact ne_of_none h4 sp0
      have lw_sp : lw ≠ sp := (ne_of_none hsp6 lw0).symm
      have lw_t : lw ≠ t := fun z => by obtain ⟨kvs, e⟩ := U6.is; rw [← z, lw0] at e; cases e
      have two : ∀ {x : Addr}, x ≠ t → x ≠ sp → x ∉ [t, sp] := fun h1 h2 => by
        simp only [List.mem_cons, List.not_mem_nil, or_false, not_or]; exact ⟨h1, h2⟩
      refine ⟨lw, rfl, ⟨_, SqL.of y7⟩, ?_⟩
      refine for_list (K := K) (a := lw) (xs := strsV outs) (fun j σ Hx => ∃ (k9 k10 : Option V) (yz : List V) (ss : List PyData), σ = [some (.ref t), some (.int m), some (.ref wl), some (.ref st), some (.ref od), some (.int (0 + (i : Int))), some (.ref el), some v3, some (.ref sp), k9, k10, k11, none] ∧ Hx sp = some (.lst yz) ∧ FzAll K Hx yz ss ∧
        Pre m (outs.take j) ss ∧ (∀ s ∈ ss, gdB 10000 s = true ∧ SG.wt s ≤ 250 ∧ s.depth ≤ 1) ∧ TapeAt Hx t c (n + 14 + 20 * i + 3 * j) ∧ Fr [t, sp] G7 Hx) ?_ ?_ ?_ ?_
      · exact ⟨_, _, [], [], rfl, hsp7, .nil, ⟨rfl, List.Sublist.slnil⟩, fun s hs => by simp at hs, U7.mono (by omega), Fr.refl _ _⟩
      · rintro j σ Hx _ ⟨_, _, _, _, _, _, _, _, _, _, f7x⟩
        exact SqL.of (f7x _ _ y7 (two lw_t lw_sp))
      · rintro j vw σ Hx hj ⟨k9, k10, yz, ss, rfl, hyz, fyz, pre, fine, Vx, f7x⟩
        have hjl := (List.getElem?_eq_some_iff.mp hj).1
        have hj3 : j < 3 := hjl
        obtain ⟨wz, rfl, hwz, ewz⟩ : ∃ wz, vw = .str wz ∧ wz ∈ wordsL ∧ outs[j]? = some wz := by
          have e : (strsV outs)[j]? = (outs[j]?).map V.str := by unfold strsV; rw [List.getElem?_map]
          rw [e] at hj
          obtain ⟨wz, h1, h2⟩ := Option.map_eq_some_iff.mp hj
          refine ⟨wz, h2.symm, ?_, h1⟩
          have := List.mem_of_getElem? h1
          simp only [outs, List.mem_cons, List.not_mem_nil, or_false] at this
          rcases this with rfl | rfl | rfl <;> decide +kernel
        have helx := f7x _ _ hel7 (two (U7.ne_lst hel7) el_sp)
        refine ⟨_, rfl, _, rfl, _, rfl, _, rfl, t, c, m, _, rfl, Vx, ⟨by omega, by omega⟩, by omega, fun r J1 hr1 V1 g1 => ?_⟩
        have hyz1 := g1 _ _ hyz (not_in_one sp_t)
        have hel1 := g1 _ _ helx (not_in_one (Vx.ne_lst helx))
        refine ⟨(by show 1 ≤ sizeLine; decide), fun p1 p10 => ?_⟩
        generalize hJ2 : upd J1 p1 _ = J2
        have a2 := same_is hJ2 p10
        have b2 := upd_is hJ2
        refine ⟨p1, 4, _, rfl, rfl, b2, by decide, by decide, (by show 1 * 4 ≤ sizeLine; omega), fun p2 p20 => ?_⟩
        generalize hJ3 : upd J2 p2 _ = J3
        have a3 := same_is hJ3 p20
        have b3 := upd_is hJ3
        have lst_e : (strsV es).length = es.length := by unfold strsV; exact List.length_map _
        refine ⟨el, p2, _, _, rfl, rfl, a3 _ _ (a2 _ _ hel1), b3, ?_, fun p3 p30 => ?_⟩
        · rw [lst_e]
          show _ + 4 ≤ sizeLine
          omega
        generalize hJ4 : upd J3 p3 _ = J4
        have a4 := same_is hJ4 p30
        have b4 := upd_is hJ4
        have a24 := a2.trans (a3.trans a4)
        have hyz4 := a24 _ _ hyz1
        refine ⟨t, c, p3, _, _, rfl, V1.same a24, by omega, b4, ?_, fun vg J5 hvg V5 g5 => ?_⟩
        · rw [List.length_append, lst_e]
          show 1 ≤ _ + 4 ∧ _ + 4 ≤ 1000
          omega
        have hyz5 := g5 _ _ hyz4 (not_in_one sp_t)
        obtain ⟨g, gz, gok⟩ : ∃ g : PyData, (∀ Hq : Hp, Fz K Hq vg g) ∧ isG m g = true := by
          rcases List.mem_append.mp hvg with h | h
          · obtain ⟨z, hz, rfl⟩ := List.mem_map.mp h
            refine ⟨.str z, fun _ => .str z, ?_⟩
            show (inL endsL (.str z) || _) = true
            rw [inL_of (eok z hz)]; rfl
          · have h2 : vg = .int r := by
              have : vg ∈ [V.int r, V.int r, V.int r, V.int r] := h
              simpa using this
            subst h2
            refine ⟨.int r, fun _ => .int r, ?_⟩
            show (inL endsL (.int r) || (decide (0 ≤ r) && decide (r ≤ (m : Int) - 1))) = true
            rw [decide_eq_true hr1.1, decide_eq_true (show r ≤ (m : Int) - 1 by omega), Bool.or_eq_true]
            exact .inr rfl
        refine ⟨_, rfl, .inl ⟨rfl, _, SqL.of hyz5⟩, _, rfl, _, rfl, (by show 2 ≤ sizeLine; decide), new_kt (K := K) (.cons (.str wz) (.cons (gz _) .nil)) fun tp xs6 J6 s6 z6 f6 => ?_⟩
        refine ⟨(by show 1 ≤ sizeLine; decide), fun p4 p40 => ?_⟩
        generalize hJ7 : upd J6 p4 _ = J7
        have a7 := same_is hJ7 p40
        have b7 := upd_is hJ7
        have V7 := (V5.same s6).same a7
        refine ⟨_, rfl, t, c, 4, _, rfl, V7, ⟨by decide, by decide⟩, by omega, fun r2 J8 hr8 V8 g8 => ?_⟩
        have hyz8 := g8 _ _ ((s6.trans a7) _ _ hyz5) (not_in_one sp_t)
        have hp8 := g8 _ _ b7 (not_in_one (V7.ne_lst b7))
        have z8 : Tz J8 tp xs6 := (z6.same a7).fr V7 g8
        have f8' : FzAll K J8 xs6 [.str wz, g] := (f6.same a7).fr V7 g8
        have fyz8 : FzAll K J8 yz ss := ((((fyz.fr Vx g1).same a24).fr (V1.same a24) g5).same (s6.trans a7)).fr V7 g8
        have F8 : Fr [t, sp] G7 J8 := f7x.trans (((g1.trans (Fr.same a24 _)).trans (g5.trans ((Fr.same (s6.trans a7) _).trans g8))).mono (by simp))
        have nolss : noLAll ss = true := noLAll_mem fun s hs => isStep_noL (List.all_eq_true.mp pre.ok s hs)
        have lss : ss.length ≤ 3 := by
          have := pre.sub.length_le
          rw [List.length_map, List.length_take] at this
          exact Nat.le_trans this (Nat.min_le_right _ _)
        have lyz := fyz.len
        have etk : outs.take (j + 1) = outs.take j ++ [wz] := by rw [List.take_succ, ewz]; rfl
        refine ⟨_, rfl, rfl, .inr ⟨_, rfl, _, _, rfl, rfl, .inr ⟨by decide, by decide⟩, _, _, rfl, rfl, .inr ⟨_, rfl, ?_⟩⟩⟩
        refine rep_bit hp8 (by show 1 ≤ 1000; omega) (fun p5 p50 => ?_) fun _ p5 p50 => ?_
        · generalize hJ9 : upd J8 p5 _ = J9
          have a9 := same_is hJ9 p50
          have b9 := upd_is hJ9
          refine ⟨sp, p5, yz, [], rfl, rfl, a9 _ _ hyz8, b9, by show yz.length + 0 ≤ sizeLine; omega, ?_⟩
          rw [List.append_nil]
          refine ⟨_, _, yz, ss, rfl, upd_same, FzAll.keepT (fun a' xs' z => z.put_lst (a9 _ _ hyz8)) nolss (fyz8.same a9), by rw [etk]; exact pre.skip wz, fine, ((V8.same a9).put sp_t sp_c).mono (by omega), F8.trans ((Fr.same a9 _).trans (Fr.put (by simp)))⟩
        · generalize hJ9 : upd J8 p5 _ = J9
          have a9 := same_is hJ9 p50
          have b9 := upd_is hJ9
          refine ⟨sp, p5, yz, _, rfl, rfl, a9 _ _ hyz8, b9, by show yz.length + 1 ≤ sizeLine; omega, ?_⟩
          have stepok : isStep m (.tuple [.str wz, g]) = true := by
            show (inL wordsL (.str wz) && isG m g) = true
            rw [inL_of hwz, gok]; rfl
          have nol2 : noLAll (ss ++ [.tuple [.str wz, g]]) = true := noLAll_mem fun s hs => by
            rcases List.mem_append.mp hs with h | h
            · exact isStep_noL (List.all_eq_true.mp pre.ok s h)
            · rw [List.mem_singleton.mp h]; exact isStep_noL stepok
          refine ⟨_, _, _, ss ++ [.tuple [.str wz, g]], rfl, upd_same, FzAll.keepT (fun a' xs' z => z.put_lst (a9 _ _ hyz8)) nol2 ((fyz8.append (.cons (.tup z8 f8') .nil)).same a9), by rw [etk]; exact pre.take hwz gok, ?_, ((V8.same a9).put sp_t sp_c).mono (by omega), F8.trans ((Fr.same a9 _).trans (Fr.put (by simp)))⟩
          intro s hs
          rcases List.mem_append.mp hs with h | h
          · exact fine s h
          · rw [List.mem_singleton.mp h]
            exact step_fine hwz gok (by omega)
      · rintro σ Hx ⟨k9, k10, yz, ss, rfl, hyz, fyz, pre, fine, Vx, f7x⟩
        have lst_e : (strsV es).length = es.length := by unfold strsV; exact List.length_map _
        have lyz := fyz.len
        have e3 : outs.take (strsV outs).length = outs := rfl
        rw [e3] at pre
        have lss : ss.length ≤ 3 := by
          have := pre.sub.length_le
          rw [List.length_map] at this
          exact this
        have Vx' : TapeAt Hx t c (n + 23 + 20 * i) := Vx.mono (by show n + 14 + 20 * i + 3 * 3 ≤ _; omega)
        have helx := f7x _ _ hel7 (two (U7.ne_lst hel7) el_sp)
        refine ⟨_, rfl, _, rfl, _, rfl, _, _, rfl, rfl, _, rfl, _, _, rfl, rfl, _, rfl, _, rfl, t, c, m, _, rfl, Vx', ⟨by omega, by omega⟩, by omega, fun r J1 hr1 V1 g1 => ?_⟩
        have hyz1 := g1 _ _ hyz (not_in_one sp_t)
        have hel1 := g1 _ _ helx (not_in_one (Vx.ne_lst helx))
        refine ⟨_, _, rfl, rfl, ?_⟩
        refine ⟨(m : Int) - 1, 0 + (i : Int) + 1 + r, rfl, ?_⟩
        dsimp only
        generalize hmn : (if 0 + (i : Int) + 1 + r < (m : Int) - 1 then 0 + (i : Int) + 1 + r else (m : Int) - 1) = mn
        have mn1 : mn ≤ (m : Int) - 1 := by rw [← hmn]; split <;> omega
        have mn0 : 0 ≤ mn := by rw [← hmn]; split <;> omega
        have mn2 : (i : Int) < (m : Int) - 1 → (i : Int) < mn := by intro h; rw [← hmn]; split <;> omega
        refine ⟨(by show 1 ≤ sizeLine; decide), fun p1 p10 => ?_⟩
        generalize hJ2 : upd J1 p1 _ = J2
        have a2 := same_is hJ2 p10
        have b2 := upd_is hJ2
        refine ⟨p1, 3, _, rfl, rfl, b2, by decide, by decide, (by show 1 * 3 ≤ sizeLine; omega), fun p2 p20 => ?_⟩
        generalize hJ3 : upd J2 p2 _ = J3
        have a3 := same_is hJ3 p20
        have b3 := upd_is hJ3
        refine ⟨_, rfl, _, rfl, _, _, rfl, rfl, _, _, rfl, rfl, .inr ⟨_, rfl, ?_⟩⟩
        refine rep_any b3 (by show 3 ≤ 1000; omega) fun p3 zs p30 hzs => ?_
        generalize hJ4 : upd J3 p3 _ = J4
        have a4 := same_is hJ4 p30
        have b4 := upd_is hJ4
        have zs3 : zs.length ≤ 3 := by
          rcases hzs with rfl | ⟨_, rfl⟩
          · exact Nat.zero_le _
          · exact Nat.le_refl 3
        refine ⟨el, p3, _, _, rfl, rfl, a4 _ _ (a3 _ _ (a2 _ _ hel1)), b4, by omega, fun p4 p40 => ?_⟩
        generalize hJ5 : upd J4 p4 _ = J5
        have a5 := same_is hJ5 p40
        have b5 := upd_is hJ5
        have a25 := a2.trans (a3.trans (a4.trans a5))
        refine ⟨t, c, p4, _, _, rfl, V1.same a25, by omega, b5, by rw [List.length_append]; omega, fun vg J6 hvg V6 g6 => ?_⟩
        have hyz6 := g6 _ _ (a25 _ _ hyz1) (not_in_one sp_t)
        obtain ⟨g, gz, gok, gup⟩ : ∃ g : PyData, (∀ Hq : Hp, Fz K Hq vg g) ∧ isG m g = true ∧ ∀ q : Nat, g = .int q → i < q := by
          rcases List.mem_append.mp hvg with h | h
          · obtain ⟨z, hz, rfl⟩ := List.mem_map.mp h
            refine ⟨.str z, fun _ => .str z, ?_, fun q e => by cases e⟩
            show (inL endsL (.str z) || _) = true
            rw [inL_of (eok z hz)]; rfl
          · rcases hzs with rfl | ⟨kb, rfl⟩
            · cases h
            have h2 : vg = .int mn := by
              have : vg ∈ [V.int mn, V.int mn, V.int mn] := h
              simpa using this
            subst h2
            have lt := mn2 (by have := of_decide_eq_true kb; omega)
            refine ⟨.int mn, fun _ => .int mn, ?_, fun q e => by cases e; omega⟩
            show (inL endsL (.int mn) || (decide (0 ≤ mn) && decide (mn ≤ (m : Int) - 1))) = true
            rw [decide_eq_true mn0, decide_eq_true mn1, Bool.or_eq_true]
            exact .inr rfl
        refine ⟨_, rfl, .inl ⟨rfl, _, SqL.of hyz6⟩, _, rfl, _, rfl, _, _, rfl, .inl (SqL.of hyz6), _, _, rfl, rfl, t, c, _, _, rfl, V6, ⟨by omega, by omega⟩, by omega, fun r2 J7 hr7 V7 g7 => ?_⟩
        have hyz7 := g7 _ _ hyz6 (not_in_one sp_t)
        refine ⟨_, rfl, (by show 2 ≤ sizeLine; decide), new_kt (K := K) (.cons (.str "wait") (.cons (gz _) .nil)) fun tp xs8 J8 s8 z8 f8 => ?_⟩
        have hyz8 := s8 _ _ hyz7
        refine ⟨sp, yz, r2, .ref tp, rfl, rfl, hyz8, by omega, hr7.1, by omega, ?_⟩
        have fyz8 : FzAll K J8 yz ss := ((((fyz.fr Vx g1).same a25).fr (V1.same a25) g6).fr V6 g7).same s8
        generalize hJ9 : upd J8 sp _ = J9
        have b9 : J9 sp = some (.lst (yz.take r2.toNat ++ [.ref tp] ++ yz.drop r2.toNat)) := by rw [← hJ9]; exact upd_same
        have keep9 : ∀ {p : Addr} {o : HO}, p ≠ sp → J8 p = some o → J9 p = some o := fun h e => by rw [← hJ9, upd_ne h]; exact e
        have t9 : ∀ a' xs', Tz J8 a' xs' → Tz J9 a' xs' := fun a' xs' z => by rw [← hJ9]; exact z.put_lst hyz8
        have V9 : TapeAt J9 t c (n + 26 + 20 * i) := by
          rw [← hJ9]
          exact ((V7.same s8).put sp_t sp_c).mono (by omega)
        have drawn := drawn_state (r := r2.toNat) pre aok gok gup
        have wok : isStep m (.tuple [.str "wait", g]) = true := by
          show (inL wordsL (.str "wait") && isG m g) = true
          rw [gok, Bool.and_true]
          exact inL_of (by decide)
        have okfull : ∀ s ∈ ss.take r2.toNat ++ [PyData.tuple [.str "wait", g]] ++ ss.drop r2.toNat, isStep m s = true ∧ (gdB 10000 s = true ∧ SG.wt s ≤ 250 ∧ s.depth ≤ 1) := by
          intro s hs
          rcases List.mem_append.mp hs with h | h
          · rcases List.mem_append.mp h with h | h
            · exact ⟨List.all_eq_true.mp pre.ok s (List.mem_of_mem_take h), fine s (List.mem_of_mem_take h)⟩
            · rw [List.mem_singleton.mp h]
              exact ⟨wok, step_fine (by decide) gok m8⟩
          · exact ⟨List.all_eq_true.mp pre.ok s (List.mem_of_mem_drop h), fine s (List.mem_of_mem_drop h)⟩
        have lfull : (ss.take r2.toNat ++ [PyData.tuple [.str "wait", g]] ++ ss.drop r2.toNat).length ≤ 4 := by
          rw [List.length_append, List.length_append, List.length_take, List.length_drop]
          show _ + 1 + _ ≤ 4
          omega
        have ffull8 : FzAll K J8 (yz.take r2.toNat ++ [.ref tp] ++ yz.drop r2.toNat) (ss.take r2.toNat ++ [PyData.tuple [.str "wait", g]] ++ ss.drop r2.toNat) := ((fyz8.take _).append (.cons (.tup z8 f8) .nil)).append (fyz8.drop _)
        have ffull : FzAll K J9 (yz.take r2.toNat ++ [.ref tp] ++ yz.drop r2.toNat) (ss.take r2.toNat ++ [PyData.tuple [.str "wait", g]] ++ ss.drop r2.toNat) := ffull8.keepT t9 (noLAll_mem fun s hs => isStep_noL (okfull s hs).1)
        generalize (ss.take r2.toNat ++ [PyData.tuple [.str "wait", g]] ++ ss.drop r2.toNat) = full at drawn okfull lfull ffull
        generalize (yz.take r2.toNat ++ [.ref tp] ++ yz.drop r2.toNat) = fullv at b9 ffull
        have nolsd : noLAll sd = true := noLAll_mem fun d hd => by
          obtain ⟨j, hj, e⟩ := List.mem_iff_getElem.mp hd
          have q := (good j (by omega)).ok
          rw [List.getD_eq_getElem?_getD, List.getElem?_eq_getElem hj, e] at q
          exact isState_noL q
        have st1 := f1 _ _ hys (not_in_one st_t)
        have st2 := f2 _ _ st1 (not_in_one st_t)
        have st4 := f4 _ _ (x3 _ _ st2) (not_in_one st_t)
        have st_sp : st ≠ sp := ne_of_none st4 sp0
        have stx := f7x _ _ (x7 _ _ (x6 _ _ (x5 _ _ st4))) (two st_t st_sp)
        have st8 := s8 _ _ (g7 _ _ (g6 _ _ (a25 _ _ (g1 _ _ stx (not_in_one st_t))) (not_in_one st_t)) (not_in_one st_t))
        have hst9 := keep9 st_sp st8
        have fys7 : FzAll K G7 ys sd := ((((((fys.fr Tz' f1).fr U1 f2).same x3).fr (U2.same x3) f4).same x5).same x6).same x7
        have fysx : FzAll K Hx ys sd := fys7.keepT (fun a' xs' z => by
          have ne1 := U7.ne_tz z
          obtain ⟨o', e, d'⟩ := z
          exact ⟨o', f7x _ _ e (two ne1 (fun q' => by rw [q', hsp7] at e; cases e)), d'⟩) nolsd
        have fys9 : FzAll K J9 ys sd := FzAll.keepT t9 nolsd (((((fysx.fr Vx g1).same a25).fr (V1.same a25) g6).fr V6 g7).same s8)
        refine ⟨_, rfl, .inl ⟨rfl, _, SqL.of hst9⟩, _, rfl, _, rfl, sp, rfl, ⟨_, SqL.of b9⟩, ?_⟩
        intro d2 d20
        have lfv := ffull.len
        refine lc_list (K := K) (a := sp) (xs := fullv) (fun j Hw => ∃ zs : List V, Hw d2 = some (.lst zs) ∧ FzAll K Hw zs ((full.take j).filter fun s => !SG.isNon a || !(wordOf s == "wait")) ∧ zs.length ≤ j ∧ Same J9 Hw) ⟨[], upd_same, .nil, Nat.le_refl _, same_new d20⟩ (fun j Hw _ ⟨_, _, _, _, sw⟩ => SqL.of (sw _ _ b9)) ?_ ?_
        · rintro j y Hw hj ⟨zs', w1, w2, w3, sw⟩
          have hjl := (List.getElem?_eq_some_iff.mp hj).1
          have hjs : j < full.length := by omega
          have e2 : full[j]? = some full[j] := List.getElem?_eq_getElem hjs
          have okj := (okfull full[j] (List.getElem_mem hjs)).1
          obtain ⟨wz, g', eg, hwz, hg⟩ := isStep_parts okj
          obtain ⟨v', ev, hv⟩ := ffull.get e2
          rw [hj] at ev
          obtain rfl := Option.some.inj ev
          have et : full.take (j + 1) = full.take j ++ [full[j]] := by rw [List.take_succ, e2]; rfl
          have hvw := hv.same sw
          have take_ : (!SG.isNon a || !(wordOf full[j] == "wait")) = true → ∃ acc, Hw d2 = some (.lst acc) ∧ acc.length < sizeLine ∧ ∃ zs'' : List V, (upd Hw d2 (.lst (acc ++ [y]))) d2 = some (.lst zs'') ∧ FzAll K (upd Hw d2 (.lst (acc ++ [y]))) zs'' ((full.take (j + 1)).filter fun s => !SG.isNon a || !(wordOf s == "wait")) ∧ zs''.length ≤ j + 1 ∧ Same J9 (upd Hw d2 (.lst (acc ++ [y]))) := by
            intro hc
            refine ⟨zs', w1, by omega, zs' ++ [y], upd_same, ?_, by rw [List.length_append]; exact Nat.add_le_add_right w3 1, fun p o e => by rw [upd_ne (ne_of_none e d20)]; exact sw _ _ e⟩
            refine FzAll.keepT (fun a' xs' z => z.put_lst w1) (noLAll_mem fun s hs => isStep_noL (okfull s (List.mem_of_mem_take (List.mem_filter.mp hs).1)).1) ?_
            rw [et, List.filter_append]
            have e1 : [full[j]].filter (fun s => !SG.isNon a || !(wordOf s == "wait")) = [full[j]] := by
              rw [List.filter_cons, if_pos hc]; rfl
            rw [e1]
            exact w2.append (.cons hvw .nil)
          refine ⟨rfl, ?_⟩
          refine ⟨_, rfl, _, rfl, ite2 (fun c1 => ?_) fun c1 => ?_⟩
          · have nn : SG.isNon a = false := by rw [← Dp.isNon (av Hw).dp]; simpa using c1
            exact ⟨_, rfl, take_ (by rw [nn]; rfl)⟩
          · have nn : SG.isNon a = true := by rw [← Dp.isNon (av Hw).dp]; simpa using c1
            rw [eg] at hvw
            obtain ⟨t4, zs4, rfl, z4, al4⟩ := hvw.tupOf
            obtain ⟨y1, y2, rfl, h1, h2⟩ := al4.two
            obtain rfl : y1 = .str wz := by cases h1; rfl
            refine ⟨_, rfl, t4, _, 0, .str wz, rfl, rfl, z4.sq, atI_nat (j := 0) rfl, rfl, _, rfl, ite2 (fun c2 => ?_) fun c2 => ?_⟩
            · have ne : (wordOf full[j] == "wait") = false := by
                rw [eg]
                show (wz == "wait") = false
                rw [beq_eq_false_iff_ne]
                intro z
                subst z
                cases c2
              exact ⟨_, rfl, take_ (by rw [ne]; simp)⟩
            · have e : wz = "wait" := by
                have : decide (V.str wz = V.str "wait") = true := by simpa using c2
                have := of_decide_eq_true this
                cases this; rfl
              refine ⟨zs', w1, ?_, by omega, sw⟩
              rw [et, List.filter_append]
              have e1 : [full[j]].filter (fun s => !SG.isNon a || !(wordOf s == "wait")) = [] := by
                rw [List.filter_cons, if_neg]
                · rfl
                · rw [eg, nn]
                  show ¬ (false || !(wz == "wait")) = true
                  rw [e]; decide
              rw [e1, List.append_nil]
              exact w2
        · rintro Hw ⟨zs', w1, w2, w3, sw⟩
          rw [show full.take fullv.length = full by rw [lfv]; exact List.take_length] at w2
          refine .inl ⟨d2, zs', rfl, SqL.of w1, new_kt (K := K) w2 fun tq xsq Hu su zu fu => ?_⟩
          refine ⟨(by show 2 ≤ sizeLine; decide), new_kt (K := K) (.cons (av _) (.cons (.tup zu fu) .nil)) fun tr xsr Hq sq zq fq => ?_⟩
          have s9q := sw.trans (su.trans sq)
          have hstq := s9q _ _ hst9
          have lys := fys.len
          have hd_ : SG.wt a ≤ 70 ∧ a.depth = 0 := by
            rw [Bool.or_eq_true] at aok
            rcases aok with h | h
            · cases a <;> first | exact ⟨Nat.le_refl _, rfl⟩ | cases h
            · cases a <;> first | exact ⟨Nat.le_refl _, rfl⟩ | cases h
          generalize hfl : full.filter (fun s => !SG.isNon a || !(wordOf s == "wait")) = fl at drawn w2 fu fq
          have memfl : ∀ s ∈ fl, s ∈ full := fun s hs => by rw [← hfl] at hs; exact (List.mem_filter.mp hs).1
          have lfl : fl.length ≤ 4 := by rw [← hfl]; exact Nat.le_trans (List.length_filter_le _ _) lfull
          have wfl := wtAll_le (M := 250) (ds := fl) fun s hs => (okfull s (memfl s hs)).2.2.1
          have newGood : Good m i (.tuple [a, .tuple fl]) := by
            refine ⟨drawn.1, drawn.2, ?_, ?_, ?_⟩
            · show (gdB 10000 a && (gdBAll 10000 fl && true)) = true
              rw [agd, gdBAll_mem.mpr fun s hs => (okfull s (memfl s hs)).2.1]; rfl
            · show 10 + (SG.wt a + 2 + ((10 + wtAll fl) + 2 + 0)) ≤ 1200
              have : (250 + 2) * fl.length ≤ 252 * 4 := Nat.mul_le_mul_left _ lfl
              omega
            · show max a.depth (max (PyData.depthAll fl + 1) 0) + 1 ≤ 3
              have := depthAll_le (m := 1) (ds := fl) fun s hs => (okfull s (memfl s hs)).2.2.2
              rw [hd_.2]
              omega
          refine ⟨st, ys, .ref tr, rfl, rfl, hstq, by omega, ?_⟩
          have nolsd2 : noLAll (sd ++ [.tuple [a, .tuple fl]]) = true := noLAll_mem fun d hd => by
            rcases List.mem_append.mp hd with h | h
            · obtain ⟨j, hj, e⟩ := List.mem_iff_getElem.mp h
              have q := (good j (by omega)).ok
              rw [List.getD_eq_getElem?_getD, List.getElem?_eq_getElem hj, e] at q
              exact isState_noL q
            · rw [List.mem_singleton.mp h]; exact isState_noL newGood.ok
          refine ⟨_, _, _, _, _, _, ys ++ [.ref tr], sd ++ [.tuple [a, .tuple fl]], rfl, upd_same, FzAll.keepT (fun a' xs' z => z.put_lst hstq) nolsd2 ((fys9.same s9q).append (.cons (.tup zq fq) .nil)), by rw [List.length_append, lsd]; rfl, ?_, ((V9.same s9q).put st_t st_c).mono (by omega), ?_⟩
          · intro j hj
            by_cases e : j < sd.length
            · rw [List.getD_eq_getElem?_getD, List.getElem?_append_left e, ← List.getD_eq_getElem?_getD]
              exact good j (by omega)
            · have e2 : j = sd.length := by omega
              rw [List.getD_eq_getElem?_getD, e2, List.getElem?_append_right (Nat.le_refl _), Nat.sub_self]
              rw [lsd]
              exact newGood
          · -- nothing else changes
            intro b' o' e' nb
            simp only [List.mem_cons, List.not_mem_nil, or_false, not_or] at nb
            have nt : b' ∉ [t] := not_in_one nb.1
            have c0 := F5z b' o' e' (by simp only [List.mem_cons, List.not_mem_nil, or_false, not_or]; exact nb)
            have c4 := f4 _ _ (x3 _ _ (f2 _ _ (f1 _ _ c0 nt) nt)) nt
            have nsp : b' ≠ sp := ne_of_none c4 sp0
            have cx := f7x _ _ (x7 _ _ (x6 _ _ (x5 _ _ c4))) (two nb.1 nsp)
            have c8 := s8 _ _ (g7 _ _ (g6 _ _ (a25 _ _ (g1 _ _ cx nt)) nt) nt)
            rw [upd_ne nb.2]
            exact s9q _ _ (keep9 nsp c8)
    · rintro σ Hz ⟨k5, k7, k8, k9, k10, k11, ys, sd, rfl, hys, fys, lsd, good, Tz', F5z⟩
      have hoz := F5z _ _ ho5 (by simp only [List.mem_cons, List.not_mem_nil, or_false, not_or]; exact ⟨od_t, fun z => st_od z.symm⟩)
      have F0z : Fr [t] H Hz := fun b o e nb => F5z _ _ (F05 _ _ e nb) (by
        simp only [List.mem_cons, List.not_mem_nil, or_false, not_or] at nb ⊢
        exact ⟨nb, fun z => by rw [z, st_H] at e; cases e⟩)
      have gd_ : ∀ i, i < m → Good m i (sd.getD i .none) := good
      have mem_ : ∀ d ∈ sd, ∃ i, Good m i d := fun d hd => by
        obtain ⟨j, hj, e⟩ := List.mem_iff_getElem.mp hd
        have q := good j (by omega)
        rw [List.getD_eq_getElem?_getD, List.getElem?_eq_getElem hj, e] at q
        exact ⟨j, q⟩
      refine ⟨_, rfl, _, rfl, st, od, sd, ys, ord, m, rfl, hys, fys, lsd, hoz, oo, ⟨m1, m8⟩, fun d hd => ?_, fun H' v s' fz => ?_⟩
      · obtain ⟨j, q⟩ := mem_ d hd
        exact ⟨q.ok, Nat.le_trans q.wt (by decide)⟩
      have mv_ : ∀ d ∈ moved sd ord, gdB 10000 d = true ∧ SG.wt d ≤ 1200 ∧ d.depth ≤ 3 := by
        intro d hd
        obtain ⟨j, hj, rfl⟩ := List.mem_map.mp hd
        have q := good j ((oo.mem j).mp hj)
        obtain ⟨i1, i2, i3⟩ := mv_state oo m8 q.ok q.gd
        exact ⟨i3, by rw [i1]; exact q.wt, by rw [i2]; exact q.dp⟩
      have lm := moved_len sd ord
      rw [oo.len] at lm
      refine k v (moved sd ord) H' ((Tz'.same s').mono (by omega)) (F0z.trans (Fr.same s' _)) fz (moved_mach oo m1 m8 (fun j hj => (good j hj).ok) fun j q hj e => (good j hj).up q e) lm ?_ ?_ ?_
      · exact gdBAll_mem.mpr fun d hd => (mv_ d hd).1
      · have := wtAll_le (M := 1200) (ds := moved sd ord) fun d hd => (mv_ d hd).2.1
        show 10 + wtAll (moved sd ord) ≤ 10000
        rw [lm] at this
        have : (1200 + 2) * m ≤ 1202 * 8 := Nat.mul_le_mul_left _ m8
        omega
      · rw [depth_tup]
        have := depthAll_le (m := 3) (ds := moved sd ord) fun d hd => (mv_ d hd).2.2
        omega
end
end SG
namespace SG
open PySem PySem.Spec PyProof.Rows L2
def strsW (ws : List Str) : List V := ws.map V.str
def spWords : Sp := fun vs H Q _ => ∃ (t c : Addr) (n : Nat), vs = [.ref t] ∧ TapeAt H t c n ∧ n ≤ 1000000 ∧
  ∀ p (ws : List Str) H', TapeAt H' t c (n + 100) → Fr [t] H H' → H' p = some (.lst (ws.map V.str)) → ws.length = 50 → (∀ w ∈ ws, w.length ≤ 20) → Q (.ref p) H'
def abc : Str := "abcdefghijklmnopqrstuvwxyz"
section
variable {P : Program} {w : World} {K : PySem.W.Frag} {mg : Str → Option Value} {base : Heap}
theorem ok_words (D : Df K mg "_law_words" s_law_words ["_law_tape_here"]) (T : Txt K mg) (c_law_draw : Cl P w K mg base 1 "_law_draw" spDraw) (c_law_pick : Cl P w K mg base 2 "_law_pick" (spPickA K)) : Cl P w K mg base 3 "_law_words" spWords := by
  refine D.ok sc_law_words (fun vs H Q E h => ?_) (fun f cdv A outer s H vs Q E hr h => ?_)
  · obtain ⟨_, _, _, rfl, _⟩ := h
    rfl
  obtain ⟨t, c, n, rfl, hT, hn, k⟩ := h
  have hu := hu_of hr
  refine ⟨_, -- _law_letters, _law_first, _law_by = ('abcdefghijklmnopqrstuvwxyz', _law_draw(_law_tape_here, 26), _law_pick(_law_tape_here, [3, 5, 7, 9, 11, 15]))
    (C8.pss_cut (ps_asg (pe_tup (pa_cons pe_str (pa_cons (pe_cl c_law_draw (hr.mono (by first | decide | omega)) rfl (pa_cons (pv 0) (pa_cons pe_int pa_nil))) (pa_cons (pe_cl c_law_pick (hr.mono (by first | decide | omega)) rfl (pa_cons (pv 0) (pa_cons (pe_lst (pa_cons pe_int (pa_cons pe_int (pa_cons pe_int (pa_cons pe_int (pa_cons pe_int (pa_cons pe_int pa_nil))))))) pa_nil))) pa_nil)))) (pg_tup rfl (pgs_cons (pg_name (i := 1) sc_law_words.nd rfl (Or.inr rfl)) (pgs_cons (pg_name (i := 2) sc_law_words.nd rfl (Or.inr rfl)) (pgs_cons (pg_name (i := 3) sc_law_words.nd rfl (Or.inr rfl)) pgs_nil)))))
    (C8.pss_cut (ps_asg (pe_lc (own := [("_law_side", 7)]) rfl sc_law_words.nd (pi_range1 rfl T.m_range (pa_cons pe_int pa_nil)) (blkOk_by (N := N_law_words) (sc := defScope s_law_words) (by decide +kernel)) (fun _ _ _ _ _ => (pg_name (i := 7) sc_law_words.nd rfl (Or.inl rfl))) (fun _ _ _ _ _ => pts_nil) (fun _ _ _ _ _ => (by exact (pe_joinK (K := K) pe_str (pe_lc (own := [("_law_k", 8)]) rfl sc_law_words.nd (pi_range1 rfl T.m_range (pa_cons (pe_cl c_law_draw (hr.mono (by first | decide | omega)) rfl (pa_cons (pv 0) (pa_cons pe_int pa_nil))) pa_nil)) (blkOk_by (N := N_law_words) (sc := (⟨.function, [(".0", .local), ("_law_side", .local), ("range", .globalImplicit), ("_law_draw", .globalImplicit), ("_law_letters", .cell), ("_law_tape_here", .cell)], false, false, []⟩ : Scope)) (by decide +kernel)) (fun _ _ _ _ _ => (pg_name (i := 8) sc_law_words.nd rfl (Or.inl rfl))) (fun _ _ _ _ _ => pts_nil) (fun _ _ _ _ _ => (pe_cl c_law_pick (hr.mono (by first | decide | omega)) rfl (pa_cons (pv 0) (pa_cons (pv 1) pa_nil))))))))) (pg_lst rfl (pgs_cons (pg_name (i := 4) sc_law_words.nd rfl (Or.inr rfl)) (pgs_cons (pg_name (i := 5) sc_law_words.nd rfl (Or.inr rfl)) pgs_nil))))
    (pss_cons (ps_setLc (i := 6) (own := [("_law_k", 8)]) rfl sc_law_words.nd rfl rfl (sw_true rfl rfl rfl (by decide +kernel)) (pi_range1 rfl T.m_range (pa_cons pe_int pa_nil)) (blkOk_by (N := N_law_words) (sc := defScope s_law_words) (by decide +kernel)) (fun _ _ _ _ _ => (pg_name (i := 8) sc_law_words.nd rfl (Or.inl rfl))) (fun _ _ _ _ _ => pts_nil) (fun _ _ _ _ _ => (pe_op op_add_str (pe_op op_add_str (pv 4) (pe_ix ix_str (pv 1) (pe_op op_mod (pe_op op_add (pv 2) (pe_op op_mul (pv 3) (pv 8))) pe_int) (fun _ _ => rfl))) (pe_ix ix_str (pv 1) (pe_op op_mod (pe_op op_add (pv 2) (pe_op op_fdiv (pv 8) pe_int)) pe_int) (fun _ _ => rfl)))))
    (pss_one (ps_ret (pe_lc (own := [("_law_word", 9)]) rfl sc_law_words.nd (pi_list (pv 6)) (blkOk_by (N := N_law_words) (sc := defScope s_law_words) (by decide +kernel)) (fun _ _ _ _ _ => (pg_name (i := 9) sc_law_words.nd rfl (Or.inl rfl))) (fun _ _ _ _ _ => pts_nil) (fun _ _ _ _ _ => (pe_op op_add_str (pv 9) (pe_op op_mul01 (pv 5) (pe_callTy call_int1 rfl T.m_int (by decide +kernel) (pa_cons (pe_cmpR op_gt (pe_cl c_law_draw (hr.mono (by first | decide | omega)) rfl (pa_cons (pv 0) (pa_cons pe_int pa_nil))) pe_int (nomark _)) pa_nil))))))))))), ?_⟩
  refine ⟨fun σ Hx => ∃ (a b : Int), σ = [some (.ref t), some (.str abc), some (.int a), some (.int b), none, none, none, none, none, none] ∧ (0 ≤ a ∧ a < 26) ∧ (0 ≤ b ∧ b ≤ 15) ∧ TapeAt Hx t c (n + 2) ∧ Fr [t] H Hx, ?_, ?_⟩
  · refine ⟨_, rfl, t, c, _, n, rfl, hT, ⟨by decide, by decide⟩, by omega, fun a H1 ha T1 f1 => ?_⟩
    refine ⟨_, rfl, (by show 6 ≤ sizeLine; decide), ?_⟩
    (intro l l0; generalize hh_ : upd _ l _ = H2; have hl := upd_is hh_; have s2 := same_is hh_ l0; clear hh_)
    refine ⟨t, c, .ref l, n + 1, _, rfl, T1.same s2, .inl ⟨l, rfl, (T1.same s2).ne_lst hl, SqL.of hl⟩, by show 1 ≤ 6; decide, by show 6 ≤ 1000; decide, by omega, fun v H3 hv T3 f3 => ?_⟩
    obtain ⟨b, rfl, b0, b1⟩ : ∃ b : Int, v = .int b ∧ 0 ≤ b ∧ b ≤ 15 := by
      simp only [List.mem_cons, List.not_mem_nil, or_false] at hv
      rcases hv with rfl | rfl | rfl | rfl | rfl | rfl <;> exact ⟨_, rfl, by decide, by decide⟩
    refine ⟨(by show 3 ≤ sizeLine; decide), ?_⟩
    (intro q q0; generalize hh_ : upd _ q _ = H4; have hq := upd_is hh_; have s4 := same_is hh_ q0; clear hh_)
    refine ⟨q, _, rfl, SqT.of hq, rfl, _, _, rfl, _, _, rfl, _, _, rfl, rfl, ?_⟩
    exact ⟨a, b, rfl, ⟨ha.1, by omega⟩, ⟨b0, b1⟩, T3.same s4, f1.trans ((Fr.same s2 _).trans (f3.trans (Fr.same s4 _)))⟩
  rintro σ Hx ⟨a, b, rfl, ha, hb, Tx, fx⟩
  refine ⟨fun σ Hy => ∃ (z1 z2 : Str), σ = [some (.ref t), some (.str abc), some (.int a), some (.int b), some (.str z1), some (.str z2), none, none, none, none] ∧ z1.length ≤ 5 ∧ z2.length ≤ 5 ∧ TapeAt Hy t c (n + 20) ∧ Fr [t] H Hy, ?_, ?_⟩
  · refine ⟨2, rfl, by decide, by decide, fun D hD => ?_⟩
    refine lc_range (n := 2) (fun i Hy => ∃ zs : List Str, Hy D = some (.lst (zs.map V.str)) ∧ zs.length = i ∧ (∀ z ∈ zs, z.length ≤ 5) ∧ TapeAt Hy t c (n + 2 + 8 * i) ∧ Fr [t] Hx Hy) ?_ ?_ ?_
    · exact ⟨[], upd_same, rfl, fun z hz => (by cases hz), Tx.same (same_new hD), Fr.same (same_new hD) _⟩
    · rintro i Hy hi ⟨zs, h1, h2, h3, h4, h5⟩
      refine ⟨rfl, ?_⟩
      refine ⟨⟨_, rfl⟩, _, rfl, t, c, 4, _, rfl, h4, ⟨by decide, by decide⟩, by omega, fun r H1 hr1 T1 f1 => ?_⟩
      refine ⟨_, rfl, by omega, by omega, fun D2 hD2 => ?_⟩
      have Dt : D ≠ t := h4.ne_lst h1
      have hd1 := f1 _ _ h1 (not_in_one Dt)
      have D2D : D2 ≠ D := fun z => by rw [z, hd1] at hD2; cases hD2
      refine lc_range (n := r.toNat) (fun j Hz => ∃ zs2 : List Str, Hz D2 = some (.lst (zs2.map V.str)) ∧ zs2.length = j ∧ (∀ z ∈ zs2, z.length = 1) ∧ TapeAt Hz t c (n + 2 + 8 * i + 1 + j) ∧ Fr [t] H1 Hz) ?_ ?_ ?_
      · exact ⟨[], upd_same, rfl, fun z hz => (by cases hz), T1.same (same_new hD2), Fr.same (same_new hD2) _⟩
      · rintro j Hz hj ⟨zs2, g1, g2, g3, g4, g5⟩
        refine ⟨rfl, ?_⟩
        refine ⟨_, rfl, _, rfl, t, c, .str abc, _, _, rfl, g4, .inr ⟨abc, rfl, rfl⟩, by decide +kernel, by decide +kernel, by omega, fun v H2 hv T2 f2 => ?_⟩
        obtain ⟨cc, _, rfl⟩ := List.mem_map.mp hv
        have D2t : D2 ≠ t := g4.ne_lst g1
        have gd := f2 _ _ g1 (not_in_one D2t)
        have D2c : D2 ≠ c := fun z => by
          obtain ⟨cs, s', l', e1, e2, _⟩ := T1
          rw [z, e2] at hD2; cases hD2
        refine ⟨_, gd, small100 (by rw [List.length_map]; omega), zs2 ++ [⟨#[cc]⟩], ?_, by simp [g2], ?_, (T2.put D2t D2c).mono (by omega), (g5.trans f2).up hD2⟩
        · rw [upd_same, List.map_append]; rfl
        · intro z hz
          rcases List.mem_append.mp hz with hz | hz
          · exact g3 z hz
          · rw [List.mem_singleton.mp hz]; rfl
      · rintro Hz ⟨zs2, g1, g2, g3, g4, g5⟩
        have lj : (Txt.join "" zs2).length = zs2.length := PySem.W.KT.join_ones zs2 g3
        have sum1 : (zs2.map (·.length)).sum = zs2.length := by
          clear g1 g2 lj
          induction zs2 with
          | nil => rfl
          | cons z zs ih => rw [List.map_cons, List.sum_cons, g3 z (by simp), ih (fun z hz => g3 z (by simp [hz])), List.length_cons]; omega
        have gd := g5 _ _ hd1 (not_in_one Dt)
        refine ⟨"", D2, zs2, rfl, rfl, .inl (SqL.of g1), ?_, zs.map V.str, gd, small100 (by rw [List.length_map]; omega), zs ++ [Txt.join "" zs2], ?_, by simp [h2], ?_, ?_, ?_⟩
        · rw [sum1]
          show _ + _ * 0 ≤ _
          omega
        · rw [upd_same, List.map_append]; rfl
        · intro z hz
          rcases List.mem_append.mp hz with hz | hz
          · exact h3 z hz
          · rw [List.mem_singleton.mp hz, lj]; omega
        · exact (g4.put Dt (fun z => by obtain ⟨cs, s', l', e1, e2, _⟩ := Tx; rw [← z, hD] at e2; cases e2)).mono (by omega)
        · exact (h5.trans (f1.trans g5)).up hD
    · rintro Hy ⟨zs, h1, h2, h3, h4, h5⟩
      match zs, h2 with
      | [z1, z2], _ =>
        refine ⟨D, _, rfl, SqL.of h1, rfl, _, _, rfl, _, _, rfl, rfl, ?_⟩
        exact ⟨z1, z2, rfl, h3 _ (by simp), h3 _ (by simp), h4.mono (by omega), fx.trans h5⟩
  rintro σ Hy ⟨z1, z2, rfl, h1, h2, Ty, fy⟩
  have sg : ∀ i : Int, 0 ≤ i → i < 26 → ∃ cc, atI abc.cps.toList i = some cc := fun i i0 i1 => by
    obtain ⟨v, _, e⟩ := at_in (xs := abc.cps.toList) i0 (by show i < 26; exact i1)
    exact ⟨v, e⟩
  refine ⟨50, rfl, by decide, by decide, fun D hD => ?_⟩
  refine lc_range (n := 50) (fun i Hz => ∃ ws : List Str, Hz D = some (.lst (ws.map V.str)) ∧ ws.length = i ∧ (∀ z ∈ ws, z.length ≤ 7) ∧ Same Hy Hz) ?_ ?_ ?_
  · exact ⟨[], upd_same, rfl, fun z hz => (by cases hz), same_new hD⟩
  · rintro i Hz hi ⟨ws, g1, g2, g3, g4⟩
    refine ⟨rfl, ?_⟩
    obtain ⟨c1, e1⟩ := sg ((a + b * (0 + (i : Int))) % 26) (Int.emod_nonneg _ (by decide)) (Int.emod_lt_of_pos _ (by decide))
    obtain ⟨c2, e2⟩ := sg ((a + (0 + (i : Int)) / 26) % 26) (Int.emod_nonneg _ (by decide)) (Int.emod_lt_of_pos _ (by decide))
    refine ⟨_, rfl, _, rfl, _, rfl, _, rfl, _, rfl, _, _, rfl, rfl, .inl ⟨by omega, by omega⟩, _, _, rfl, rfl, _, _, rfl, rfl, (by show (0 : Int) < 26; decide), abc, _, c1, rfl, rfl, (by decide +kernel), e1, _, _, rfl, rfl, ?_, ?_⟩
    · show z1.length + 1 ≤ _
      have : 1000 ≤ sizeLine := by decide
      omega
    refine ⟨_, rfl, _, rfl, _, rfl, _, _, rfl, rfl, ⟨by decide, by decide⟩, _, _, rfl, rfl, _, _, rfl, rfl, (by show (0 : Int) < 26; decide), abc, _, c2, rfl, rfl, (by decide +kernel), e2, _, _, rfl, rfl, ?_, ?_⟩
    · rw [Str.length_append]
      show z1.length + 1 + 1 ≤ _
      have : 1000 ≤ sizeLine := by decide
      omega
    refine ⟨_, g1, small100 (by rw [List.length_map]; omega), ws ++ [z1 ++ ⟨#[c1]⟩ ++ ⟨#[c2]⟩], ?_, by simp [g2], ?_, fun p o e => by rw [upd_ne (ne_of_none e hD)]; exact g4 _ _ e⟩
    · rw [upd_same, List.map_append]; rfl
    · intro z hz
      rcases List.mem_append.mp hz with hz | hz
      · exact g3 z hz
      · rw [List.mem_singleton.mp hz, Str.length_append, Str.length_append]
        show z1.length + 1 + 1 ≤ 7
        omega
  rintro Hz ⟨ws, g1, g2, g3, g4⟩
  refine ⟨_, rfl, D, rfl, ⟨_, SqL.of g1⟩, fun D2 hD2 => ?_⟩
  have Tz := Ty.same g4
  have Dt : D ≠ t := Tz.ne_lst g1
  have D2D : D2 ≠ D := fun z => by rw [z, g1] at hD2; cases hD2
  refine lc_list (K := K) (a := D) (xs := ws.map V.str) (fun i Hw => ∃ us : List Str, Hw D2 = some (.lst (us.map V.str)) ∧ us.length = i ∧ (∀ z ∈ us, z.length ≤ 20) ∧ TapeAt Hw t c (n + 20 + i) ∧ Fr [t] Hz Hw) ?_ ?_ ?_ ?_
  · exact ⟨[], upd_same, rfl, fun z hz => (by cases hz), Tz.same (same_new hD2), Fr.same (same_new hD2) _⟩
  · rintro i Hw hi ⟨us, _, _, _, _, f⟩
    exact SqL.of (f _ _ g1 (not_in_one Dt))
  · rintro i v Hw hv ⟨us, u1, u2, u3, u4, u5⟩
    rw [List.getElem?_map] at hv
    obtain ⟨wd, hw, rfl⟩ := Option.map_eq_some_iff.mp hv
    have il : i < 50 := by have := (List.getElem?_eq_some_iff.mp hw).1; omega
    have lw := g3 wd (List.mem_of_getElem? hw)
    refine ⟨rfl, ?_⟩
    refine ⟨_, rfl, _, rfl, _, rfl, t, c, 3, _, rfl, u4, ⟨by decide, by decide⟩, by omega, fun r Hv hr' Tv fv => ?_⟩
    refine ⟨_, _, rfl, rfl, .inr ⟨_, rfl, ?_⟩⟩
    have D2t : D2 ≠ t := u4.ne_lst u1
    have ud := fv _ _ u1 (not_in_one D2t)
    have D2c : D2 ≠ c := fun z => by
      obtain ⟨cs, s', l', e1, e2, _⟩ := Tz
      rw [z, e2] at hD2; cases hD2
    have fin : ∀ z : Str, z.length ≤ 5 → ∃ i_1 j, V.str wd = V.str i_1 ∧ V.str z = V.str j ∧ i_1.length + j.length ≤ sizeLine ∧ (∃ acc, Hv D2 = some (.lst acc) ∧ acc.length < sizeLine ∧ ∃ us : List Str, (upd Hv D2 (.lst (acc ++ [V.str (i_1 ++ j)]))) D2 = some (.lst (us.map V.str)) ∧ us.length = i + 1 ∧ (∀ z ∈ us, z.length ≤ 20) ∧ TapeAt (upd Hv D2 (.lst (acc ++ [V.str (i_1 ++ j)]))) t c (n + 20 + (i + 1)) ∧ Fr [t] Hz (upd Hv D2 (.lst (acc ++ [V.str (i_1 ++ j)])))) := fun z hz => by
      have big : 1000 ≤ sizeLine := by decide
      refine ⟨wd, z, rfl, rfl, by omega, _, ud, small100 (by rw [List.length_map]; omega), us ++ [wd ++ z], ?_, by simp [u2], ?_, (Tv.put D2t D2c).mono (by omega), (u5.trans fv).up hD2⟩
      · rw [upd_same, List.map_append]; rfl
      · intro y hy
        rcases List.mem_append.mp hy with hy | hy
        · exact u3 y hy
        · rw [List.mem_singleton.mp hy, Str.length_append]; omega
    refine ⟨z2, _, rfl, rfl, ?_, fun _ => fin Str.empty (by decide), fun _ => fin z2 h2⟩
    by_cases e : (0 : Int) < r
    · rw [decide_eq_true e]; exact .inr rfl
    · rw [decide_eq_false e]; exact .inl rfl
  · rintro Hw ⟨us, u1, u2, u3, u4, u5⟩
    rw [List.length_map, g2] at u2 u4
    exact k D2 us Hw (u4.mono (by omega)) ((fy.trans (Fr.same g4 _)).trans u5) u1 u2 u3
end
end SG
namespace SG
open PySem PySem.Spec PyProof.Rows L2
/-- a drawn wish: of a kind, or a made one -/
def WsAt (H : Hp) (a : Addr) (l : Str) : Prop := (∃ W : Wi, W.ok ∧ H a = some (.tup (W.row l))) ∨ ∃ x : V, H a = some (.tup [.str "made", .str l, x])
def spWish : Sp := fun vs H Q _ => ∃ (t c : Addr) (l : Str) (n : Nat), vs = [.ref t, .str l] ∧ TapeAt H t c n ∧ n ≤ 900000 ∧
  ∀ a H', TapeAt H' t c (n + 600) → Fr [t] H H' → WsAt H' a l → Q (.ref a) H'
def Wi.dat (l : Str) : Wi → PyData
  | .tap n => .tuple [.str "tap", .str l, .int (n : Int)]
  | .press w => .tuple [.str "press", .str l, .int w]
  | .pull y => .tuple [.str "pull", .str l, .str y]
  | .spread => .tuple [.str "spread", .str l]
  | .turn => .tuple [.str "turn", .str l]
theorem Wi.im {H : Hp} {a : Addr} {l : Str} (W : Wi) (h : H a = some (.tup (W.row l))) : Im H (.ref a) (W.dat l) := by
  cases W with
  | tap n => exact .tup h (.cons (.str _) (.cons (.str _) (.cons (.int _) .nil)))
  | press n => exact .tup h (.cons (.str _) (.cons (.str _) (.cons (.int _) .nil)))
  | pull n => exact .tup h (.cons (.str _) (.cons (.str _) (.cons (.str _) .nil)))
  | spread => exact .tup h (.cons (.str _) (.cons (.str _) .nil))
  | turn => exact .tup h (.cons (.str _) (.cons (.str _) .nil))
theorem Wi.not_nil (W : Wi) (l : Str) : PyData.eqv (W.dat l) (.tuple []) = false := by cases W <;> rfl
theorem Wi.dep (W : Wi) (l : Str) : (W.dat l).depth ≤ 64 := by cases W <;> (show max _ (max _ _) + 1 ≤ 64; simp [PyData.depth, PyData.depthAll])
section
variable {P : Program} {w : World} {K : PySem.W.Frag} {mg : Str → Option Value} {base : Heap}
theorem ok_wish (D : Df K mg "_law_wish" s_law_wish ["_law_tape_here", "_law_word"]) (T : Txt K mg) (c_law_draw : Cl P w K mg base 1 "_law_draw" spDraw) (c_law_pick : Cl P w K mg base 2 "_law_pick" (spPickA K)) (c_law_machine : Cl P w K mg base 3 "_law_machine" (spMachine K)) : Cl P w K mg base 4 "_law_wish" spWish := by
  refine D.ok sc_law_wish (fun vs H Q E h => ?_) (fun f cdv A outer s H vs Q E hr h => ?_)
  · obtain ⟨_, _, _, _, rfl, _⟩ := h
    rfl
  obtain ⟨t, c, l, n, rfl, hT, hn, k⟩ := h
  have hu := hu_of hr
  refine ⟨_, -- _law_wait, _law_way = (_law_pick(_law_tape_here, [500, 100, 9, 300, 1 + _law_draw(_law_tape_here, 10000)]), _law_pick(_law_tape_here, ['any', 'across', 'along']))
    (C8.pss_cut (ps_par (i := 2) (j := 3) rfl sc_law_wish.nd rfl rfl (by decide) rfl rfl (pa_cons (pe_cl c_law_pick (hr.mono (by first | decide | omega)) rfl (pa_cons (pv 0) (pa_cons (pe_lst (pa_cons pe_int (pa_cons pe_int (pa_cons pe_int (pa_cons pe_int (pa_cons (pe_op op_add pe_int (pe_cl c_law_draw (hr.mono (by first | decide | omega)) rfl (pa_cons (pv 0) (pa_cons pe_int pa_nil)))) pa_nil)))))) pa_nil))) (pa_cons (pe_cl c_law_pick (hr.mono (by first | decide | omega)) rfl (pa_cons (pv 0) (pa_cons (pe_lst (pa_cons pe_str (pa_cons pe_str (pa_cons pe_str pa_nil)))) pa_nil))) pa_nil)) rfl)
    (pss_cons (ps_set (i := 4) sc_law_wish.nd rfl (Or.inl rfl) (pe_lst (pa_cons (pe_tup (pa_cons pe_str (pa_cons (pv 1) (pa_cons pe_int pa_nil)))) (pa_cons (pe_tup (pa_cons pe_str (pa_cons (pv 1) (pa_cons pe_int pa_nil)))) (pa_cons (pe_tup (pa_cons pe_str (pa_cons (pv 1) (pa_cons pe_int pa_nil)))) (pa_cons (pe_tup (pa_cons pe_str (pa_cons (pv 1) (pa_cons (pv 2) pa_nil)))) (pa_cons (pe_tup (pa_cons pe_str (pa_cons (pv 1) (pa_cons pe_int pa_nil)))) pa_nil)))))))
    (C8.pss_cut (ps_set (i := 4) sc_law_wish.nd rfl (Or.inl rfl) (pe_op op_cat (pv 4) (pe_lst (pa_cons (pe_tup (pa_cons pe_str (pa_cons (pv 1) (pa_cons (pv 3) pa_nil)))) (pa_cons (pe_tup (pa_cons pe_str (pa_cons (pv 1) (pa_cons pe_str pa_nil)))) (pa_cons (pe_tup (pa_cons pe_str (pa_cons (pv 1) pa_nil))) (pa_cons (pe_tup (pa_cons pe_str (pa_cons (pv 1) pa_nil))) (pa_cons (pe_tup pa_nil) pa_nil))))))))
    (pss_cons (ps_set (i := 5) sc_law_wish.nd rfl (Or.inl rfl) (pe_cl c_law_pick (hr.mono (by first | decide | omega)) rfl (pa_cons (pv 0) (pa_cons (pv 4) pa_nil))))
    (pss_one (ps_ret (pe_ifExp (pt_cmpR (op_neP hr.units) (pv 5) (pe_tup pa_nil) (nomark _)) (pv 5) (pe_tup (pa_cons pe_str (pa_cons (pv 1) (pa_cons (pe_cl c_law_machine (hr.mono (by first | decide | omega)) rfl (pa_cons (pv 0) (pa_cons (pe_op op_add pe_int (pe_cl c_law_draw (hr.mono (by first | decide | omega)) rfl (pa_cons (pv 0) (pa_cons pe_int pa_nil)))) pa_nil))) pa_nil))))))))))), ?_⟩
  refine ⟨fun σ Hx => ∃ (wt : Int) (wy : Str), σ = [some (.ref t), some (.str l), some (.int wt), some (.str wy), none, none] ∧ TapeAt Hx t c (n + 3) ∧ Fr [t] H Hx, ?_, ?_⟩
  · refine ⟨_, rfl, _, rfl, t, c, _, n, rfl, hT, ⟨by decide, by decide⟩, by omega, fun r H1 hr1 T1 f1 => ?_⟩
    refine ⟨_, _, rfl, rfl, (by show 5 ≤ sizeLine; decide), ?_⟩
    (intro p p0; generalize hh_ : upd _ p _ = H2; have hp := upd_is hh_; have s2 := same_is hh_ p0; clear hh_)
    refine ⟨t, c, .ref p, n + 1, _, rfl, T1.same s2, .inl ⟨p, rfl, (T1.same s2).ne_lst hp, SqL.of hp⟩, by show 1 ≤ 5; decide, by show 5 ≤ 1000; decide, by omega, fun v H3 hv T3 f3 => ?_⟩
    obtain ⟨wt, rfl⟩ : ∃ b : Int, v = .int b := by
      simp only [List.mem_cons, List.not_mem_nil, or_false] at hv
      rcases hv with rfl | rfl | rfl | rfl | rfl <;> exact ⟨_, rfl⟩
    refine ⟨_, rfl, (by show 3 ≤ sizeLine; decide), ?_⟩
    (intro q q0; generalize hh_ : upd _ q _ = H4; have hq := upd_is hh_; have s4 := same_is hh_ q0; clear hh_)
    refine ⟨t, c, .ref q, n + 2, _, rfl, T3.same s4, .inl ⟨q, rfl, (T3.same s4).ne_lst hq, SqL.of hq⟩, by show 1 ≤ 3; decide, by show 3 ≤ 1000; decide, by omega, fun v H5 hv T5 f5 => ?_⟩
    obtain ⟨wy, rfl⟩ : ∃ b : Str, v = .str b := by
      simp only [List.mem_cons, List.not_mem_nil, or_false] at hv
      rcases hv with rfl | rfl | rfl <;> exact ⟨_, rfl⟩
    exact ⟨_, _, rfl, wt, wy, rfl, T5, f1.trans ((Fr.same s2 _).trans (f3.trans ((Fr.same s4 _).trans f5)))⟩
  rintro σ Hx ⟨wt, wy, rfl, Tx, fx⟩
  refine ⟨_, rfl, (by show 3 ≤ sizeLine; decide), ?_⟩
  (intro a1 z1; generalize hh_ : upd _ a1 _ = G1; have h1 := upd_is hh_; have s1 := same_is hh_ z1; clear hh_)
  refine ⟨_, rfl, (by show 3 ≤ sizeLine; decide), ?_⟩
  (intro a2 z2; generalize hh_ : upd _ a2 _ = G2; have h2 := upd_is hh_; have s2 := same_is hh_ z2; clear hh_)
  refine ⟨_, rfl, (by show 3 ≤ sizeLine; decide), ?_⟩
  (intro a3 z3; generalize hh_ : upd _ a3 _ = G3; have h3 := upd_is hh_; have s3 := same_is hh_ z3; clear hh_)
  refine ⟨_, rfl, _, rfl, (by show 3 ≤ sizeLine; decide), ?_⟩
  (intro a4 z4; generalize hh_ : upd _ a4 _ = G4; have h4 := upd_is hh_; have s4 := same_is hh_ z4; clear hh_)
  refine ⟨_, rfl, (by show 3 ≤ sizeLine; decide), ?_⟩
  (intro a5 z5; generalize hh_ : upd _ a5 _ = G5; have h5 := upd_is hh_; have s5 := same_is hh_ z5; clear hh_)
  refine ⟨(by show 5 ≤ sizeLine; decide), ?_⟩
  (intro p p0; generalize hh_ : upd _ p _ = G6; have hp := upd_is hh_; have s6 := same_is hh_ p0; clear hh_)
  refine ⟨fun σ Hy => ∃ (p : Addr) (xs : List V), σ = [some (.ref t), some (.str l), some (.int wt), some (.str wy), some (.ref p), none] ∧ Hy p = some (.lst xs) ∧ xs.length = 10 ∧ Same Hx Hy ∧ ∀ v ∈ xs, ∃ a, v = .ref a ∧ ((∃ W : Wi, W.ok ∧ Hy a = some (.tup (W.row l))) ∨ Hy a = some (.tup [])), ?_, ?_⟩
  · refine ⟨_, rfl, _, rfl, _, rfl, (by show 3 ≤ sizeLine; decide), ?_⟩
    (intro a6 z6; generalize hh_ : upd _ a6 _ = G7; have h6 := upd_is hh_; have s7 := same_is hh_ z6; clear hh_)
    refine ⟨_, rfl, (by show 3 ≤ sizeLine; decide), ?_⟩
    (intro a7 z7; generalize hh_ : upd _ a7 _ = G8; have h7 := upd_is hh_; have s8 := same_is hh_ z7; clear hh_)
    refine ⟨_, rfl, (by show 2 ≤ sizeLine; decide), ?_⟩
    (intro a8 z8; generalize hh_ : upd _ a8 _ = G9; have h8 := upd_is hh_; have s9 := same_is hh_ z8; clear hh_)
    refine ⟨_, rfl, (by show 2 ≤ sizeLine; decide), ?_⟩
    (intro a9 z9; generalize hh_ : upd _ a9 _ = Ga; have h9 := upd_is hh_; have sa := same_is hh_ z9; clear hh_)
    refine ⟨(by show 0 ≤ sizeLine; decide), ?_⟩
    (intro ab zb; generalize hh_ : upd _ ab _ = Gb; have hb := upd_is hh_; have sb := same_is hh_ zb; clear hh_)
    refine ⟨(by show 5 ≤ sizeLine; decide), ?_⟩
    (intro q q0; generalize hh_ : upd _ q _ = Gc; have hq := upd_is hh_; have sc := same_is hh_ q0; clear hh_)
    refine ⟨p, q, _, _, rfl, rfl, (s7.trans (s8.trans (s9.trans (sa.trans (sb.trans sc))))) _ _ hp, hq, (by show 10 ≤ sizeLine; decide), ?_⟩
    (intro r r0; generalize hh_ : upd _ r _ = Gd; have hrr := upd_is hh_; have sd := same_is hh_ r0; clear hh_)
    have tcd := sc.trans sd
    have tbd := sb.trans tcd
    have tad := sa.trans tbd
    have t9d := s9.trans tad
    have t8d := s8.trans t9d
    have t7d := s7.trans t8d
    have t6d := s6.trans t7d
    have t5d := s5.trans t6d
    have t4d := s4.trans t5d
    have t3d := s3.trans t4d
    have t2d := s2.trans t3d
    refine ⟨r, _, rfl, hrr, rfl, s1.trans t2d, fun v hv => ?_⟩
    simp only [List.mem_cons, List.mem_append, List.not_mem_nil, or_false] at hv
    rcases hv with (rfl | rfl | rfl | rfl | rfl) | rfl | rfl | rfl | rfl | rfl
    · exact ⟨_, rfl, .inl ⟨.tap 1, ⟨by decide, by decide⟩, t2d _ _ h1⟩⟩
    · exact ⟨_, rfl, .inl ⟨.tap 2, ⟨by decide, by decide⟩, t3d _ _ h2⟩⟩
    · exact ⟨_, rfl, .inl ⟨.tap 3, ⟨by decide, by decide⟩, t4d _ _ h3⟩⟩
    · exact ⟨_, rfl, .inl ⟨.press wt, trivial, t5d _ _ h4⟩⟩
    · exact ⟨_, rfl, .inl ⟨.press 500, trivial, t6d _ _ h5⟩⟩
    · exact ⟨_, rfl, .inl ⟨.pull wy, trivial, t8d _ _ h6⟩⟩
    · exact ⟨_, rfl, .inl ⟨.pull "any", trivial, t9d _ _ h7⟩⟩
    · exact ⟨_, rfl, .inl ⟨.spread, trivial, tad _ _ h8⟩⟩
    · exact ⟨_, rfl, .inl ⟨.turn, trivial, tbd _ _ h9⟩⟩
    · exact ⟨_, rfl, .inr (tcd _ _ hb)⟩
  rintro σ Hy ⟨p, xs, rfl, hp, lx, sy, hx⟩
  have Ty := Tx.same sy
  refine ⟨_, rfl, _, rfl, t, c, .ref p, n + 3, xs, rfl, Ty, .inl ⟨p, rfl, Ty.ne_lst hp, SqL.of hp⟩, by omega, by omega, by omega, fun v H3 hv T3 f3 => ?_⟩
  obtain ⟨a, rfl, ha⟩ := hx v hv
  have f03 := fx.trans ((Fr.same sy _).trans f3)
  refine ⟨_, rfl, (by show 0 ≤ sizeLine; decide), ?_⟩
  (intro e e0; generalize hh_ : upd _ e _ = H4; have he := upd_is hh_; have s4 := same_is hh_ e0; clear hh_)
  have T4 := T3.same s4
  have f04 := f03.trans (Fr.same s4 _)
  have Te : Im H4 (.ref e) (.tuple []) := .tup he .nil
  rcases ha with ⟨W, ok, ha⟩ | ha
  · have h3 := s4 _ _ (f3 _ _ ha (not_in_one (Ty.ne_tup ha)))
    have Ia := W.im h3
    refine ⟨_, _, Ia.dp, Te.dp, Ia.plain, rfl, (by show min _ 1 ≤ 64; omega), _, rfl, ?_⟩
    rw [W.not_nil]
    refine iteT ⟨_, rfl, k a H4 (T4.mono (by omega)) f04 (.inl ⟨W, ok, h3⟩)⟩
  · have h3 := s4 _ _ (f3 _ _ ha (not_in_one (Ty.ne_tup ha)))
    refine ⟨_, _, (Im.tup h3 .nil).dp, Te.dp, rfl, rfl, (by decide), _, rfl, ?_⟩
    refine iteF ⟨_, rfl, _, rfl, _, rfl, t, c, 5, _, rfl, T4, ⟨by decide, by decide⟩, by omega, fun r H5 hr5 T5 f5 => ?_⟩
    refine ⟨_, _, rfl, rfl, t, c, (1 + r).toNat, _, ?_, T5, ⟨by omega, by omega⟩, by omega, fun x sts H6 T6 f6 _ _ _ _ _ _ => ⟨(by show 3 ≤ sizeLine; decide), ?_⟩⟩
    · show [V.ref t, V.int (1 + r)] = _
      rw [show (((1 + r).toNat : Nat) : Int) = 1 + r by omega]
    (intro b b0; generalize hh_ : upd _ b _ = H7; have hb := upd_is hh_; have s7 := same_is hh_ b0; clear hh_)
    exact k b H7 ((T6.same s7).mono (by omega)) (f04.trans (f5.trans (f6.trans (Fr.same s7 _)))) (.inr ⟨x, hb⟩)
end
end SG
namespace SG
open PySem PySem.Spec PyProof.Rows L2
mutual
def few : PyData → Bool
  | .list xs | .tuple xs => decide (xs.length ≤ 1000) && fewAll xs
  | _ => true
def fewAll : List PyData → Bool
  | [] => true
  | x :: xs => few x && fewAll xs
end
theorem few_mem : ∀ {ds : List PyData} {d : PyData}, fewAll ds = true → d ∈ ds → few d = true
  | [], _, _, h => by cases h
  | e :: ds, d, f, h => by
    have f' : (few e && fewAll ds) = true := f
    rw [Bool.and_eq_true] at f'
    rcases List.mem_cons.mp h with rfl | h
    · exact f'.1
    · exact few_mem f'.2 h
/-- the same data twice is alike -/
def spAlike (K : PySem.W.Frag) (n : Nat) : Sp := fun vs H Q _ => ∃ (x y : V) (d : PyData), vs = [x, y] ∧ Dp K H x d ∧ Dp K H y d ∧ d.depth < n ∧ few d = true ∧ ∀ H', Same H H' → Q (.bl true) H'
section
variable {P : Program} {w : World} {K : PySem.W.Frag} {mg : Str → Option Value} {base : Heap}
theorem ok_alike {n : Nat} (D : Df K mg "_law_alike" s_law_alike ["_law_found", "_law_due"]) (T : Txt K mg) (c_law_alike : Cl P w K mg base n "_law_alike" (spAlike K n)) : Cl P w K mg base (n + 1) "_law_alike" (spAlike K (n + 1)) := by
  refine D.ok sc_law_alike (fun vs H Q E h => ?_) (fun f cdv A outer s H vs Q E hr h => ?_)
  · obtain ⟨_, _, _, rfl, _⟩ := h
    rfl
  obtain ⟨x, y, d, rfl, hx, hy, hd, hf, k⟩ := h
  have hu := hu_of hr
  refine ⟨_, -- if isinstance(_law_due, (tuple, list)):
    (pss_cons (ps_if (pt_val (pe_callB call_isiT (by rfl) T.m_isinstance (by decide +kernel) (pa_cons (pv 1) (pa_cons (pe_tup (pa_cons (pe_bltn (v := .ty "tuple") (u := .type "tuple") (by rfl) T.m_tuple (by decide +kernel) rfl) (pa_cons (pe_bltn (v := .ty "list") (u := .type "list") (by rfl) T.m_list (by decide +kernel) rfl) pa_nil))) pa_nil))))
      (pss_cons (ps_setLc (i := 2) (own := [("_law_one", 3)]) rfl sc_law_alike.nd rfl rfl (sw_true rfl rfl rfl (by decide +kernel)) (pi_tup (pe_tup (pa_cons (pv 0) (pa_cons (pv 1) pa_nil)))) (blkOk_by (N := N_law_alike) (sc := defScope s_law_alike) (by decide +kernel)) (fun _ _ _ _ _ => (pg_name (i := 3) sc_law_alike.nd rfl (Or.inl rfl))) (fun _ _ _ _ _ => pts_nil) (fun _ _ _ _ _ => (pe_tup (pa_cons (pe_callB (r := rIsD K "tuple" PyData.isTuple) call_isTup (by rfl) T.m_isinstance (by decide +kernel) (pa_cons (pv 3) (pa_cons (pe_bltn (v := .ty "tuple") (u := .type "tuple") (by rfl) T.m_tuple (by decide +kernel) rfl) pa_nil))) (pa_cons (pe_callB (r := rIsD K "list" PyData.isList) call_isList (by rfl) T.m_isinstance (by decide +kernel) (pa_cons (pv 3) (pa_cons (pe_bltn (v := .ty "list") (u := .type "list") (by rfl) T.m_list (by decide +kernel) rfl) pa_nil))) pa_nil)))))
      (pss_cons (ps_if (PW.pt (pw_or (pt_cmpR (op_neP hr.units) (pe_ix ix_list (pv 2) pe_int (fun _ _ => rfl)) (pe_ix ix_list (pv 2) pe_int (fun _ _ => rfl)) (nomark _)) (pw_or1 (pt_cmpR op_ne (pe_callB call_len_seq (by rfl) T.m_len PySem.boot_len (pa_cons (pv 0) pa_nil)) (pe_callB call_len_seq (by rfl) T.m_len PySem.boot_len (pa_cons (pv 1) pa_nil)) (nomark _)))))
        (pss_one (ps_ret pe_bl))
        pss_nil)
      (pss_one (ps_ret (pe_callB (cr_all rfl) (by rfl) T.m_all (by decide +kernel) (pa_cons (pe_lc (own := [("_law_one", 3), ("_law_other", 4)]) rfl sc_law_alike.nd (RZ.pi_zipA rfl T.m_zip (pa_cons (pv 0) (pa_cons (pv 1) pa_nil))) (blkOk_by (N := N_law_alike) (sc := defScope s_law_alike) (by decide +kernel)) (fun _ _ _ _ _ => (pg_two (K := K) (i := 3) (j := 4) rfl rfl sc_law_alike.nd rfl rfl (Or.inl rfl) (Or.inl rfl))) (fun _ _ _ _ _ => pts_nil) (fun _ _ _ _ _ => (pe_cl c_law_alike (hr.mono (by first | decide | omega)) rfl (pa_cons (pv 3) (pa_cons (pv 4) pa_nil))))) pa_nil))))))
      pss_nil)
    (pss_cons (ps_if (pt_val (pe_callB call_isiT (by rfl) T.m_isinstance (by decide +kernel) (pa_cons (pv 1) (pa_cons (pe_tup (pa_cons (pe_bltn (v := .ty "bool") (u := .type "bool") (by rfl) T.m_bool (by decide +kernel) rfl) (pa_cons (pe_bltn (v := .ty "int") (u := .type "int") (by rfl) T.m_int (by decide +kernel) rfl) pa_nil))) pa_nil))))
      (pss_one (ps_ret (pe_and (pe_callB call_isInt (by rfl) T.m_isinstance (by decide +kernel) (pa_cons (pv 0) (pa_cons (pe_bltn (v := .ty "int") (u := .type "int") (by rfl) T.m_int (by decide +kernel) rfl) pa_nil))) (pe_and (pe_cmpR op_eq (pe_callB call_isBool (by rfl) T.m_isinstance (by decide +kernel) (pa_cons (pv 0) (pa_cons (pe_bltn (v := .ty "bool") (u := .type "bool") (by rfl) T.m_bool (by decide +kernel) rfl) pa_nil))) (pe_callB call_isBool (by rfl) T.m_isinstance (by decide +kernel) (pa_cons (pv 1) (pa_cons (pe_bltn (v := .ty "bool") (u := .type "bool") (by rfl) T.m_bool (by decide +kernel) rfl) pa_nil))) (nomark _)) (pe_one (pe_cmpR op_eq (pv 0) (pv 1) (nomark _)))))))
      pss_nil)
    (pss_one (ps_ret (pe_ifExp (pt_cmp (pc_isN (pv 1))) (pe_cmp (pc_isN (pv 0))) (pe_and (pe_callB call_isStr (by rfl) T.m_isinstance (by decide +kernel) (pa_cons (pv 0) (pa_cons (pe_bltn (v := .ty "str") (u := .type "str") (by rfl) T.m_str (by decide +kernel) rfl) pa_nil))) (pe_and (pe_callB call_isStr (by rfl) T.m_isinstance (by decide +kernel) (pa_cons (pv 1) (pa_cons (pe_bltn (v := .ty "str") (u := .type "str") (by rfl) T.m_str (by decide +kernel) rfl) pa_nil))) (pe_one (pe_cmpR op_eq (pv 0) (pv 1) (nomark _)))))))))), ?_⟩
  refine ⟨_, rfl, (by show 2 ≤ sizeLine; decide), ?_⟩
  (intro tp tp0; generalize hh_ : upd _ tp _ = H1; have htp := upd_is hh_; have s1 := same_is hh_ tp0; clear hh_)
  have hx1 : Dp K H1 x d := Dp.same s1 hx
  have hy1 : Dp K H1 y d := Dp.same s1 hy
  refine ⟨y, tp, _, _, _, _, rfl, htp, .cons (.ty _) (.cons (.ty _) .nil), tyx_dp hy1, kit_tl K d, ?_⟩
  refine ⟨_, rfl, ite2 (fun c => ?_) fun c => ?_⟩
  · have ff : ∀ {ds : List PyData}, (decide (ds.length ≤ 1000) && fewAll ds) = true → ds.length ≤ 1000 ∧ fewAll ds = true := fun h => by
      rw [Bool.and_eq_true] at h; exact ⟨of_decide_eq_true h.1, h.2⟩
    have sq : ∃ (a b : Addr) (xs ys : List V) (ds : List PyData), x = .ref a ∧ y = .ref b ∧ DpAll K H1 xs ds ∧ DpAll K H1 ys ds ∧ (ds.length ≤ 1000 ∧ ∀ e ∈ ds, e.depth < n ∧ few e = true) ∧ ((SqL K H1 a xs ∧ SqL K H1 b ys) ∨ (SqT K H1 a xs ∧ SqT K H1 b ys)) := by
      cases d with
      | list ds =>
        cases hx1 with
        | lst h1 h2 =>
          cases hy1 with
          | lst h3 h4 => exact ⟨_, _, _, _, ds, rfl, rfl, h2, h4, ⟨(ff hf).1, fun e he => ⟨by have := depth_mem he; have hd' : PyData.depthAll ds + 1 < n + 1 := hd; omega, few_mem (ff hf).2 he⟩⟩, .inl ⟨h1, h3⟩⟩
      | tuple ds =>
        cases hx1 with
        | tup h1 h2 =>
          cases hy1 with
          | tup h3 h4 => exact ⟨_, _, _, _, ds, rfl, rfl, h2, h4, ⟨(ff hf).1, fun e he => ⟨by have := depth_mem he; have hd' : PyData.depthAll ds + 1 < n + 1 := hd; omega, few_mem (ff hf).2 he⟩⟩, .inr ⟨h1, h3⟩⟩
      | _ => cases c
    obtain ⟨a, b, xs, ys, ds, rfl, rfl, hxs, hys, ⟨dl, dn⟩, hsq⟩ := sq
    have lx := DpAll.len hxs
    have ly := DpAll.len hys
    refine ⟨_, rfl, _, rfl, (by show 2 ≤ sizeLine; decide), ?_⟩
    (intro pr pr0; generalize hh_ : upd _ pr _ = H2; have hpr := upd_is hh_; have s2 := same_is hh_ pr0; clear hh_)
    have hx2 : Dp K H2 (.ref a) d := Dp.same s2 hx1
    have hy2 : Dp K H2 (.ref b) d := Dp.same s2 hy1
    refine ⟨pr, rfl, ⟨_, SqT.of hpr⟩, fun D hD => ?_⟩
    refine lc_tup (K := K) (a := pr) (xs := [.ref a, .ref b]) (fun i Hx => ∃ qs : List Addr, Hx D = some (.lst (qs.map V.ref)) ∧ qs.length = i ∧ (∀ q ∈ qs, Hx q = some (.tup [.bl d.isTuple, .bl d.isList])) ∧ Same H2 Hx) ?_ (fun i Hx _ ⟨_, _, _, _, z⟩ => SqT.of (z _ _ hpr)) ?_ ?_
    · exact ⟨[], upd_same, rfl, fun q hq => (by cases hq), same_new hD⟩
    · rintro i v Hx hv ⟨qs, q1, q2, q3, q4⟩
      have dv : Dp K Hx v d := by
        match i, hv with
        | 0, hv => cases hv; exact Dp.same q4 hx2
        | 1, hv => cases hv; exact Dp.same q4 hy2
      refine ⟨rfl, ?_⟩
      refine ⟨_, rfl, _, d, rfl, dv, _, rfl, _, d, rfl, dv, (by show 2 ≤ sizeLine; decide), ?_⟩
      (intro q q0; generalize hh_ : upd _ q _ = H3; have hq := upd_is hh_; have s3 := same_is hh_ q0; clear hh_)
      refine ⟨_, s3 _ _ q1, small100 (by rw [List.length_map]; have := (List.getElem?_eq_some_iff.mp hv).1; simp at this; omega), qs ++ [q], ?_, by simp [q2], ?_, fun p o e => ?_⟩
      · rw [upd_same, List.map_append]; rfl
      · intro z hz
        have zD : z ≠ D := by
          rintro rfl
          rcases List.mem_append.mp hz with hz | hz
          · have := q3 _ hz; rw [q1] at this; cases this
          · rw [List.mem_singleton.mp hz] at q1; rw [q0] at q1; cases q1
        rw [upd_ne zD]
        rcases List.mem_append.mp hz with hz | hz
        · exact s3 _ _ (q3 _ hz)
        · rw [List.mem_singleton.mp hz]; exact hq
      · rw [upd_ne (ne_of_none e hD)]; exact s3 _ _ (q4 _ _ e)
    · rintro Hx ⟨qs, q1, q2, q3, q4⟩
      match qs, q2 with
      | [p0, p1], _ =>
      have d0 : Dp K Hx (.ref p0) (.tuple [.bool d.isTuple, .bool d.isList]) := .tup (SqT.of (q3 p0 (by simp))) (.cons (.bl _) (.cons (.bl _) .nil))
      have d1 : Dp K Hx (.ref p1) (.tuple [.bool d.isTuple, .bool d.isList]) := .tup (SqT.of (q3 p1 (by simp))) (.cons (.bl _) (.cons (.bl _) .nil))
      have s1x := s2.trans q4
      have hsx : (SqL K Hx a xs ∧ SqL K Hx b ys) ∨ (SqT K Hx a xs ∧ SqT K Hx b ys) := hsq.imp (fun ⟨h1, h2⟩ => ⟨s1x.seq h1, s1x.seq h2⟩) (fun ⟨h1, h2⟩ => ⟨Same.tup s1x h1, Same.tup s1x h2⟩)
      have hsa : SqL K Hx a xs ∨ SqT K Hx a xs := hsx.imp (·.1) (·.1)
      have hsb : SqL K Hx b ys ∨ SqT K Hx b ys := hsx.imp (·.2) (·.2)
      refine ⟨_, rfl, D, _, 0, _, rfl, rfl, SqL.of q1, atI_nat (j := 0) rfl, _, rfl, D, _, 1, _, rfl, rfl, SqL.of q1, atI_nat (j := 1) rfl, _, _, d0, d1, rfl, rfl, (by show min 1 1 ≤ 64; decide), _, rfl, ?_⟩
      rw [SeqAt.eqv_refl_plain _ rfl]
      refine iteF ⟨_, rfl, a, xs, rfl, hsa, _, rfl, b, ys, rfl, hsb, rfl, _, rfl, ?_⟩
      rw [lx, ly, decide_eq_true rfl]
      refine iteF ?_
      have step : ∀ (i : Nat) (v1 v2 : V) (Hw : Hp), Same H1 Hw → xs[i]? = some v1 → ys[i]? = some v2 → ∃ e, Dp K Hw v1 e ∧ Dp K Hw v2 e ∧ e.depth < n ∧ few e = true := fun i v1 v2 Hw sw h1 h2 => by
        have il : i < ds.length := by rw [← lx]; exact (List.getElem?_eq_some_iff.mp h1).1
        obtain ⟨w1, e1, k1⟩ := DpAll.get hxs (i := i) (d := ds[i]) (List.getElem?_eq_getElem il)
        obtain ⟨w2, e2, k2⟩ := DpAll.get hys (i := i) (d := ds[i]) (List.getElem?_eq_getElem il)
        rw [h1] at e1; rw [h2] at e2
        cases e1; cases e2
        exact ⟨ds[i], Dp.same sw k1, Dp.same sw k2, dn _ (List.getElem_mem il)⟩
      have lxy : xs.length = ys.length := lx.trans ly.symm
      have f01 := s1.trans s1x
      have body : ∀ (D2 : Addr) (i : Nat) (v1 v2 : V) (T : Addr) (Hw : Hp), Hx D2 = none → xs[i]? = some v1 → ys[i]? = some v2 → (Hw D2 = some (.lst ((List.replicate i true).map V.bl)) ∧ Same Hx Hw) → Hw T = none →
          ∃ e, Dp K (upd Hw T (.tup [v1, v2])) v1 e ∧ Dp K (upd Hw T (.tup [v1, v2])) v2 e ∧ e.depth < n ∧ few e = true ∧ ∀ H', Same (upd Hw T (.tup [v1, v2])) H' → ∃ acc, H' D2 = some (.lst acc) ∧ acc.length < sizeLine ∧ ((upd H' D2 (.lst (acc ++ [.bl true]))) D2 = some (.lst ((List.replicate (i + 1) true).map V.bl)) ∧ Same Hx (upd H' D2 (.lst (acc ++ [.bl true])))) := by
        intro D2 i v1 v2 T Hw hD2 h1 h2 ⟨g1, g2⟩ hT
        obtain ⟨e, e1, e2, e3, e4⟩ := step i v1 v2 (upd Hw T (.tup [v1, v2])) (s1x.trans (g2.trans (same_new hT))) h1 h2
        refine ⟨e, e1, e2, e3, e4, fun H' s' => ⟨_, s' _ _ (same_new hT _ _ g1), ?_, ?_, fun p o ep => ?_⟩⟩
        · rw [List.length_map, List.length_replicate]
          have := (List.getElem?_eq_some_iff.mp h1).1
          have big : 1001 ≤ sizeLine := by decide
          omega
        · rw [upd_same, List.replicate_succ', List.map_append]; rfl
        · rw [upd_ne (ne_of_none ep hD2)]
          exact s' _ _ (same_new hT _ _ (g2 _ _ ep))
      have last : ∀ (D2 : Addr) (Hw : Hp), Hw D2 = some (.lst ((List.replicate xs.length true).map V.bl)) ∧ Same Hx Hw → rAll K [.ref D2] Hw (fun v H' => Q v H') := fun D2 Hw ⟨g1, g2⟩ => by
        refine ⟨D2, _, rfl, SqL.of g1, ?_⟩
        have ea : (List.replicate xs.length true).all id = true := by
          rw [List.all_eq_true]; intro z hz; rw [(List.mem_replicate.mp hz).2]; rfl
        rw [ea]
        exact k Hw (f01.trans g2)
      refine ⟨_, rfl, _, rfl, a, b, xs, ys, rfl, ?_⟩
      rcases hsx with ⟨h1, h2⟩ | ⟨h1, h2⟩
      · refine .inl ⟨h1, h2, fun D2 hD2 => ?_⟩
        refine lc_zipL lxy (fun i Hw => Hw D2 = some (.lst ((List.replicate i true).map V.bl)) ∧ Same Hx Hw) ⟨upd_same, same_new hD2⟩ (fun i Hw ⟨_, z⟩ => ⟨z.seq h1, z.seq h2⟩) ?_ ?_
        · intro i v1 v2 T Hw e1 e2 p hT
          obtain ⟨e, b1, b2, b3, b4, b5⟩ := body D2 i v1 v2 T Hw hD2 e1 e2 p hT
          refine ⟨T, _, rfl, SqT.of upd_same, rfl, _, _, rfl, _, _, rfl, rfl, rfl, ?_⟩
          exact ⟨_, rfl, _, rfl, _, _, e, rfl, b1, b2, b3, b4, b5⟩
        · intro Hw p
          exact last D2 Hw p
      · refine .inr ⟨h1, h2, fun D2 hD2 => ?_⟩
        refine lc_zipT lxy (fun i Hw => Hw D2 = some (.lst ((List.replicate i true).map V.bl)) ∧ Same Hx Hw) ⟨upd_same, same_new hD2⟩ (fun i Hw ⟨_, z⟩ => ⟨Same.tup z h1, Same.tup z h2⟩) ?_ ?_
        · intro i v1 v2 T Hw e1 e2 p hT
          obtain ⟨e, b1, b2, b3, b4, b5⟩ := body D2 i v1 v2 T Hw hD2 e1 e2 p hT
          refine ⟨T, _, rfl, SqT.of upd_same, rfl, _, _, rfl, _, _, rfl, rfl, rfl, ?_⟩
          exact ⟨_, rfl, _, rfl, _, _, e, rfl, b1, b2, b3, b4, b5⟩
        · intro Hw p
          exact last D2 Hw p
  · refine ⟨_, rfl, (by show 2 ≤ sizeLine; decide), ?_⟩
    (intro tq tq0; generalize hh_ : upd _ tq _ = H2; have htq := upd_is hh_; have s2 := same_is hh_ tq0; clear hh_)
    have hx2 : Dp K H2 x d := Dp.same s2 hx1
    have hy2 : Dp K H2 y d := Dp.same s2 hy1
    refine ⟨y, tq, _, _, _, _, rfl, htq, .cons (.ty _) (.cons (.ty _) .nil), tyx_dp hy2, kit_bi K d, ?_⟩
    have fin := k H2 (s1.trans s2)
    cases d with
    | none =>
      cases hx2; cases hy2
      refine ⟨_, rfl, iteF ⟨_, rfl, _, rfl, iteT ⟨_, rfl, fin⟩⟩⟩
    | bool b =>
      cases hx2; cases hy2
      refine ⟨_, rfl, iteT ⟨_, rfl, _, .bool b, rfl, .bl b, _, rfl, iteT ⟨_, rfl, _, .bool b, rfl, .bl b, _, rfl, _, .bool b, rfl, .bl b, rfl, _, rfl, iteT ⟨_, rfl, _, rfl, rfl, ?_⟩⟩⟩⟩
      rw [decide_eq_true rfl]; exact fin
    | int i =>
      cases hx2; cases hy2
      refine ⟨_, rfl, iteT ⟨_, rfl, _, .int i, rfl, .int i, _, rfl, iteT ⟨_, rfl, _, .int i, rfl, .int i, _, rfl, _, .int i, rfl, .int i, rfl, _, rfl, iteT ⟨_, rfl, _, rfl, rfl, ?_⟩⟩⟩⟩
      rw [decide_eq_true rfl]; exact fin
    | str z =>
      cases hx2; cases hy2
      refine ⟨_, rfl, iteF ⟨_, rfl, _, rfl, iteF ⟨_, rfl, _, .str z, rfl, .str z, _, rfl, iteT ⟨_, rfl, _, .str z, rfl, .str z, _, rfl, iteT ⟨_, rfl, _, rfl, rfl, ?_⟩⟩⟩⟩⟩
      rw [decide_eq_true rfl]; exact fin
    | list ds => simp [PyData.isTuple, PyData.isList] at c
    | tuple ds => simp [PyData.isTuple, PyData.isList] at c
    | dict ds => cases hx2
theorem all_alike (D : Df K mg "_law_alike" s_law_alike ["_law_found", "_law_due"]) (T : Txt K mg) : ∀ n : Nat, Cl P w K mg base n "_law_alike" (spAlike K n)
  | 0 => (D.none fun _ _ _ _ h => by obtain ⟨_, _, _, _, _, _, z, _⟩ := h; exact absurd z (Nat.not_lt_zero _))
  | n + 1 => ok_alike D T (all_alike D T n)
end
end SG
namespace SG
open PySem PySem.Spec PyProof.Rows L2
def spLPlain (K : PySem.W.Frag) : Sp := fun vs H Q _ => ∃ (W : Wi) (l : Str) (a : Addr) (x y m f g r : Int), vs = [.ref a, .int x, .int y, .int m, .int f, .int g, .int r] ∧ H a = some (.tup (W.row l)) ∧ W.ok ∧ Told H (W.pl x y m f g r) Q
def thD (q1 q2 q3 : Addr) : List (Key × V) := [(Sum.inr "pull", .ref q1), (Sum.inr "spread", .ref q2), (Sum.inr "turn", .ref q3)]
theorem th12 : ¬ ("pull" : Str) = ("spread" : Str) := by decide +kernel
theorem th13 : ¬ ("pull" : Str) = ("turn" : Str) := by decide +kernel
theorem th23 : ¬ ("spread" : Str) = ("turn" : Str) := by decide +kernel
theorem tk12 : ¬ (Sum.inr ("pull" : Str) : Key) = Sum.inr ("spread" : Str) := by decide +kernel
theorem tk13 : ¬ (Sum.inr ("pull" : Str) : Key) = Sum.inr ("turn" : Str) := by decide +kernel
theorem tk23 : ¬ (Sum.inr ("spread" : Str) : Key) = Sum.inr ("turn" : Str) := by decide +kernel
theorem th_is (q1 q2 q3 : Addr) : mergeK [] [((Sum.inr ("pull" : Str) : Key), V.ref q1), (Sum.inr ("spread" : Str), .ref q2), (Sum.inr ("turn" : Str), .ref q3)] = thD q1 q2 q3 := by
  simp [mergeK, putK, thD, th12, th13, th23]
theorem th_get1 {H : Hp} {p q1 q2 q3 : Addr} (h : H p = some (.dK (thD q1 q2 q3))) : DGet H p (.str "pull") (some (.ref q1)) := DGet.k (k := Sum.inr "pull") h
theorem th_get2 {H : Hp} {p q1 q2 q3 : Addr} (h : H p = some (.dK (thD q1 q2 q3))) : DGet H p (.str "spread") (some (.ref q2)) := by
  have e : valV (thD q1 q2 q3) (Sum.inr ("spread" : Str) : Key) = some (.ref q2) := by
    unfold thD
    rw [valV_neg tk12, valV_pos rfl]
  have q := DGet.k (k := Sum.inr "spread") h
  rw [e] at q
  exact q
theorem th_get3 {H : Hp} {p q1 q2 q3 : Addr} (h : H p = some (.dK (thD q1 q2 q3))) : DGet H p (.str "turn") (some (.ref q3)) := by
  have e : valV (thD q1 q2 q3) (Sum.inr ("turn" : Str) : Key) = some (.ref q3) := by
    unfold thD
    rw [valV_neg tk13, valV_neg tk23, valV_pos rfl]
  have q := DGet.k (k := Sum.inr "turn") h
  rw [e] at q
  exact q
section
variable {P : Program} {w : World} {K : PySem.W.Frag} {mg : Str → Option Value} {base : Heap}
theorem ok_lplain (D : Df K mg "_law_plain" s_law_plain ["_law_wish_here", "_law_x", "_law_y", "_law_moment", "_law_one", "_law_two", "_law_reach"]) (T : Txt K mg) (cplainK : ClK P w K mg base 2 "plain" 5 ["slop"] (spPlain K)) : Cl P w K mg base 3 "_law_plain" (spLPlain K) := by
  refine D.ok sc_law_plain (fun vs H Q E h => ?_) (fun f cdv A outer s H vs Q E hr h => ?_)
  · obtain ⟨_, _, _, _, _, _, _, _, _, rfl, _⟩ := h
    rfl
  obtain ⟨W, l, a, x, y, m, f, g, r, rfl, ha, ok, k⟩ := h
  have hu := hu_of hr
  refine ⟨_, -- _law_kind = _law_wish_here[0]
    (pss_cons (ps_set (i := 7) sc_law_plain.nd rfl (Or.inl rfl) (pe_ix ix_tup (pv 0) pe_int (fun _ _ => rfl)))
    (pss_cons (ps_if (pt_cmpR op_eq (pv 7) pe_str (nomark _))
      (pss_one (ps_ret (pe_clK cplainK (hr.mono (by first | decide | omega)) rfl (pa_cons (pv 0) (pa_cons (pv 1) (pa_cons (pv 2) (pa_cons (pv 3) (pa_cons (pe_tup (pa_cons (pv 4) (pa_cons (pv 5) pa_nil))) pa_nil))))) (pk_cons (pv 6) pk_nil))))
      pss_nil)
    (pss_cons (ps_if (pt_cmpR op_eq (pv 7) pe_str (nomark _))
      (pss_cons (ps_setLc (i := 8) (own := [("_law_k", 11)]) rfl sc_law_plain.nd rfl rfl (sw_true rfl rfl rfl (by decide +kernel)) (pi_range1 rfl T.m_range (pa_cons (pe_ix ix_tup (pv 0) pe_int (fun _ _ => rfl)) pa_nil)) (blkOk_by (N := N_law_plain) (sc := defScope s_law_plain) (by decide +kernel)) (fun _ _ _ _ _ => (pg_name (i := 11) sc_law_plain.nd rfl (Or.inl rfl))) (fun _ _ _ _ _ => pts_nil) (fun _ _ _ _ _ => (pe_lst (pa_cons (pe_tup (pa_cons (pe_op op_add (pv 3) (pe_op op_mul pe_int (pv 11))) (pa_cons (pv 4) (pa_cons pe_str (pa_cons (pv 1) (pa_cons (pv 2) pa_nil)))))) (pa_cons (pe_tup (pa_cons (pe_op op_add (pe_op op_add (pv 3) (pe_op op_mul pe_int (pv 11))) pe_int) (pa_cons (pv 4) (pa_cons pe_str (pa_cons (pv 1) (pa_cons (pv 2) pa_nil)))))) pa_nil)))))
      (pss_one (ps_ret (pe_callB call_sumL (by rfl) T.m_sum (by decide +kernel) (pa_cons (pv 8) (pa_cons (pe_lst pa_nil) pa_nil))))))
      pss_nil)
    (pss_cons (ps_if (pt_cmpR op_eq (pv 7) pe_str (nomark _))
      (pss_one (ps_ret (pe_lst (pa_cons (pe_tup (pa_cons (pv 3) (pa_cons (pv 4) (pa_cons pe_str (pa_cons (pv 1) (pa_cons (pv 2) pa_nil)))))) (pa_cons (pe_tup (pa_cons (pe_op op_add (pe_op op_add (pv 3) (pe_ix ix_tup (pv 0) pe_int (fun _ _ => rfl))) pe_int) (pa_cons (pv 4) (pa_cons pe_str (pa_cons (pv 1) (pa_cons (pv 2) pa_nil)))))) pa_nil)))))
      pss_nil)
    (pss_cons (ps_set (i := 9) sc_law_plain.nd rfl (Or.inl rfl) (pe_dget hu (pe_disp (pps_cons pe_str (pe_tup (pa_cons (pe_op op_add (pe_op op_add (pv 1) (pv 6)) pe_int) (pa_cons (pv 2) pa_nil))) (pps_cons pe_str (pe_tup (pa_cons (pe_op op_add (pv 1) pe_int) (pa_cons (pv 2) pa_nil))) (pps_cons pe_str (pe_tup (pa_cons (pv 1) (pa_cons (pe_op op_add (pv 2) pe_int) pa_nil))) pps_nil))) rfl rfl (by decide) (by decide)) (pv 7) (fun _ _ => rfl)))
    (pss_cons (ps_if (pt_cmpR op_eq (pv 7) pe_str (nomark _))
      (C8.pss_cut (ps_set (i := 9) sc_law_plain.nd rfl (Or.inl rfl) (pe_ifExp (pt_cmpR op_eq (pe_ix ix_tup (pv 0) pe_int (fun _ _ => rfl)) pe_str (nomark _)) (pe_tup (pa_cons (pv 1) (pa_cons (pe_op op_add (pe_op op_add (pv 2) (pv 6)) pe_int) pa_nil))) (pv 9)))
      (pss_one (ps_ret (pe_lst (pa_cons (pe_tup (pa_cons (pv 3) (pa_cons (pv 4) (pa_cons pe_str (pa_cons (pv 1) (pa_cons (pv 2) pa_nil)))))) (pa_cons (pe_op op_catA (pe_tup (pa_cons (pe_op op_add (pv 3) pe_int) (pa_cons (pv 4) (pa_cons pe_str pa_nil)))) (pv 9)) (pa_cons (pe_op op_catA (pe_tup (pa_cons (pe_op op_add (pv 3) pe_int) (pa_cons (pv 4) (pa_cons pe_str pa_nil)))) (pv 9)) pa_nil)))))))
      pss_nil)
    (pss_cons (ps_set (i := 10) sc_law_plain.nd rfl (Or.inl rfl) (pe_lst (pa_cons (pe_tup (pa_cons (pv 3) (pa_cons (pv 4) (pa_cons pe_str (pa_cons (pv 1) (pa_cons (pv 2) pa_nil)))))) (pa_cons (pe_tup (pa_cons (pv 3) (pa_cons (pv 5) (pa_cons pe_str (pa_cons (pe_op op_add (pv 1) pe_int) (pa_cons (pv 2) pa_nil)))))) (pa_cons (pe_op op_catA (pe_tup (pa_cons (pe_op op_add (pv 3) pe_int) (pa_cons (pv 5) (pa_cons pe_str pa_nil)))) (pv 9)) pa_nil)))))
    (pss_one (ps_ret (pe_op op_cat (pv 10) (pe_lst (pa_cons (pe_tup (pa_cons (pe_op op_add (pv 3) pe_int) (pa_cons (pv 4) (pa_cons pe_str (pa_cons (pv 1) (pa_cons (pv 2) pa_nil)))))) (pa_cons (pe_op op_catA (pe_tup (pa_cons (pe_op op_add (pv 3) pe_int) (pa_cons (pv 5) (pa_cons pe_str pa_nil)))) (pv 9)) pa_nil))))))))))))), ?_⟩
  have kind : ∀ (W : Wi) (kd : Str), (W.row l)[0]? = some (.str kd) → atI (W.row l) 0 = some (.str kd) := fun W kd e => atI_nat (j := 0) e
  cases W with
  | tap n =>
    refine ⟨_, rfl, a, _, 0, _, rfl, rfl, SqT.of ha, kind (.tap n) _ rfl, ?_⟩
    refine ⟨_, rfl, rfl, _, rfl, iteF ⟨_, rfl, rfl, _, rfl, iteT ?_⟩⟩
    have n3 : n ≤ 3 := ok.2
    refine ⟨_, rfl, a, _, 2, _, rfl, rfl, SqT.of ha, atI_nat (j := 2) rfl, _, rfl, by omega, by omega, fun D hD => ?_⟩
    rw [show ((n : Int)).toNat = n by omega]
    refine lc_range (n := n) (fun i Hx => ∃ (ps : List Addr) (yss : List (List V)), Hx D = some (.lst (ps.map V.ref)) ∧ ps.length = i ∧ yss.length = i ∧ (∀ (j : Nat) (p : Addr) (ys : List V), ps[j]? = some p → yss[j]? = some ys → Hx p = some (.lst ys)) ∧ (∀ p ∈ ps, p ≠ D) ∧ ImAll Hx yss.flatten ((List.range i).flatMap (pair2 m f x y)) ∧ Same H Hx) ?_ ?_ ?_
    · exact ⟨[], [], upd_same, rfl, rfl, fun j p ys h => (by simp at h), fun p hp => (by cases hp), .nil, same_new hD⟩
    · rintro i Hx hi ⟨ps, yss, h1, h2, h3, h4, h5, h6, h7⟩
      refine ⟨rfl, ?_⟩
      refine ⟨_, rfl, _, rfl, _, _, rfl, rfl, .inl ⟨by decide, by decide⟩, _, _, rfl, rfl, _, rfl, _, rfl, _, rfl, (by show 5 ≤ sizeLine; decide), ?_⟩
      (intro p1 p10; generalize hh_ : upd _ p1 _ = H1; have hp1 := upd_is hh_; have s1 := same_is hh_ p10; clear hh_)
      refine ⟨_, rfl, _, rfl, _, _, rfl, rfl, .inl ⟨by decide, by decide⟩, _, _, rfl, rfl, _, _, rfl, rfl, _, rfl, _, rfl, _, rfl, (by show 5 ≤ sizeLine; decide), ?_⟩
      (intro p2 p20; generalize hh_ : upd _ p2 _ = H2; have hp2 := upd_is hh_; have s2 := same_is hh_ p20; clear hh_)
      refine ⟨(by show 2 ≤ sizeLine; decide), ?_⟩
      (intro q q0; generalize hh_ : upd _ q _ = H3; have hq := upd_is hh_; have s3 := same_is hh_ q0; clear hh_)
      have s13 := s1.trans (s2.trans s3)
      have hD3 := s13 _ _ h1
      have qD : q ≠ D := fun z => by rw [z] at q0; rw [s2 _ _ (s1 _ _ h1)] at q0; cases q0
      refine ⟨_, hD3, small100 (by rw [List.length_map]; omega), ps ++ [q], yss ++ [[.ref p1, .ref p2]], ?_, by simp [h2], by simp [h3], ?_, ?_, ?_, ?_⟩
      · rw [upd_same, List.map_append]; rfl
      · intro j p ys hj1 hj2
        have pD : p ≠ D := by
          rcases List.mem_append.mp (List.mem_of_getElem? hj1) with hm | hm
          · exact h5 p hm
          · rw [List.mem_singleton.mp hm]; exact qD
        rw [upd_ne pD]
        by_cases hji : j < i
        · rw [List.getElem?_append_left (by omega)] at hj1 hj2
          exact s13 _ _ (h4 j p ys hj1 hj2)
        · have : j = i := by
            have := (List.getElem?_eq_some_iff.mp hj1).1
            rw [List.length_append, h2] at this
            simp at this; omega
          subst this
          rw [List.getElem?_append_right (by omega), h2, Nat.sub_self] at hj1
          rw [List.getElem?_append_right (by omega), h3, Nat.sub_self] at hj2
          cases hj1; cases hj2
          exact hq
      · intro p hp
        rcases List.mem_append.mp hp with hm | hm
        · exact h5 p hm
        · rw [List.mem_singleton.mp hm]; exact qD
      · have tp : Tp H3 (upd H3 D (.lst (ps.map V.ref ++ [.ref q]))) := fun b xs e => by rw [upd_ne (ne_of e hD3 (by intro z; cases z))]; exact e
        rw [List.flatten_append, range_succ_flat]
        refine (ImAll.tp tp (h6.same s13)).app ?_
        show ImAll _ ([.ref p1, .ref p2] ++ []) _
        have e0 : (0 + (i : Int)) = (i : Int) := by omega
        rw [e0] at hp1 hp2
        exact .cons (Im.tp tp (im_tch ((s2.trans s3) _ _ hp1))) (.cons (Im.tp tp (im_tch (s3 _ _ hp2))) .nil)
      · exact fun b o e => by rw [upd_ne (ne_of_none e hD)]; exact s13 _ _ (h7 _ _ e)
    · rintro Hx ⟨ps, yss, h1, h2, h3, h4, h5, h6, h7⟩
      refine ⟨_, rfl, (by show 0 ≤ sizeLine; decide), ?_⟩
      (intro e e0; generalize hh_ : upd _ e _ = H1; have he := upd_is hh_; have s1 := same_is hh_ e0; clear hh_)
      have lf := h6.ln
      rw [flat_len2 (fun _ => rfl)] at lf
      refine ⟨D, e, ps, yss, rfl, SqL.of (s1 _ _ h1), he, by omega, (fun z => by rw [z] at h2; have := ok.1; simp at h2; omega), fun j p ys a1 a2 => s1 _ _ (h4 j p ys a1 a2), ?_, fun p hp => ?_⟩
      · rw [lf]
        have big : 1000 ≤ sizeLine := by decide
        omega
      · have s2 := same_new (o := .lst yss.flatten) hp
        refine k p _ (h7.trans (s1.trans s2)) ?_ ⟨_, upd_same, h6.same (s1.trans s2)⟩
        cases eL : H p with
        | none => rfl
        | some o => rw [s1 _ _ (h7 _ _ eL)] at hp; cases hp
  | press w =>
    refine ⟨_, rfl, a, _, 0, _, rfl, rfl, SqT.of ha, kind (.press w) _ rfl, ?_⟩
    refine ⟨_, rfl, rfl, _, rfl, iteF ⟨_, rfl, rfl, _, rfl, iteF ⟨_, rfl, rfl, _, rfl, iteT ?_⟩⟩⟩
    refine ⟨_, rfl, _, rfl, _, rfl, _, rfl, (by show 5 ≤ sizeLine; decide), ?_⟩
    (intro p1 p10; generalize hh_ : upd _ p1 _ = H2; have hp1 := upd_is hh_; have s2 := same_is hh_ p10; clear hh_)
    refine ⟨_, rfl, _, rfl, a, _, 2, _, rfl, rfl, SqT.of (s2 _ _ ha), atI_nat (j := 2) rfl, _, _, rfl, rfl, _, _, rfl, rfl, _, rfl, _, rfl, _, rfl, (by show 5 ≤ sizeLine; decide), ?_⟩
    (intro p2 p20; generalize hh_ : upd _ p2 _ = H3; have hp2 := upd_is hh_; have s3 := same_is hh_ p20; clear hh_)
    refine ⟨(by show 2 ≤ sizeLine; decide), ?_⟩
    (intro L L0; generalize hh_ : upd _ L _ = H4; have hL := upd_is hh_; have s4 := same_is hh_ L0; clear hh_)
    have s34 := s3.trans s4
    refine k L H4 (s2.trans s34) ?_ ⟨_, hL, .cons (im_tch (s34 _ _ hp1)) (.cons (im_tch (s4 _ _ hp2)) .nil)⟩
    cases eL : H L with
    | none => rfl
    | some o => rw [s3 _ _ (s2 _ _ eL)] at L0; cases L0
  | pull way =>
    refine ⟨_, rfl, a, _, 0, _, rfl, rfl, SqT.of ha, kind (.pull way) _ rfl, ?_⟩
    refine ⟨_, rfl, rfl, _, rfl, iteF ⟨_, rfl, rfl, _, rfl, iteF ⟨_, rfl, rfl, _, rfl, iteF ?_⟩⟩⟩
    intro p p0
    refine ⟨_, rfl, _, rfl, _, _, rfl, rfl, _, _, rfl, rfl, _, rfl, (by show 2 ≤ sizeLine; decide), ?_⟩
    (intro q1 q10; generalize hh_ : upd _ q1 _ = H1; have hq1 := upd_is hh_; have s1 := same_is hh_ q10; clear hh_)
    refine ⟨_, rfl, _, _, rfl, rfl, _, rfl, (by show 2 ≤ sizeLine; decide), ?_⟩
    (intro q2 q20; generalize hh_ : upd _ q2 _ = H2; have hq2 := upd_is hh_; have s2 := same_is hh_ q20; clear hh_)
    refine ⟨_, rfl, _, rfl, _, _, rfl, rfl, (by show 2 ≤ sizeLine; decide), ?_⟩
    (intro q3 q30; generalize hh_ : upd _ q3 _ = H3; have hq3 := upd_is hh_; have s3 := same_is hh_ q30; clear hh_)
    have s03 := (same_new (o := .dK []) p0).trans (s1.trans (s2.trans s3))
    refine ⟨(s1.trans (s2.trans s3)) _ _ upd_same, [((Sum.inr ("pull" : Str) : Key), V.ref q1), (Sum.inr ("spread" : Str), .ref q2), (Sum.inr ("turn" : Str), .ref q3)], rfl, (by show 3 ≤ 15; decide), ?_⟩
    rw [th_is]
    have h4 : (upd H3 p (.dK (thD q1 q2 q3))) p = some (.dK (thD q1 q2 q3)) := upd_same
    have s4 : Same H (upd H3 p (.dK (thD q1 q2 q3))) := fun b o e => by rw [upd_ne (ne_of_none e p0)]; exact s03 _ _ e
    have hq1' : (upd H3 p (.dK (thD q1 q2 q3))) q1 = some (.tup [.int (x + r + 1), .int y]) := by
      rw [upd_ne (fun z => by rw [z, upd_same] at q10; cases q10)]; exact (s2.trans s3) _ _ hq1
    have hq2' : (upd H3 p (.dK (thD q1 q2 q3))) q2 = some (.tup [.int (x + 80), .int y]) := by
      rw [upd_ne (fun z => by rw [z, s1 _ _ upd_same] at q20; cases q20)]; exact s3 _ _ hq2
    have hq3' : (upd H3 p (.dK (thD q1 q2 q3))) q3 = some (.tup [.int x, .int (y + 40)]) := by
      rw [upd_ne (fun z => by rw [z, s2 _ _ (s1 _ _ upd_same)] at q30; cases q30)]; exact hq3
    generalize upd H3 p (.dK (thD q1 q2 q3)) = H4 at *
    clear s03 hq1 hq2 hq3 s1 s2 s3 q10 q20 q30
    refine ⟨_, rfl, p, _, rfl, th_get1 h4, ?_⟩
    refine ⟨_, rfl, rfl, _, rfl, iteT ?_⟩
    refine ⟨fun σ Hx => ∃ (q : Addr) (gx gy : Int), σ = [some (.ref a), some (.int x), some (.int y), some (.int m), some (.int f), some (.int g), some (.int r), some (.str "pull"), none, some (.ref q), none, none] ∧ Hx q = some (.tup [.int gx, .int gy]) ∧ Same H Hx ∧
      [tch m f "down" x y, tch (m + 10) f "move" gx gy, tch (m + 20) f "up" gx gy] = (Wi.pull way).pl x y m f g r, ?_, ?_⟩
    · refine ⟨_, rfl, a, _, 2, _, rfl, rfl, SqT.of (s4 _ _ ha), atI_nat (j := 2) rfl, rfl, _, rfl, ite2 (fun c => ?_) fun c => ?_⟩
      · have e : way = "along" := by have := of_decide_eq_true c; cases this; rfl
        refine ⟨_, rfl, _, rfl, _, rfl, _, _, rfl, rfl, _, _, rfl, rfl, (by show 2 ≤ sizeLine; decide), ?_⟩
        (intro q q0; generalize hh_ : upd _ q _ = H5; have hq := upd_is hh_; have s5 := same_is hh_ q0; clear hh_)
        exact ⟨q, _, _, rfl, hq, s4.trans s5, by simp only [Wi.pl]; rw [if_pos e]⟩
      · have e : ¬ way = "along" := fun z => by rw [z] at c; simp at c
        exact ⟨_, rfl, q1, _, _, rfl, hq1', s4, by simp only [Wi.pl]; rw [if_neg e]⟩
    rintro σ Hx ⟨q, gx, gy, rfl, hq, sm, e⟩
    clear hq1' hq2' hq3' s4 h4 p0
    refine ⟨_, rfl, _, rfl, _, rfl, _, rfl, (by show 5 ≤ sizeLine; decide), ?_⟩
    (intro p1 p10; generalize hh_ : upd _ p1 _ = G1; have hp1 := upd_is hh_; have s1 := same_is hh_ p10; clear hh_)
    refine ⟨_, rfl, _, _, rfl, rfl, _, rfl, (by show 3 ≤ sizeLine; decide), ?_⟩
    (intro t2 t20; generalize hh_ : upd _ t2 _ = G2; have ht2 := upd_is hh_; have s2 := same_is hh_ t20; clear hh_)
    refine ⟨_, rfl, t2, q, _, _, rfl, rfl, SqT.of ht2, SqT.of ((s1.trans s2) _ _ hq), (by show 3 + 2 ≤ sizeLine; decide), (fun z => by cases z), (fun _ z => by cases z), fun _ _ => ?_⟩
    (intro p2 p20; generalize hh_ : upd _ p2 _ = G3; have hp2 := upd_is hh_; have s3 := same_is hh_ p20; clear hh_)
    refine ⟨_, rfl, _, _, rfl, rfl, _, rfl, (by show 3 ≤ sizeLine; decide), ?_⟩
    (intro t3 t30; generalize hh_ : upd _ t3 _ = G4; have ht3 := upd_is hh_; have s4 := same_is hh_ t30; clear hh_)
    refine ⟨_, rfl, t3, q, _, _, rfl, rfl, SqT.of ht3, SqT.of ((s1.trans (s2.trans (s3.trans s4))) _ _ hq), (by show 3 + 2 ≤ sizeLine; decide), (fun z => by cases z), (fun _ z => by cases z), fun _ _ => ?_⟩
    (intro p3 p30; generalize hh_ : upd _ p3 _ = G5; have hp3 := upd_is hh_; have s5 := same_is hh_ p30; clear hh_)
    refine ⟨(by show 3 ≤ sizeLine; decide), ?_⟩
    (intro L L0; generalize hh_ : upd _ L _ = G6; have hL := upd_is hh_; have s6 := same_is hh_ L0; clear hh_)
    have s56 := s5.trans s6
    have s46 := s4.trans s56
    have s36 := s3.trans s46
    have s26 := s2.trans s36
    refine k L G6 (sm.trans (s1.trans s26)) ?_ ?_
    · cases eL : H L with
      | none => rfl
      | some o => rw [s5 _ _ (s4 _ _ (s3 _ _ (s2 _ _ (s1 _ _ (sm _ _ eL)))))] at L0; cases L0
    · rw [← e]
      exact ⟨_, hL, .cons (im_tch (s26 _ _ hp1)) (.cons (im_tch (s46 _ _ hp2)) (.cons (im_tch (s6 _ _ hp3)) .nil))⟩
  | spread =>
    refine ⟨_, rfl, a, _, 0, _, rfl, rfl, SqT.of ha, kind .spread _ rfl, ?_⟩
    refine ⟨_, rfl, rfl, _, rfl, iteF ⟨_, rfl, rfl, _, rfl, iteF ⟨_, rfl, rfl, _, rfl, iteF ?_⟩⟩⟩
    intro p p0
    refine ⟨_, rfl, _, rfl, _, _, rfl, rfl, _, _, rfl, rfl, _, rfl, (by show 2 ≤ sizeLine; decide), ?_⟩
    (intro q1 q10; generalize hh_ : upd _ q1 _ = H1; have hq1 := upd_is hh_; have s1 := same_is hh_ q10; clear hh_)
    refine ⟨_, rfl, _, _, rfl, rfl, _, rfl, (by show 2 ≤ sizeLine; decide), ?_⟩
    (intro q2 q20; generalize hh_ : upd _ q2 _ = H2; have hq2 := upd_is hh_; have s2 := same_is hh_ q20; clear hh_)
    refine ⟨_, rfl, _, rfl, _, _, rfl, rfl, (by show 2 ≤ sizeLine; decide), ?_⟩
    (intro q3 q30; generalize hh_ : upd _ q3 _ = H3; have hq3 := upd_is hh_; have s3 := same_is hh_ q30; clear hh_)
    have s03 := (same_new (o := .dK []) p0).trans (s1.trans (s2.trans s3))
    refine ⟨(s1.trans (s2.trans s3)) _ _ upd_same, [((Sum.inr ("pull" : Str) : Key), V.ref q1), (Sum.inr ("spread" : Str), .ref q2), (Sum.inr ("turn" : Str), .ref q3)], rfl, (by show 3 ≤ 15; decide), ?_⟩
    rw [th_is]
    have h4 : (upd H3 p (.dK (thD q1 q2 q3))) p = some (.dK (thD q1 q2 q3)) := upd_same
    have s4 : Same H (upd H3 p (.dK (thD q1 q2 q3))) := fun b o e => by rw [upd_ne (ne_of_none e p0)]; exact s03 _ _ e
    have hq1' : (upd H3 p (.dK (thD q1 q2 q3))) q1 = some (.tup [.int (x + r + 1), .int y]) := by
      rw [upd_ne (fun z => by rw [z, upd_same] at q10; cases q10)]; exact (s2.trans s3) _ _ hq1
    have hq2' : (upd H3 p (.dK (thD q1 q2 q3))) q2 = some (.tup [.int (x + 80), .int y]) := by
      rw [upd_ne (fun z => by rw [z, s1 _ _ upd_same] at q20; cases q20)]; exact s3 _ _ hq2
    have hq3' : (upd H3 p (.dK (thD q1 q2 q3))) q3 = some (.tup [.int x, .int (y + 40)]) := by
      rw [upd_ne (fun z => by rw [z, s2 _ _ (s1 _ _ upd_same)] at q30; cases q30)]; exact hq3
    generalize upd H3 p (.dK (thD q1 q2 q3)) = H4 at *
    clear s03 hq1 hq2 hq3 s1 s2 s3 q10 q20 q30
    refine ⟨_, rfl, p, _, rfl, th_get2 h4, ?_⟩
    refine ⟨_, rfl, rfl, _, rfl, iteF ?_⟩
    have hq := hq2'
    clear hq1' hq2' hq3' h4 p0
    refine ⟨_, rfl, _, rfl, _, rfl, _, rfl, (by show 5 ≤ sizeLine; decide), ?_⟩
    (intro p1 p10; generalize hh_ : upd _ p1 _ = G1; have hp1 := upd_is hh_; have s1 := same_is hh_ p10; clear hh_)
    refine ⟨_, rfl, _, rfl, _, rfl, _, _, rfl, rfl, _, rfl, (by show 5 ≤ sizeLine; decide), ?_⟩
    (intro p2 p20; generalize hh_ : upd _ p2 _ = G2; have hp2 := upd_is hh_; have s2 := same_is hh_ p20; clear hh_)
    refine ⟨_, rfl, _, _, rfl, rfl, _, rfl, (by show 3 ≤ sizeLine; decide), ?_⟩
    (intro t3 t30; generalize hh_ : upd _ t3 _ = G3; have ht3 := upd_is hh_; have s3 := same_is hh_ t30; clear hh_)
    refine ⟨_, rfl, t3, q2, _, _, rfl, rfl, SqT.of ht3, SqT.of ((s1.trans (s2.trans s3)) _ _ hq), (by show 3 + 2 ≤ sizeLine; decide), (fun z => by cases z), (fun _ z => by cases z), fun _ _ => ?_⟩
    (intro p3 p30; generalize hh_ : upd _ p3 _ = G4; have hp3 := upd_is hh_; have s5 := same_is hh_ p30; clear hh_)
    refine ⟨(by show 3 ≤ sizeLine; decide), ?_⟩
    (intro L1 L10; generalize hh_ : upd _ L1 _ = G5; have hL1 := upd_is hh_; have s6 := same_is hh_ L10; clear hh_)
    refine ⟨_, rfl, _, rfl, _, _, rfl, rfl, _, rfl, _, rfl, _, rfl, (by show 5 ≤ sizeLine; decide), ?_⟩
    (intro p4 p40; generalize hh_ : upd _ p4 _ = G6; have hp4 := upd_is hh_; have s7 := same_is hh_ p40; clear hh_)
    refine ⟨_, rfl, _, _, rfl, rfl, _, rfl, (by show 3 ≤ sizeLine; decide), ?_⟩
    (intro t5 t50; generalize hh_ : upd _ t5 _ = G7; have ht5 := upd_is hh_; have s8 := same_is hh_ t50; clear hh_)
    have s18 := s1.trans (s2.trans (s3.trans (s5.trans (s6.trans (s7.trans s8)))))
    refine ⟨_, rfl, t5, q2, _, _, rfl, rfl, SqT.of ht5, SqT.of (s18 _ _ hq), (by show 3 + 2 ≤ sizeLine; decide), (fun z => by cases z), (fun _ z => by cases z), fun _ _ => ?_⟩
    (intro p5 p50; generalize hh_ : upd _ p5 _ = G8; have hp5 := upd_is hh_; have s9 := same_is hh_ p50; clear hh_)
    refine ⟨(by show 2 ≤ sizeLine; decide), ?_⟩
    (intro L2 L20; generalize hh_ : upd _ L2 _ = G9; have hL2 := upd_is hh_; have sa := same_is hh_ L20; clear hh_)
    refine ⟨L1, L2, _, _, rfl, rfl, (s7.trans (s8.trans (s9.trans sa))) _ _ hL1, hL2, (by show 3 + 2 ≤ sizeLine; decide), ?_⟩
    (intro L L0; generalize hh_ : upd _ L _ = Ga; have hL := upd_is hh_; have sb := same_is hh_ L0; clear hh_)
    have u9 := s9.trans (sa.trans sb)
    have u8 := s8.trans u9
    have u7 := s7.trans u8
    have u6 := s6.trans u7
    have u5 := s5.trans u6
    have u3 := s3.trans u5
    have u2 := s2.trans u3
    refine k L Ga (s4.trans (s1.trans u2)) ?_ ?_
    · cases eL : H L with
      | none => rfl
      | some o => rw [sa _ _ (s9 _ _ (s18 _ _ (s4 _ _ eL)))] at L0; cases L0
    · exact ⟨_, hL, .cons (im_tch (u2 _ _ hp1)) (.cons (im_tch (u3 _ _ hp2)) (.cons (im_tch (u6 _ _ hp3)) (.cons (im_tch (u8 _ _ hp4)) (.cons (im_tch ((sa.trans sb) _ _ hp5)) .nil))))⟩
  | turn =>
    refine ⟨_, rfl, a, _, 0, _, rfl, rfl, SqT.of ha, kind .turn _ rfl, ?_⟩
    refine ⟨_, rfl, rfl, _, rfl, iteF ⟨_, rfl, rfl, _, rfl, iteF ⟨_, rfl, rfl, _, rfl, iteF ?_⟩⟩⟩
    intro p p0
    refine ⟨_, rfl, _, rfl, _, _, rfl, rfl, _, _, rfl, rfl, _, rfl, (by show 2 ≤ sizeLine; decide), ?_⟩
    (intro q1 q10; generalize hh_ : upd _ q1 _ = H1; have hq1 := upd_is hh_; have s1 := same_is hh_ q10; clear hh_)
    refine ⟨_, rfl, _, _, rfl, rfl, _, rfl, (by show 2 ≤ sizeLine; decide), ?_⟩
    (intro q2 q20; generalize hh_ : upd _ q2 _ = H2; have hq2 := upd_is hh_; have s2 := same_is hh_ q20; clear hh_)
    refine ⟨_, rfl, _, rfl, _, _, rfl, rfl, (by show 2 ≤ sizeLine; decide), ?_⟩
    (intro q3 q30; generalize hh_ : upd _ q3 _ = H3; have hq3 := upd_is hh_; have s3 := same_is hh_ q30; clear hh_)
    have s03 := (same_new (o := .dK []) p0).trans (s1.trans (s2.trans s3))
    refine ⟨(s1.trans (s2.trans s3)) _ _ upd_same, [((Sum.inr ("pull" : Str) : Key), V.ref q1), (Sum.inr ("spread" : Str), .ref q2), (Sum.inr ("turn" : Str), .ref q3)], rfl, (by show 3 ≤ 15; decide), ?_⟩
    rw [th_is]
    have h4 : (upd H3 p (.dK (thD q1 q2 q3))) p = some (.dK (thD q1 q2 q3)) := upd_same
    have s4 : Same H (upd H3 p (.dK (thD q1 q2 q3))) := fun b o e => by rw [upd_ne (ne_of_none e p0)]; exact s03 _ _ e
    have hq1' : (upd H3 p (.dK (thD q1 q2 q3))) q1 = some (.tup [.int (x + r + 1), .int y]) := by
      rw [upd_ne (fun z => by rw [z, upd_same] at q10; cases q10)]; exact (s2.trans s3) _ _ hq1
    have hq2' : (upd H3 p (.dK (thD q1 q2 q3))) q2 = some (.tup [.int (x + 80), .int y]) := by
      rw [upd_ne (fun z => by rw [z, s1 _ _ upd_same] at q20; cases q20)]; exact s3 _ _ hq2
    have hq3' : (upd H3 p (.dK (thD q1 q2 q3))) q3 = some (.tup [.int x, .int (y + 40)]) := by
      rw [upd_ne (fun z => by rw [z, s2 _ _ (s1 _ _ upd_same)] at q30; cases q30)]; exact hq3
    generalize upd H3 p (.dK (thD q1 q2 q3)) = H4 at *
    clear s03 hq1 hq2 hq3 s1 s2 s3 q10 q20 q30
    refine ⟨_, rfl, p, _, rfl, th_get3 h4, ?_⟩
    refine ⟨_, rfl, rfl, _, rfl, iteF ?_⟩
    have hq := hq3'
    clear hq1' hq2' hq3' h4 p0
    refine ⟨_, rfl, _, rfl, _, rfl, _, rfl, (by show 5 ≤ sizeLine; decide), ?_⟩
    (intro p1 p10; generalize hh_ : upd _ p1 _ = G1; have hp1 := upd_is hh_; have s1 := same_is hh_ p10; clear hh_)
    refine ⟨_, rfl, _, rfl, _, rfl, _, _, rfl, rfl, _, rfl, (by show 5 ≤ sizeLine; decide), ?_⟩
    (intro p2 p20; generalize hh_ : upd _ p2 _ = G2; have hp2 := upd_is hh_; have s2 := same_is hh_ p20; clear hh_)
    refine ⟨_, rfl, _, _, rfl, rfl, _, rfl, (by show 3 ≤ sizeLine; decide), ?_⟩
    (intro t3 t30; generalize hh_ : upd _ t3 _ = G3; have ht3 := upd_is hh_; have s3 := same_is hh_ t30; clear hh_)
    refine ⟨_, rfl, t3, q3, _, _, rfl, rfl, SqT.of ht3, SqT.of ((s1.trans (s2.trans s3)) _ _ hq), (by show 3 + 2 ≤ sizeLine; decide), (fun z => by cases z), (fun _ z => by cases z), fun _ _ => ?_⟩
    (intro p3 p30; generalize hh_ : upd _ p3 _ = G4; have hp3 := upd_is hh_; have s5 := same_is hh_ p30; clear hh_)
    refine ⟨(by show 3 ≤ sizeLine; decide), ?_⟩
    (intro L1 L10; generalize hh_ : upd _ L1 _ = G5; have hL1 := upd_is hh_; have s6 := same_is hh_ L10; clear hh_)
    refine ⟨_, rfl, _, rfl, _, _, rfl, rfl, _, rfl, _, rfl, _, rfl, (by show 5 ≤ sizeLine; decide), ?_⟩
    (intro p4 p40; generalize hh_ : upd _ p4 _ = G6; have hp4 := upd_is hh_; have s7 := same_is hh_ p40; clear hh_)
    refine ⟨_, rfl, _, _, rfl, rfl, _, rfl, (by show 3 ≤ sizeLine; decide), ?_⟩
    (intro t5 t50; generalize hh_ : upd _ t5 _ = G7; have ht5 := upd_is hh_; have s8 := same_is hh_ t50; clear hh_)
    have s18 := s1.trans (s2.trans (s3.trans (s5.trans (s6.trans (s7.trans s8)))))
    refine ⟨_, rfl, t5, q3, _, _, rfl, rfl, SqT.of ht5, SqT.of (s18 _ _ hq), (by show 3 + 2 ≤ sizeLine; decide), (fun z => by cases z), (fun _ z => by cases z), fun _ _ => ?_⟩
    (intro p5 p50; generalize hh_ : upd _ p5 _ = G8; have hp5 := upd_is hh_; have s9 := same_is hh_ p50; clear hh_)
    refine ⟨(by show 2 ≤ sizeLine; decide), ?_⟩
    (intro L2 L20; generalize hh_ : upd _ L2 _ = G9; have hL2 := upd_is hh_; have sa := same_is hh_ L20; clear hh_)
    refine ⟨L1, L2, _, _, rfl, rfl, (s7.trans (s8.trans (s9.trans sa))) _ _ hL1, hL2, (by show 3 + 2 ≤ sizeLine; decide), ?_⟩
    (intro L L0; generalize hh_ : upd _ L _ = Ga; have hL := upd_is hh_; have sb := same_is hh_ L0; clear hh_)
    have u9 := s9.trans (sa.trans sb)
    have u8 := s8.trans u9
    have u7 := s7.trans u8
    have u6 := s6.trans u7
    have u5 := s5.trans u6
    have u3 := s3.trans u5
    have u2 := s2.trans u3
    refine k L Ga (s4.trans (s1.trans u2)) ?_ ?_
    · cases eL : H L with
      | none => rfl
      | some o => rw [sa _ _ (s9 _ _ (s18 _ _ (s4 _ _ eL)))] at L0; cases L0
    · exact ⟨_, hL, .cons (im_tch (u2 _ _ hp1)) (.cons (im_tch (u3 _ _ hp2)) (.cons (im_tch (u6 _ _ hp3)) (.cons (im_tch (u8 _ _ hp4)) (.cons (im_tch ((sa.trans sb) _ _ hp5)) .nil))))⟩
end
end SG
namespace SG
open PySem PySem.Spec PyProof.Rows L2
def spTold (K : PySem.W.Frag) : Sp := fun vs H Q _ => ∃ (W : Wi) (l : Str) (a s q : Addr) (x y m f g r : Int), vs = [.ref a, .ref s, .int m, .ref q, .int r] ∧ SqT K H a (W.row l) ∧ W.ok ∧ SqT K H s [.int x, .int y] ∧ SqT K H q [.int f, .int g] ∧ Told H (W.pl x y m f g r) Q
section
variable {P : Program} {w : World} {K : PySem.W.Frag} {mg : Str → Option Value} {base : Heap}
theorem ok_told (D : Df K mg "_law_told" s_law_told ["_law_wish_here", "_law_spot", "_law_moment", "_law_fingers", "_law_reach"]) (T : Txt K mg) (cplainK : ClK P w K mg base 2 "plain" 5 ["slop"] (spPlain K)) (cplainD : ClD P w K mg base 2 "plain" [.int 18] (spPlain K)) : Cl P w K mg base 3 "_law_told" (spTold K) := by
  refine D.ok sc_law_told (fun vs H Q E h => ?_) (fun f cdv A outer s H vs Q E hr h => ?_)
  · obtain ⟨_, _, _, _, _, _, _, _, _, _, _, rfl, _⟩ := h
    rfl
  obtain ⟨W, l, a, sp, q, x, y, m, f, g, r, rfl, ha, ok, hs, hq, k⟩ := h
  have hu := hu_of hr
  refine ⟨_, -- if _law_reach == 18:
    (pss_cons (ps_if (pt_cmpR op_eq (pv 4) pe_int (nomark _))
      (pss_one (ps_ret (pe_clD cplainD (hr.mono (by first | decide | omega)) rfl (pa_cons (pv 0) (pa_cons (pe_ix ix_tup (pv 1) pe_int (fun _ _ => rfl)) (pa_cons (pe_ix ix_tup (pv 1) pe_int (fun _ _ => rfl)) (pa_cons (pv 2) (pa_cons (pv 3) pa_nil))))))))
      pss_nil)
    (pss_one (ps_ret (pe_clK cplainK (hr.mono (by first | decide | omega)) rfl (pa_cons (pv 0) (pa_cons (pe_ix ix_tup (pv 1) pe_int (fun _ _ => rfl)) (pa_cons (pe_ix ix_tup (pv 1) pe_int (fun _ _ => rfl)) (pa_cons (pv 2) (pa_cons (pv 3) pa_nil))))) (pk_cons (pv 4) pk_nil))))), ?_⟩
  refine ⟨_, rfl, rfl, _, rfl, ite2 (fun c => ?_) fun c => ?_⟩
  · have e : r = 18 := by have := of_decide_eq_true c; cases this; rfl
    subst e
    refine ⟨_, rfl, _, rfl, sp, _, 0, _, rfl, rfl, hs, atI_nat (j := 0) rfl, _, rfl, sp, _, 1, _, rfl, rfl, hs, atI_nat (j := 1) rfl, _, rfl, _, rfl, ?_⟩
    exact ⟨W, l, a, q, x, y, m, f, g, 18, rfl, ha, ok, hq, k⟩
  · refine ⟨_, rfl, _, rfl, sp, _, 0, _, rfl, rfl, hs, atI_nat (j := 0) rfl, _, rfl, sp, _, 1, _, rfl, rfl, hs, atI_nat (j := 1) rfl, _, rfl, _, rfl, ?_⟩
    exact ⟨_, rfl, rfl, rfl, W, l, a, q, x, y, m, f, g, r, rfl, ha, ok, hq, k⟩
end
end SG
namespace SG
open PySem PySem.Spec PyProof.Rows L2
def spLaw (K : PySem.W.Frag) : Sp := fun vs H Q _ => ∃ (a : Addr) (ns : List Int), vs = [.ref a] ∧ SqL K H a (ns.map V.int) ∧ ns.length ≤ 63 ∧ ∀ H', Q (.bl true) H'
/-- what is asked once -/
def ThAt (K : PySem.W.Frag) (H : Hp) (v : V) : Prop := ∃ (W : Wi) (l : Str) (th a s q : Addr) (x y m f g r : Int), v = .ref th ∧ SqT K H th [.ref a, .ref s, .int m, .ref q, .int r] ∧ H a = some (.tup (W.row l)) ∧ W.ok ∧ SqT K H s [.int x, .int y] ∧ SqT K H q [.int f, .int g]
theorem ThAt.same {K : PySem.W.Frag} {H H' : Hp} {v : V} (h : ThAt K H v) (s : Same H H') : ThAt K H' v := by
  obtain ⟨W, l, th, a, s', q, x, y, m, f, g, r, e, h1, h2, h3, h4, h5⟩ := h
  exact ⟨W, l, th, a, s', q, x, y, m, f, g, r, e, Same.tup s h1, s _ _ h2, h3, Same.tup s h4, Same.tup s h5⟩
theorem pl_fine (W : Wi) (ok : W.ok) (x y m f g r : Int) : (PyData.list (W.pl x y m f g r)).depth < 3 ∧ few (.list (W.pl x y m f g r)) = true := by
  have key : ∀ ds : List PyData, (∀ d ∈ ds, ∃ a b c e z, d = tch a b c e z) → ds.length ≤ 1000 → (PyData.list ds).depth < 3 ∧ few (.list ds) = true := by
    intro ds h hl
    have a : PyData.depthAll ds ≤ 1 ∧ fewAll ds = true := by
      clear hl
      induction ds with
      | nil => exact ⟨Nat.zero_le _, rfl⟩
      | cons d ds ih =>
        obtain ⟨i1, i2⟩ := ih fun d hd => h d (by simp [hd])
        obtain ⟨a, b, c, e, z, rfl⟩ := h d (by simp)
        exact ⟨Nat.max_le.mpr ⟨by simp [tch, PyData.depth, PyData.depthAll], i1⟩, by show (few (tch a b c e z) && fewAll ds) = true; rw [i2]; rfl⟩
    refine ⟨by show PyData.depthAll ds + 1 < 3; omega, ?_⟩
    show (decide (ds.length ≤ 1000) && fewAll ds) = true
    rw [decide_eq_true hl, a.2]; rfl
  cases W with
  | tap n =>
    refine key _ ?_ ?_
    · intro d hd
      obtain ⟨k, _, hk⟩ := List.mem_flatMap.mp hd
      simp only [pair2, List.mem_cons, List.not_mem_nil, or_false] at hk
      rcases hk with rfl | rfl <;> exact ⟨_, _, _, _, _, rfl⟩
    · show ((List.range n).flatMap _).length ≤ 1000
      rw [flat_len2 fun _ => rfl]
      have := ok.2
      omega
  | press w => exact key _ (by intro d hd; simp only [Wi.pl, List.mem_cons, List.not_mem_nil, or_false] at hd; rcases hd with rfl | rfl <;> exact ⟨_, _, _, _, _, rfl⟩) (by show 2 ≤ 1000; decide)
  | pull w =>
    by_cases e : w = "along"
    · have : (Wi.pull w).pl x y m f g r = [tch m f "down" x y, tch (m + 10) f "move" x (y + r + 1), tch (m + 20) f "up" x (y + r + 1)] := by simp only [Wi.pl]; rw [if_pos e]
      rw [this]
      exact key _ (by intro d hd; simp only [List.mem_cons, List.not_mem_nil, or_false] at hd; rcases hd with rfl | rfl | rfl <;> exact ⟨_, _, _, _, _, rfl⟩) (by show 3 ≤ 1000; decide)
    · have : (Wi.pull w).pl x y m f g r = [tch m f "down" x y, tch (m + 10) f "move" (x + r + 1) y, tch (m + 20) f "up" (x + r + 1) y] := by simp only [Wi.pl]; rw [if_neg e]
      rw [this]
      exact key _ (by intro d hd; simp only [List.mem_cons, List.not_mem_nil, or_false] at hd; rcases hd with rfl | rfl | rfl <;> exact ⟨_, _, _, _, _, rfl⟩) (by show 3 ≤ 1000; decide)
  | spread => exact key _ (by intro d hd; simp only [Wi.pl, List.mem_cons, List.not_mem_nil, or_false] at hd; rcases hd with rfl | rfl | rfl | rfl | rfl <;> exact ⟨_, _, _, _, _, rfl⟩) (by show 5 ≤ 1000; decide)
  | turn => exact key _ (by intro d hd; simp only [Wi.pl, List.mem_cons, List.not_mem_nil, or_false] at hd; rcases hd with rfl | rfl | rfl | rfl | rfl <;> exact ⟨_, _, _, _, _, rfl⟩) (by show 5 ≤ 1000; decide)
section
variable {P : Program} {w : World} {K : PySem.W.Frag} {mg : Str → Option Value} {base : Heap}
theorem ok_law {f : Addr} {fd : FuncData} (F : Fun K "law" "law" slaw f fd) (T : Txt K mg) (c_law_tape : Cl P w K mg base 1 "_law_tape" (spTape K)) (c_law_words : Cl P w K mg base 3 "_law_words" spWords) (c_law_wish : Cl P w K mg base 4 "_law_wish" spWish) (c_law_draw : Cl P w K mg base 1 "_law_draw" spDraw)
    (c_law_pick : Cl P w K mg base 2 "_law_pick" (spPickA K)) (c_law_plain : Cl P w K mg base 3 "_law_plain" (spLPlain K)) (c_law_told : Cl P w K mg base 3 "_law_told" (spTold K)) (c_law_alike : Cl P w K mg base 5 "_law_alike" (spAlike K 5)) : FnG P w K mg base 8 f fd ["_law_script"] (spLaw K) := by
  refine fun_okG F sclaw (fun vs H Q E h => ?_) (fun cdv A outer s H vs Q E hr hg h => ?_)
  · obtain ⟨a, ns, rfl, _⟩ := h
    rfl
  obtain ⟨a, ns, rfl, hS, h63, k⟩ := h
  have hu := hu_of hr
  refine ⟨_, -- _law_tape_here = _law_tape(_law_script)
    (pss_cons (ps_set (i := 1) sclaw.nd rfl (Or.inl rfl) (pe_cl c_law_tape (hr.mono (by first | decide | omega)) rfl (pa_cons (pv 0) pa_nil)))
    (pss_cons (ps_for PassesOwn.never rfl (pi_list (pe_slice sl_list (pe_cl c_law_words (hr.mono (by first | decide | omega)) rfl (pa_cons (pv 1) pa_nil)) po_none (po_some pe_int))) (pg_name (i := 2) sclaw.nd rfl (Or.inr rfl))
      (pss_cons (ps_par (i := 3) (j := 4) rfl sclaw.nd rfl rfl (by decide) rfl rfl (pa_cons (pe_cl c_law_wish (hr.mono (by first | decide | omega)) rfl (pa_cons (pv 1) (pa_cons (pv 2) pa_nil))) (pa_cons (pe_cl c_law_wish (hr.mono (by first | decide | omega)) rfl (pa_cons (pv 1) (pa_cons (pv 2) pa_nil))) pa_nil)) rfl)
      (pss_cons (ps_asg (pe_lc (own := [("_law_one", 5)]) rfl sclaw.nd (pi_tup (pe_tup (pa_cons (pv 3) (pa_cons (pv 4) pa_nil)))) (blkOk_by (N := Nlaw) (sc := defScope slaw) (by decide +kernel)) (fun _ _ _ _ _ => (pg_name (i := 5) sclaw.nd rfl (Or.inl rfl))) (fun _ _ _ _ _ => pts_nil) (fun _ _ _ _ _ => (pe_ifExp (pt_cmpR op_eq (pe_ix (r := rIxT K) ix_tup (pv 5) pe_int (fun _ _ => rfl)) pe_str (nomark _)) (pe_tup (pa_cons pe_str (pa_cons (pv 2) (pa_cons pe_int pa_nil)))) (pv 5)))) (pg_lst rfl (pgs_cons (pg_name (i := 3) sclaw.nd rfl (Or.inl rfl)) (pgs_cons (pg_name (i := 4) sclaw.nd rfl (Or.inl rfl)) pgs_nil))))
      (C8.pss_cut (ps_set (i := 6) sclaw.nd rfl (Or.inl rfl) (pe_tup (pa_cons (pe_op op_sub (pe_cl c_law_draw (hr.mono (by first | decide | omega)) rfl (pa_cons (pv 1) (pa_cons pe_int pa_nil))) pe_int) (pa_cons (pe_cl c_law_pick (hr.mono (by first | decide | omega)) rfl (pa_cons (pv 1) (pa_cons (pe_lst (pa_cons pe_int (pa_cons pe_int (pa_cons pe_int (pa_cons (pe_op op_sub (pe_cl c_law_draw (hr.mono (by first | decide | omega)) rfl (pa_cons (pv 1) (pa_cons pe_int pa_nil))) pe_int) pa_nil))))) pa_nil))) pa_nil))))
      (pss_cons (ps_set (i := 7) sclaw.nd rfl (Or.inl rfl) (pe_cl c_law_pick (hr.mono (by first | decide | omega)) rfl (pa_cons (pv 1) (pa_cons (pe_lst (pa_cons pe_int (pa_cons pe_int (pa_cons pe_int (pa_cons (pe_cl c_law_draw (hr.mono (by first | decide | omega)) rfl (pa_cons (pv 1) (pa_cons (pe_op op_powG pe_int pe_int) pa_nil))) pa_nil))))) pa_nil))))
      (pss_cons (ps_set (i := 5) sclaw.nd rfl (Or.inl rfl) (pe_cl c_law_draw (hr.mono (by first | decide | omega)) rfl (pa_cons (pv 1) (pa_cons pe_int pa_nil))))
      (C8.pss_cut (ps_par (i := 8) (j := 9) rfl sclaw.nd rfl rfl (by decide) rfl rfl (pa_cons (pe_tup (pa_cons (pv 5) (pa_cons (pe_op op_mod (pe_op op_add (pe_op op_add (pv 5) pe_int) (pe_cl c_law_draw (hr.mono (by first | decide | omega)) rfl (pa_cons (pv 1) (pa_cons pe_int pa_nil)))) pe_int) pa_nil))) (pa_cons (pe_cl c_law_pick (hr.mono (by first | decide | omega)) rfl (pa_cons (pv 1) (pa_cons (pe_lst (pa_cons pe_int (pa_cons (pe_cl c_law_draw (hr.mono (by first | decide | omega)) rfl (pa_cons (pv 1) (pa_cons pe_int pa_nil))) (pa_cons pe_int (pa_cons pe_int pa_nil))))) pa_nil))) pa_nil)) rfl)
      (pss_cons (ps_set (i := 10) sclaw.nd rfl (Or.inl rfl) (pe_lst (pa_cons (pe_tup (pa_cons (pv 3) (pa_cons (pv 6) (pa_cons (pv 7) (pa_cons (pv 8) (pa_cons (pv 9) pa_nil)))))) (pa_cons (pe_tup (pa_cons (pv 3) (pa_cons (pv 6) (pa_cons (pe_op op_add (pv 7) pe_int) (pa_cons (pv 8) (pa_cons (pv 9) pa_nil)))))) pa_nil))))
      (pss_cons (ps_set (i := 10) sclaw.nd rfl (Or.inl rfl) (pe_op op_cat (pv 10) (pe_lst (pa_cons (pe_tup (pa_cons (pv 3) (pa_cons (pv 6) (pa_cons (pv 7) (pa_cons (pe_revF (pv 8)) (pa_cons (pv 9) pa_nil)))))) (pa_cons (pe_tup (pa_cons (pv 3) (pa_cons (pe_tup (pa_cons (pe_ix ix_tup (pv 6) pe_int (fun _ _ => rfl)) (pa_cons (pe_op op_add (pe_ix ix_tup (pv 6) pe_int (fun _ _ => rfl)) pe_int) pa_nil))) (pa_cons (pv 7) (pa_cons (pv 8) (pa_cons (pv 9) pa_nil)))))) pa_nil)))))
      (C8.pss_cut (ps_set (i := 10) sclaw.nd rfl (Or.inl rfl) (pe_op op_cat (pv 10) (pe_lst (pa_cons (pe_tup (pa_cons (pv 3) (pa_cons (pv 6) (pa_cons (pv 7) (pa_cons (pv 8) (pa_cons (pe_op op_mod (pe_op op_add (pv 9) pe_int) pe_int) pa_nil)))))) (pa_cons (pe_tup (pa_cons (pv 4) (pa_cons (pv 6) (pa_cons (pv 7) (pa_cons (pv 8) (pa_cons pe_int pa_nil)))))) pa_nil)))))
      (pss_one (ps_for PassesOwn.never rfl (pi_list (pe_op op_cat (pv 10) (pe_slice sl_list (pv 10) po_none (po_some pe_int)))) (pg_name (i := 11) sclaw.nd rfl (Or.inl rfl))
        (pss_cons (ps_set (i := 12) sclaw.nd rfl (Or.inl rfl) (pe_cl c_law_plain (hr.mono (by first | decide | omega)) rfl (pa_cons (pe_ix ix_tup (pv 11) pe_int (fun _ _ => rfl)) (pa_cons (pe_ix ix_tup (pe_ix ix_tup (pv 11) pe_int (fun _ _ => rfl)) pe_int (fun _ _ => rfl)) (pa_cons (pe_ix ix_tup (pe_ix ix_tup (pv 11) pe_int (fun _ _ => rfl)) pe_int (fun _ _ => rfl)) (pa_cons (pe_ix ix_tup (pv 11) pe_int (fun _ _ => rfl)) (pa_cons (pe_ix ix_tup (pe_ix ix_tup (pv 11) pe_int (fun _ _ => rfl)) pe_int (fun _ _ => rfl)) (pa_cons (pe_ix ix_tup (pe_ix ix_tup (pv 11) pe_int (fun _ _ => rfl)) pe_int (fun _ _ => rfl)) (pa_cons (pe_ix ix_tup (pv 11) pe_int (fun _ _ => rfl)) pa_nil)))))))))
        (pss_one (ps_for PassesOwn.never rfl (pi_range1 rfl T.m_range (pa_cons pe_int pa_nil)) (pg_name (i := 13) sclaw.nd rfl (Or.inl rfl))
          (pss_cons (ps_set (i := 14) sclaw.nd rfl (Or.inl rfl) (pe_cl c_law_told (hr.mono (by first | decide | omega)) rfl (pa_cons (pe_ix ix_tup (pv 11) pe_int (fun _ _ => rfl)) (pa_cons (pe_ix ix_tup (pv 11) pe_int (fun _ _ => rfl)) (pa_cons (pe_ix ix_tup (pv 11) pe_int (fun _ _ => rfl)) (pa_cons (pe_ix ix_tup (pv 11) pe_int (fun _ _ => rfl)) (pa_cons (pe_ix ix_tup (pv 11) pe_int (fun _ _ => rfl)) pa_nil)))))))
          (pss_cons (ps_if (pt_not (pt_val (pe_cl c_law_alike (hr.mono (by first | decide | omega)) rfl (pa_cons (pv 14) (pa_cons (pv 12) pa_nil)))))
            (pss_one (ps_ret pe_bl))
            pss_nil)
          (pss_one (ps_expr (pe_bm PySem.F.plainAttrs_list PySem.F.slot_list_append PySem.F.type_list_append mt_append (pv 14) (pa_cons pe_str pa_nil)))))))))))))))))))))
    (pss_one (ps_ret pe_bl)))), ?_⟩
  refine ⟨_, rfl, a, ns, rfl, hS, h63, fun t c H1 T1 s1 => ?_⟩
  refine ⟨_, rfl, t, c, 0, rfl, T1, by omega, fun p ws H2 T2 f2 hp lw lws => ?_⟩
  refine ⟨_, rfl, p, _, rfl, SqL.of hp, ?_⟩
  (intro p8 p80; generalize hh_ : upd _ p8 _ = H3; have hp8 := upd_is hh_; have s3 := same_is hh_ p80; clear hh_)
  have T3 := T2.same s3
  obtain ⟨us, eus, lus⟩ : ∃ us : List Str, cutV (ws.map V.str) none (some 8) = us.map V.str ∧ us.length ≤ 8 := by
    refine ⟨(ws.drop (HT.sIx ws.length 0 none)).take (HT.sIx ws.length ws.length (some 8) - HT.sIx ws.length 0 none), ?_, ?_⟩
    · unfold cutV
      rw [List.map_take, List.map_drop, List.length_map]
    · rw [List.length_take, List.length_drop]
      have : HT.sIx ws.length ws.length (some 8) = 8 := by rw [lw]; decide
      omega
  rw [eus] at hp8
  refine ⟨p8, rfl, ⟨_, SqL.of hp8⟩, ?_⟩
  have p8t : p8 ≠ t := T3.ne_lst hp8
  refine for_list (K := K) (a := p8) (xs := us.map V.str) (fun i σ Hz => ∃ k2 k3 k4 k5 k6 k7 k8 k9 k10 k11 k12 k13 k14 : Option V, σ = [some (.ref a), some (.ref t), k2, k3, k4, k5, k6, k7, k8, k9, k10, k11, k12, k13, k14] ∧ TapeAt Hz t c (200 + 2000 * i) ∧ Hz p8 = some (.lst (us.map V.str))) ?_ ?_ ?_ ?_
  · exact ⟨_, _, _, _, _, _, _, _, _, _, _, _, _, rfl, T3.mono (by omega), hp8⟩
  · rintro i σ Hz hi ⟨_, _, _, _, _, _, _, _, _, _, _, _, _, _, _, z⟩
    exact SqL.of z
  · rintro i v σ Hz hv ⟨k2, k3, k4, k5, k6, k7, k8, k9, k10, k11, k12, k13, k14, rfl, Tz, hz8⟩
    have i8 : i < 8 := by have := (List.getElem?_eq_some_iff.mp hv).1; rw [List.length_map] at this; omega
    rw [List.getElem?_map] at hv
    obtain ⟨l, hl, rfl⟩ := Option.map_eq_some_iff.mp hv
    refine ⟨_, rfl, _, rfl, t, c, l, _, rfl, Tz, by omega, fun a1 H4 T4 f4 w1 => ?_⟩
    refine ⟨_, rfl, _, rfl, t, c, l, _, rfl, T4, by omega, fun a2 H5 T5 f5 w2 => ?_⟩
    refine ⟨_, _, rfl, ?_⟩
    have w15 : WsAt H5 a1 l := by
      rcases w1 with ⟨W, ok, e⟩ | ⟨x, e⟩
      · exact .inl ⟨W, ok, f5 _ _ e (not_in_one (T4.ne_tup e))⟩
      · exact .inr ⟨x, f5 _ _ e (not_in_one (T4.ne_tup e))⟩
    have h85 : H5 p8 = some (.lst (us.map V.str)) := f5 _ _ (f4 _ _ hz8 (not_in_one p8t)) (not_in_one p8t)
    refine ⟨_, rfl, _, rfl, (by show 2 ≤ sizeLine; decide), ?_⟩
    (intro pr pr0; generalize hh_ : upd _ pr _ = H6; have hpr := upd_is hh_; have s6 := same_is hh_ pr0; clear hh_)
    refine ⟨pr, rfl, ⟨_, SqT.of hpr⟩, fun D hD => ?_⟩
    refine lc_tup (K := K) (a := pr) (xs := [.ref a1, .ref a2]) (fun i Hx => ∃ as : List Addr, Hx D = some (.lst (as.map V.ref)) ∧ as.length = i ∧ (∀ b ∈ as, ∃ W : Wi, W.ok ∧ Hx b = some (.tup (W.row l))) ∧ Same H6 Hx) ?_ (fun i Hx _ ⟨_, _, _, _, z⟩ => SqT.of (z _ _ hpr)) ?_ ?_
    · exact ⟨[], upd_same, rfl, fun q hq => (by cases hq), same_new hD⟩
    · rintro i' v Hx hv ⟨as, q1, q2, q3, q4⟩
      obtain ⟨b, rfl, wb⟩ : ∃ b, v = .ref b ∧ WsAt Hx b l := by
        have up : ∀ {b : Addr}, WsAt H5 b l → WsAt Hx b l := fun h => by
          rcases h with ⟨W, ok, e⟩ | ⟨x, e⟩
          · exact .inl ⟨W, ok, q4 _ _ (s6 _ _ e)⟩
          · exact .inr ⟨x, q4 _ _ (s6 _ _ e)⟩
        match i', hv with
        | 0, hv => cases hv; exact ⟨a1, rfl, up w15⟩
        | 1, hv => cases hv; exact ⟨a2, rfl, up w2⟩
      have i2 : i' < 2 := (List.getElem?_eq_some_iff.mp hv).1
      have keepr : ∀ {b' : Addr} {W : Wi} {Hw : Hp}, W.ok → Same Hx Hw → Hw b' = some (.tup (W.row l)) → ∃ acc, Hw D = some (.lst acc) ∧ acc.length < sizeLine ∧ ∃ as : List Addr, (upd Hw D (.lst (acc ++ [V.ref b']))) D = some (.lst (as.map V.ref)) ∧ as.length = i' + 1 ∧ (∀ b ∈ as, ∃ W : Wi, W.ok ∧ (upd Hw D (.lst (acc ++ [V.ref b']))) b = some (.tup (W.row l))) ∧ Same H6 (upd Hw D (.lst (acc ++ [V.ref b']))) := by
        intro b' W Hw ok sw e
        have hdw := sw _ _ q1
        refine ⟨_, hdw, small100 (by rw [List.length_map]; omega), as ++ [b'], ?_, by simp [q2], ?_, fun p o ep => ?_⟩
        · rw [upd_same, List.map_append]; rfl
        · intro z hz
          rcases List.mem_append.mp hz with hz | hz
          · obtain ⟨W', ok', e'⟩ := q3 z hz
            exact ⟨W', ok', by rw [upd_ne (ne_of (sw _ _ e') hdw (by intro z; cases z))]; exact sw _ _ e'⟩
          · rw [List.mem_singleton.mp hz]
            exact ⟨W, ok, by rw [upd_ne (ne_of e hdw (by intro z; cases z))]; exact e⟩
        · rw [upd_ne (ne_of_none ep hD)]
          exact sw _ _ (q4 _ _ ep)
      refine ⟨rfl, ?_⟩
      rcases wb with ⟨W, ok, e⟩ | ⟨x, e⟩
      · refine ⟨_, rfl, b, W.row l, 0, .str (match W with | .tap _ => "tap" | .press _ => "press" | .pull _ => "pull" | .spread => "spread" | .turn => "turn"), rfl, rfl, SqT.of e, atI_nat (j := 0) (by cases W <;> rfl), ?_⟩
        refine ⟨rfl, _, rfl, ?_⟩
        have ne : decide (V.str (match W with | .tap _ => "tap" | .press _ => "press" | .pull _ => "pull" | .spread => "spread" | .turn => "turn") = V.str "made") = false := by cases W <;> rfl
        rw [ne]
        exact iteF ⟨_, rfl, keepr ok (Same.refl _) e⟩
      · refine ⟨_, rfl, b, _, 0, .str "made", rfl, rfl, SqT.of e, atI_nat (j := 0) rfl, rfl, _, rfl, iteT ?_⟩
        refine ⟨_, rfl, (by show 3 ≤ sizeLine; decide), ?_⟩
        (intro b2 b20; generalize hh_ : upd _ b2 _ = Hw; have hb2 := upd_is hh_; have sw := same_is hh_ b20; clear hh_)
        exact keepr (W := .tap 2) ⟨by decide, by decide⟩ sw hb2
    rintro Hx ⟨as, q1, q2, q3, q4⟩
    match as, q2 with
    | [b1, b2], _ =>
    obtain ⟨W1, ok1, e1⟩ := q3 b1 (by simp)
    obtain ⟨W2, ok2, e2⟩ := q3 b2 (by simp)
    refine ⟨D, _, rfl, SqL.of q1, rfl, _, _, rfl, _, _, rfl, rfl, ?_⟩
    have T7 := (T5.same s6).same q4
    have h87 := q4 _ _ (s6 _ _ h85)
    clear q1 q3 hpr w15 w1 w2 pr0 hD h85 f4 f5 T4
    have ti : ∀ {H' : Hp} {b : Addr} {xs : List V} {n : Nat}, TapeAt H' t c n → H' b = some (.tup xs) → b ∉ [t] := fun T e => not_in_one (T.ne_tup e)
    refine ⟨fun σ Hy => ∃ (k5 : Option V) (s : Addr) (x y : Int), σ = [some (.ref a), some (.ref t), some (.str l), some (.ref b1), some (.ref b2), k5, some (.ref s), k7, k8, k9, k10, k11, k12, k13, k14] ∧ Hy b1 = some (.tup (W1.row l)) ∧ Hy b2 = some (.tup (W2.row l)) ∧ Hy s = some (.tup [.int x, .int y]) ∧ TapeAt Hy t c (200 + 2000 * i + 1203) ∧ Hy p8 = some (.lst (us.map V.str)), ?_, ?_⟩
    · refine ⟨_, rfl, t, c, 20001, _, rfl, T7, ⟨by decide, by decide⟩, by omega, fun x H8 hx T8 f8 => ?_⟩
      refine ⟨_, _, rfl, rfl, _, rfl, _, rfl, t, c, 20001, _, rfl, T8, ⟨by decide, by decide⟩, by omega, fun x2 H9 hx2 T9 f9 => ?_⟩
      refine ⟨_, _, rfl, rfl, (by show 4 ≤ sizeLine; decide), ?_⟩
      (intro lp lp0; generalize hh_ : upd _ lp _ = Ha; have hlp := upd_is hh_; have sa := same_is hh_ lp0; clear hh_)
      refine ⟨t, c, .ref lp, _, _, rfl, T9.same sa, .inl ⟨lp, rfl, (T9.same sa).ne_lst hlp, SqL.of hlp⟩, by show 1 ≤ 4; decide, by show 4 ≤ 1000; decide, by omega, fun v Hb hv' Tb fb => ?_⟩
      obtain ⟨y, rfl⟩ : ∃ b : Int, v = .int b := by
        simp only [List.mem_cons, List.not_mem_nil, or_false] at hv'
        rcases hv' with rfl | rfl | rfl | rfl <;> exact ⟨_, rfl⟩
      refine ⟨(by show 2 ≤ sizeLine; decide), ?_⟩
      (intro s s0; generalize hh_ : upd _ s _ = Hc; have hs := upd_is hh_; have scc := same_is hh_ s0; clear hh_)
      have up : ∀ {b : Addr} {o : HO}, Hx b = some o → b ≠ t → Hc b = some o := fun e n => scc _ _ (fb _ _ (sa _ _ (f9 _ _ (f8 _ _ e (not_in_one n)) (not_in_one n))) (not_in_one n))
      exact ⟨_, s, _, y, rfl, up e1 (T7.ne_tup e1), up e2 (T7.ne_tup e2), hs, (Tb.same scc).mono (by omega), up h87 p8t⟩
    rintro σ Hy ⟨k5, s, x, y, rfl, d1, d2, d3, Ty, d8⟩
    refine ⟨_, rfl, _, rfl, _, _, rfl, rfl, ⟨by decide, by decide +kernel⟩, t, c, _, _, rfl, Ty, ⟨by decide, by decide⟩, by omega, fun m1 H8 hm1 T8 f8 => ?_⟩
    refine ⟨(by show 4 ≤ sizeLine; decide), ?_⟩
    (intro lp lp0; generalize hh_ : upd _ lp _ = Ha; have hlp := upd_is hh_; have sa := same_is hh_ lp0; clear hh_)
    refine ⟨t, c, .ref lp, _, _, rfl, T8.same sa, .inl ⟨lp, rfl, (T8.same sa).ne_lst hlp, SqL.of hlp⟩, by show 1 ≤ 4; decide, by show 4 ≤ 1000; decide, by omega, fun v Hb hv' Tb fb => ?_⟩
    obtain ⟨m, rfl⟩ : ∃ b : Int, v = .int b := by
      simp only [List.mem_cons, List.not_mem_nil, or_false] at hv'
      rcases hv' with rfl | rfl | rfl | rfl <;> exact ⟨_, rfl⟩
    refine ⟨_, rfl, t, c, 10, _, rfl, Tb, ⟨by decide, by decide⟩, by omega, fun o Hc ho Tc fc => ?_⟩
    refine ⟨fun σ Hz => ∃ (q : Addr) (m o f' g r : Int), σ = [some (.ref a), some (.ref t), some (.str l), some (.ref b1), some (.ref b2), some (.int o), some (.ref s), some (.int m), some (.ref q), some (.int r), k10, k11, k12, k13, k14] ∧ Hz b1 = some (.tup (W1.row l)) ∧ Hz b2 = some (.tup (W2.row l)) ∧ Hz s = some (.tup [.int x, .int y]) ∧ Hz q = some (.tup [.int f', .int g]) ∧ TapeAt Hz t c (200 + 2000 * (i + 1)) ∧ Hz p8 = some (.lst (us.map V.str)), ?_, ?_⟩
    · refine ⟨_, rfl, _, rfl, _, _, rfl, rfl, _, rfl, t, c, 9, _, rfl, Tc, ⟨by decide, by decide⟩, by omega, fun g0 Hd hg0 Td fd => ?_⟩
      refine ⟨_, _, rfl, rfl, _, _, rfl, rfl, (by show (0 : Int) < 10; decide), (by show 2 ≤ sizeLine; decide), ?_⟩
      (intro q q0; generalize hh_ : upd _ q _ = He; have hq := upd_is hh_; have se := same_is hh_ q0; clear hh_)
      refine ⟨_, rfl, _, rfl, t, c, 1001, _, rfl, Td.same se, ⟨by decide, by decide⟩, by omega, fun r0 Hf hr0 Tf ff => ?_⟩
      refine ⟨(by show 4 ≤ sizeLine; decide), ?_⟩
      (intro lr lr0; generalize hh_ : upd _ lr _ = Hg; have hlr := upd_is hh_; have sg := same_is hh_ lr0; clear hh_)
      refine ⟨t, c, .ref lr, _, _, rfl, Tf.same sg, .inl ⟨lr, rfl, (Tf.same sg).ne_lst hlr, SqL.of hlr⟩, by show 1 ≤ 4; decide, by show 4 ≤ 1000; decide, by omega, fun v Hh hv' Th fh => ?_⟩
      obtain ⟨r, rfl⟩ : ∃ b : Int, v = .int b := by
        simp only [List.mem_cons, List.not_mem_nil, or_false] at hv'
        rcases hv' with rfl | rfl | rfl | rfl <;> exact ⟨_, rfl⟩
      have upe : ∀ {b : Addr} {o : HO}, He b = some o → b ≠ t → Hh b = some o := fun e n => fh _ _ (sg _ _ (ff _ _ e (not_in_one n))) (not_in_one n)
      have up : ∀ {b : Addr} {o : HO}, Hy b = some o → b ≠ t → Hh b = some o := fun e n => upe (se _ _ (fd _ _ (fc _ _ (fb _ _ (sa _ _ (f8 _ _ e (not_in_one n))) (not_in_one n)) (not_in_one n)) (not_in_one n))) n
      exact ⟨_, _, rfl, q, m, o, _, _, r, rfl, up d1 (Ty.ne_tup d1), up d2 (Ty.ne_tup d2), up d3 (Ty.ne_tup d3), upe hq ((Td.same se).ne_tup hq), Th.mono (by omega), up d8 p8t⟩
    clear T8 Tb Tc f8 fb fc hlp sa d1 d2 d3 Ty d8 ho hm1 T7 e1 e2 h87 lp0
    rintro σ Hz ⟨q, m, o, f', g, r, rfl, d1, d2, d3, d4, Tz, d8⟩
    have big5 : 5 ≤ sizeLine := by decide
    refine ⟨_, rfl, _, rfl, _, rfl, _, rfl, _, rfl, big5, ?_⟩
    (intro h1 z1; generalize hh_ : upd _ h1 _ = G1; have y1 := upd_is hh_; have s1x := same_is hh_ z1; clear hh_)
    refine ⟨_, rfl, _, rfl, _, rfl, _, _, rfl, rfl, _, rfl, _, rfl, big5, ?_⟩
    (intro h2 z2; generalize hh_ : upd _ h2 _ = G2; have y2 := upd_is hh_; have s2x := same_is hh_ z2; clear hh_)
    refine ⟨(by show 2 ≤ sizeLine; decide), ?_⟩
    (intro L1 zL1; generalize hh_ : upd _ L1 _ = G3; have yL1 := upd_is hh_; have s3x := same_is hh_ zL1; clear hh_)
    refine ⟨_, rfl, _, rfl, _, rfl, _, rfl, _, rfl, q, _, rfl, SqT.of ((s1x.trans (s2x.trans s3x)) _ _ d4), fun q2 oq q20 _ => ?_⟩
    generalize hh_ : upd G3 q2 _ = G4
    have yq2 : SqT K G4 q2 [.int g, .int f'] := .inl (.inr ⟨oq, upd_is hh_⟩)
    have s4x := same_is hh_ q20
    clear hh_
    have s14 := s1x.trans (s2x.trans (s3x.trans s4x))
    refine ⟨_, rfl, big5, ?_⟩
    (intro h3 z3; generalize hh_ : upd _ h3 _ = G5; have y3 := upd_is hh_; have s5x := same_is hh_ z3; clear hh_)
    refine ⟨_, rfl, _, rfl, s, _, 0, _, rfl, rfl, SqT.of ((s14.trans s5x) _ _ d3), atI_nat (j := 0) rfl, _, rfl, s, _, 1, _, rfl, rfl, SqT.of ((s14.trans s5x) _ _ d3), atI_nat (j := 1) rfl, _, _, rfl, rfl, (by show 2 ≤ sizeLine; decide), ?_⟩
    (intro sp zsp; generalize hh_ : upd _ sp _ = G6; have ysp := upd_is hh_; have s6x := same_is hh_ zsp; clear hh_)
    refine ⟨_, rfl, _, rfl, _, rfl, big5, ?_⟩
    (intro h4 z4; generalize hh_ : upd _ h4 _ = G7; have y4 := upd_is hh_; have s7x := same_is hh_ z4; clear hh_)
    refine ⟨(by show 2 ≤ sizeLine; decide), ?_⟩
    (intro LB zL2; generalize hh_ : upd _ LB _ = G8; have yL2 := upd_is hh_; have s8x := same_is hh_ zL2; clear hh_)
    have s48 := s4x.trans (s5x.trans (s6x.trans (s7x.trans s8x)))
    refine ⟨L1, LB, _, _, rfl, rfl, s48 _ _ yL1, yL2, (by show 2 + 2 ≤ sizeLine; decide), ?_⟩
    (intro L3 zL3; generalize hh_ : upd _ L3 _ = G9; have yL3 := upd_is hh_; have s9x := same_is hh_ zL3; clear hh_)
    have s59 := s5x.trans (s6x.trans (s7x.trans (s8x.trans s9x)))
    have s19 := s14.trans s59
    have e1 := s19 _ _ d1
    have e2 := s19 _ _ d2
    have e3 := SqT.of (K := K) (s19 _ _ d3)
    have e4 := SqT.of (K := K) (s19 _ _ d4)
    have t1 : ThAt K G9 (.ref h1) := ⟨W1, l, h1, b1, s, q, x, y, m, f', g, r, rfl, SqT.of ((s2x.trans (s3x.trans (s4x.trans s59))) _ _ y1), e1, ok1, e3, e4⟩
    have t2 : ThAt K G9 (.ref h2) := ⟨W1, l, h2, b1, s, q, x, y, m + 1, f', g, r, rfl, SqT.of ((s3x.trans (s4x.trans s59)) _ _ y2), e1, ok1, e3, e4⟩
    have t3 : ThAt K G9 (.ref h3) := ⟨W1, l, h3, b1, s, q2, x, y, m, g, f', r, rfl, SqT.of ((s6x.trans (s7x.trans (s8x.trans s9x))) _ _ y3), e1, ok1, e3, Same.tup s59 yq2⟩
    have t4 : ThAt K G9 (.ref h4) := ⟨W1, l, h4, b1, sp, q, x, y + 1, m, f', g, r, rfl, SqT.of ((s8x.trans s9x) _ _ y4), e1, ok1, SqT.of ((s7x.trans (s8x.trans s9x)) _ _ ysp), e4⟩
    have T9 := Tz.same s19
    have g8 := s19 _ _ d8
    clear y1 y2 y3 y4 ysp yL1 yL2 yq2 s1x s2x s3x s4x s5x s6x s7x s8x s9x s14 s48 s59 s19 d1 d2 d3 d4 d8 Tz z1 z2 z3 z4 zsp zL1 zL2 q20
    refine ⟨fun σ Hw => ∃ (L : Addr) (things : List V), σ = [some (.ref a), some (.ref t), some (.str l), some (.ref b1), some (.ref b2), some (.int o), some (.ref s), some (.int m), some (.ref q), some (.int r), some (.ref L), k11, k12, k13, k14] ∧ Hw L = some (.lst things) ∧ things.length = 6 ∧ (∀ v ∈ things, ThAt K Hw v) ∧ TapeAt Hw t c (200 + 2000 * (i + 1)) ∧ Hw p8 = some (.lst (us.map V.str)), ?_, ?_⟩
    · refine ⟨_, rfl, _, rfl, _, rfl, _, rfl, _, rfl, _, rfl, _, _, rfl, rfl, _, _, rfl, rfl, (by show (0 : Int) < 1001; decide), big5, ?_⟩
      (intro h5 z5; generalize hh_ : upd _ h5 _ = Ga; have y5 := upd_is hh_; have s1x := same_is hh_ z5; clear hh_)
      refine ⟨_, rfl, _, rfl, _, rfl, _, rfl, big5, ?_⟩
      (intro h6 z6; generalize hh_ : upd _ h6 _ = Gb; have y6 := upd_is hh_; have s2x := same_is hh_ z6; clear hh_)
      refine ⟨(by show 2 ≤ sizeLine; decide), ?_⟩
      (intro L4 zL4; generalize hh_ : upd _ L4 _ = Gc; have yL4 := upd_is hh_; have s3x := same_is hh_ zL4; clear hh_)
      refine ⟨L3, L4, _, _, rfl, rfl, (s1x.trans (s2x.trans s3x)) _ _ yL3, yL4, (by show 4 + 2 ≤ sizeLine; decide), ?_⟩
      (intro L zL; generalize hh_ : upd _ L _ = Gd; have yL := upd_is hh_; have s4x := same_is hh_ zL; clear hh_)
      have s14 := s1x.trans (s2x.trans (s3x.trans s4x))
      have t5 : ThAt K Gd (.ref h5) := ⟨W1, l, h5, b1, s, q, x, y, m, f', g, _, rfl, SqT.of ((s2x.trans (s3x.trans s4x)) _ _ y5), s14 _ _ e1, ok1, Same.tup s14 e3, Same.tup s14 e4⟩
      have t6 : ThAt K Gd (.ref h6) := ⟨W2, l, h6, b2, s, q, x, y, m, f', g, 18, rfl, SqT.of ((s3x.trans s4x) _ _ y6), s14 _ _ e2, ok2, Same.tup s14 e3, Same.tup s14 e4⟩
      refine ⟨L, _, rfl, yL, rfl, fun v hv => ?_, T9.same s14, s14 _ _ g8⟩
      simp only [List.mem_cons, List.mem_append, List.not_mem_nil, or_false] at hv
      rcases hv with ((rfl | rfl) | rfl | rfl) | rfl | rfl
      · exact t1.same s14
      · exact t2.same s14
      · exact t3.same s14
      · exact t4.same s14
      · exact t5
      · exact t6
    clear t1 t2 t3 t4 e1 e2 e3 e4 g8 T9 yL3 zL3
    rintro σ Hw ⟨L, things, rfl, hL, lth, th, Tw, w8⟩
    refine ⟨_, rfl, _, rfl, _, rfl, L, _, rfl, SqL.of hL, ?_⟩
    (intro S1 zS1; generalize hh_ : upd _ S1 _ = HS1; have yS1 := upd_is hh_; have s1x := same_is hh_ zS1; clear hh_)
    refine ⟨L, S1, _, _, rfl, rfl, s1x _ _ hL, yS1, ?_, ?_⟩
    · have : (cutV things none (some 1)).length ≤ things.length := by
        unfold cutV
        rw [List.length_take, List.length_drop]
        exact Nat.le_trans (Nat.min_le_right _ _) (Nat.sub_le _ _)
      have big : 100 ≤ sizeLine := by decide
      omega
    (intro L5 zL5; generalize hh_ : upd _ L5 _ = HB; have yL5 := upd_is hh_; have s2x := same_is hh_ zL5; clear hh_)
    have sB := s1x.trans s2x
    have thB : ∀ v ∈ things ++ cutV things none (some 1), ThAt K HB v := fun v hv => by
      rcases List.mem_append.mp hv with hv | hv
      · exact (th v hv).same sB
      · unfold cutV at hv
        exact (th v (List.mem_of_mem_drop (List.mem_of_mem_take hv))).same sB
    have TB := Tw.same sB
    have b8 := sB _ _ w8
    clear s1x s2x sB yS1 zS1 zL5 hL Tw w8 th lth
    refine ⟨L5, rfl, ⟨_, SqL.of yL5⟩, ?_⟩
    refine for_list (K := K) (a := L5) (xs := things ++ cutV things none (some 1)) (fun j σ Hx => ∃ k11 k12 k13 k14 : Option V, σ = [some (.ref a), some (.ref t), some (.str l), some (.ref b1), some (.ref b2), some (.int o), some (.ref s), some (.int m), some (.ref q), some (.int r), some (.ref L), k11, k12, k13, k14] ∧ Same HB Hx) ?_ (fun j σ Hx _ ⟨_, _, _, _, _, z⟩ => SqL.of (z _ _ yL5)) ?_ ?_
    · exact ⟨_, _, _, _, rfl, Same.refl _⟩
    · rintro j v σ Hx hv ⟨k11, k12, k13, k14, rfl, sx⟩
      obtain ⟨W, l', th, a', s', q', x', y', m', f'', g', r', rfl, u1, u2, u3, u4, u5⟩ := (thB v (List.mem_of_getElem? hv)).same sx
      refine ⟨_, rfl, th, _, 0, _, rfl, rfl, u1, atI_nat (j := 0) rfl, _, rfl, th, _, 1, _, rfl, rfl, u1, atI_nat (j := 1) rfl, s', _, 0, _, rfl, rfl, u4, atI_nat (j := 0) rfl, _, rfl, th, _, 1, _, rfl, rfl, u1, atI_nat (j := 1) rfl, s', _, 1, _, rfl, rfl, u4, atI_nat (j := 1) rfl, ?_⟩
      refine ⟨_, rfl, th, _, 2, _, rfl, rfl, u1, atI_nat (j := 2) rfl, _, rfl, th, _, 3, _, rfl, rfl, u1, atI_nat (j := 3) rfl, q', _, 0, _, rfl, rfl, u5, atI_nat (j := 0) rfl, _, rfl, th, _, 3, _, rfl, rfl, u1, atI_nat (j := 3) rfl, q', _, 1, _, rfl, rfl, u5, atI_nat (j := 1) rfl, _, rfl, th, _, 4, _, rfl, rfl, u1, atI_nat (j := 4) rfl, ?_⟩
      refine ⟨W, l', a', x', y', m', f'', g', r', rfl, u2, u3, fun due G1 g1 due0 tsd => ?_⟩
      refine ⟨2, rfl, by decide, by decide, for_range (n := 2) (fun j2 σ Gx => ∃ k13 k14 : Option V, σ = [some (.ref a), some (.ref t), some (.str l), some (.ref b1), some (.ref b2), some (.int o), some (.ref s), some (.int m), some (.ref q), some (.int r), some (.ref L), some (.ref th), some (.ref due), k13, k14] ∧ Same G1 Gx) ?_ ?_ ?_⟩
      · exact ⟨_, _, rfl, Same.refl _⟩
      · rintro j2 σ Gx hj2 ⟨k13, k14, rfl, gx⟩
        have g1x := g1.trans gx
        have v1 : SqT K Gx th _ := Same.tup g1x u1
        refine ⟨_, rfl, th, _, 0, _, rfl, rfl, v1, atI_nat (j := 0) rfl, _, rfl, th, _, 1, _, rfl, rfl, v1, atI_nat (j := 1) rfl, _, rfl, th, _, 2, _, rfl, rfl, v1, atI_nat (j := 2) rfl, _, rfl, th, _, 3, _, rfl, rfl, v1, atI_nat (j := 3) rfl, _, rfl, th, _, 4, _, rfl, rfl, v1, atI_nat (j := 4) rfl, ?_⟩
        refine ⟨W, l', a', s', q', x', y', m', f'', g', r', rfl, SqT.of (g1x _ _ u2), u3, Same.tup g1x u4, Same.tup g1x u5, fun fo G2 g2 fo0 tsf => ?_⟩
        obtain ⟨vd, hd, id⟩ := tsd
        obtain ⟨vf, hf, ifo⟩ := tsf
        have gx2 := gx.trans g2
        obtain ⟨dp, fw⟩ := pl_fine W u3 x' y' m' f'' g' r'
        refine ⟨_, rfl, _, rfl, _, _, _, rfl, .lst (SqL.of hf) (ImAll.dp ifo), .lst (SqL.of (gx2 _ _ hd)) (ImAll.dp (id.same gx2)), Nat.lt_of_lt_of_le dp (by decide), fw, fun G3 g3 => ?_⟩
        have l1000 : (W.pl x' y' m' f'' g' r').length ≤ 1000 := by
          have fw' : (decide ((W.pl x' y' m' f'' g' r').length ≤ 1000) && fewAll (W.pl x' y' m' f'' g' r')) = true := fw
          rw [Bool.and_eq_true] at fw'
          exact of_decide_eq_true fw'.1
        refine ⟨_, rfl, iteF ⟨_, rfl, .inl ⟨rfl, _, SqL.of (g3 _ _ hf)⟩, fo, _, _, rfl, rfl, g3 _ _ hf, ?_, ?_⟩⟩
        · rw [ifo.ln]
          exact Nat.lt_of_le_of_lt l1000 (by decide)
        · exact ⟨_, _, rfl, fun b o' e => by rw [upd_ne (ne_of_none (gx _ _ e) fo0)]; exact g3 _ _ (g2 _ _ (gx _ _ e))⟩
      · rintro σ Gx ⟨k13, k14, rfl, gx⟩
        exact ⟨_, _, _, _, rfl, sx.trans (g1.trans gx)⟩
    · rintro σ Hx ⟨k11, k12, k13, k14, rfl, sx⟩
      exact ⟨_, _, _, _, _, _, _, _, _, _, _, _, _, rfl, TB.same sx, sx _ _ b8⟩
  · rintro σ Hz _
    exact k _
end
end SG
namespace SG
open PySem PySem.Spec PyProof.Rows L2
theorem dfk_led {K : PySem.W.Frag} {mg : Str → Option Value} {f D : Addr} {oc doc pm cdv ct : Value} {od an : Option Addr} {osl : Array (Option Value)} {t0 : Tok}
    (l : K.lookup f = some ⟨oc, od, .func (PySem.W.fnOf "led" "led" (defArgs sled) (defBody sled) (defScope sled) .none (.ref D) doc pm an cdv ct), osl⟩)
    (c : PySem.W.codeIn K cdv "led" = true) (k : PySem.W.keepIn K (.ref f) = true) (n0 : PySem.W.nsIn K D "slop" = some (some (.int 18 t0))) (m : mg "led" = some (.ref f)) :
    DfK K mg "led" sled ["history", "x", "y", "moment", "finger", "slop"] 5 ["slop"] [.int 18] := by
  have F := fun_mk (st := sled) l c k
  have FD : FunD K "led" "led" (defArgs sled) (defBody sled) (defScope sled) [] [(("slop" : Str), (.int 18 : V))] f (PySem.W.fnOf "led" "led" (defArgs sled) (defBody sled) (defScope sled) .none (.ref D) doc pm an cdv ct) :=
    ⟨⟨_, _, _, _, _, _, _, _, _, _, rfl, l, c, .inl ⟨rfl, rfl⟩, .inr ⟨D, rfl, fun q hq => by rw [List.mem_singleton.mp hq]; exact ⟨_, n0, ⟨_, rfl⟩⟩⟩⟩, k⟩
  obtain ⟨ds, vd, b⟩ := FD.binds0 (ps := ["history", "x", "y", "moment", "finger", "slop"]) 5 (by simp) rfl (fun D doc pm an cdv ct us ks hu hk => by
    match us, hu, ks, hk with
    | [_, _, _, _, _], _, [_], _ => exact ⟨_, _, _, _, _, _, rfl, rfl, rfl⟩)
  refine ⟨⟨_, _, _, F, m, b, vd, kbn_of fun us ws hu hw => ?_⟩⟩
  match us, hu, ws, hw with
  | [_, _, _, _, _], _, [_], _ => rfl
theorem dfk_plain {K : PySem.W.Frag} {mg : Str → Option Value} {f D : Addr} {oc doc pm cdv ct : Value} {od an : Option Addr} {osl : Array (Option Value)} {t0 : Tok}
    (l : K.lookup f = some ⟨oc, od, .func (PySem.W.fnOf "plain" "plain" (defArgs splain) (defBody splain) (defScope splain) .none (.ref D) doc pm an cdv ct), osl⟩)
    (c : PySem.W.codeIn K cdv "plain" = true) (k : PySem.W.keepIn K (.ref f) = true) (n0 : PySem.W.nsIn K D "slop" = some (some (.int 18 t0))) (m : mg "plain" = some (.ref f)) :
    DfK K mg "plain" splain ["wish", "x", "y", "moment", "fingers", "slop"] 5 ["slop"] [.int 18] := by
  have F := fun_mk (st := splain) l c k
  have FD : FunD K "plain" "plain" (defArgs splain) (defBody splain) (defScope splain) [] [(("slop" : Str), (.int 18 : V))] f (PySem.W.fnOf "plain" "plain" (defArgs splain) (defBody splain) (defScope splain) .none (.ref D) doc pm an cdv ct) :=
    ⟨⟨_, _, _, _, _, _, _, _, _, _, rfl, l, c, .inl ⟨rfl, rfl⟩, .inr ⟨D, rfl, fun q hq => by rw [List.mem_singleton.mp hq]; exact ⟨_, n0, ⟨_, rfl⟩⟩⟩⟩, k⟩
  obtain ⟨ds, vd, b⟩ := FD.binds0 (ps := ["wish", "x", "y", "moment", "fingers", "slop"]) 5 (by simp) rfl (fun D doc pm an cdv ct us ks hu hk => by
    match us, hu, ks, hk with
    | [_, _, _, _, _], _, [_], _ => exact ⟨_, _, _, _, _, _, rfl, rfl, rfl⟩)
  refine ⟨⟨_, _, _, F, m, b, vd, kbn_of fun us ws hu hw => ?_⟩⟩
  match us, hu, ws, hw with
  | [_, _, _, _, _], _, [_], _ => rfl
theorem all_mk {l : PySem.W.OpenLaw} {w : World} {K : PySem.W.Frag} {h : Heap} {mg : Str → Option Value} {fa f1 f2 f3 f4 f5 f6 f7 f8 f9 f10 f11 f12 f13 f14 f15 f16 f17 f18 f19 f20 f21 f22 f23 f24 f25 f26 f27 f28 f29  : Addr} (X : K.In h) (G : h.Ns mainGlobals mg) (hfa : mg "law" = some (.ref fa)) {od1 an1 od2 an2 od3 an3 od4 an4 od5 an5 od6 an6 od7 an7 od8 an8 od9 an9 od10 an10 od11 an11 od12 an12 od13 an13 od14 an14 od15 an15 od16 an16 od17 an17 od18 an18 od19 an19 od20 an20 od21 an21 od22 an22 od23 an23 od24 an24 od25 an25 od26 an26 od27 an27 od28 an28 od29 an29 : Option Addr} {sl1 sl2 sl3 sl4 sl5 sl6 sl7 sl8 sl9 sl10 sl11 sl12 sl13 sl14 sl15 sl16 sl17 sl18 sl19 sl20 sl21 sl22 sl23 sl24 sl25 sl26 sl27 sl28 sl29 : Array (Option Value)} {oc1 kV1 dc1 pm1 cd1 ct1 oc2 kV2 dc2 pm2 cd2 ct2 oc3 dc3 pm3 cd3 ct3 oc4 kV4 dc4 pm4 cd4 ct4 oc5 kV5 dc5 pm5 cd5 ct5 oc6 kV6 dc6 pm6 cd6 ct6 oc7 kV7 dc7 pm7 cd7 ct7 oc8 kV8 dc8 pm8 cd8 ct8 oc9 kV9 dc9 pm9 cd9 ct9 oc10 kV10 dc10 pm10 cd10 ct10 oc11 kV11 dc11 pm11 cd11 ct11 oc12 kV12 dc12 pm12 cd12 ct12 oc13 kV13 dc13 pm13 cd13 ct13 oc14 kV14 dc14 pm14 cd14 ct14 oc15 dc15 pm15 cd15 ct15 oc16 kV16 dc16 pm16 cd16 ct16 oc17 kV17 dc17 pm17 cd17 ct17 oc18 kV18 dc18 pm18 cd18 ct18 oc19 kV19 dc19 pm19 cd19 ct19 oc20 kV20 dc20 pm20 cd20 ct20 oc21 kV21 dc21 pm21 cd21 ct21 oc22 kV22 dc22 pm22 cd22 ct22 oc23 kV23 dc23 pm23 cd23 ct23 oc24 kV24 dc24 pm24 cd24 ct24 oc25 kV25 dc25 pm25 cd25 ct25 oc26 kV26 dc26 pm26 cd26 ct26 oc27 kV27 dc27 pm27 cd27 ct27 oc28 kV28 dc28 pm28 cd28 ct28 oc29 kV29 dc29 pm29 cd29 ct29 : Value} {aENDS : Addr} {dENDS : Option Addr} {nENDS : Nat} {sENDS : Array (Option Value)} {uENDS0 uENDS1 : Tok} {kd3 kd15 : Addr} {wt3_0 wt15_0 : Tok} {tSTEP_TIME tTAP_TIME tAPART : Tok}
    (a1 : PySem.W.nsIn K mainGlobals "stepped" = some (some (.ref f1)))
    (l1 : K.lookup f1 = some ⟨oc1, od1, .func (PySem.W.fnOf "stepped" "stepped" (defArgs sstepped) (defBody sstepped) (defScope sstepped) .none kV1 dc1 pm1 an1 cd1 ct1), sl1⟩)
    (c1 : PySem.W.codeIn K cd1 "stepped" = true)
    (k1 : PySem.W.keepIn K (.ref f1) = true)
    (a2 : PySem.W.nsIn K mainGlobals "claimed" = some (some (.ref f2)))
    (l2 : K.lookup f2 = some ⟨oc2, od2, .func (PySem.W.fnOf "claimed" "claimed" (defArgs sclaimed) (defBody sclaimed) (defScope sclaimed) .none kV2 dc2 pm2 an2 cd2 ct2), sl2⟩)
    (c2 : PySem.W.codeIn K cd2 "claimed" = true)
    (k2 : PySem.W.keepIn K (.ref f2) = true)
    (a3 : PySem.W.nsIn K mainGlobals "led" = some (some (.ref f3)))
    (l3 : K.lookup f3 = some ⟨oc3, od3, .func (PySem.W.fnOf "led" "led" (defArgs sled) (defBody sled) (defScope sled) .none (.ref kd3) dc3 pm3 an3 cd3 ct3), sl3⟩)
    (c3 : PySem.W.codeIn K cd3 "led" = true)
    (k3 : PySem.W.keepIn K (.ref f3) = true)
    (w3_0 : PySem.W.nsIn K kd3 "slop" = some (some (.int 18 wt3_0)))
    (a4 : PySem.W.nsIn K mainGlobals "_has_claimed" = some (some (.ref f4)))
    (l4 : K.lookup f4 = some ⟨oc4, od4, .func (PySem.W.fnOf "_has_claimed" "_has_claimed" (defArgs s_has_claimed) (defBody s_has_claimed) (defScope s_has_claimed) .none kV4 dc4 pm4 an4 cd4 ct4), sl4⟩)
    (c4 : PySem.W.codeIn K cd4 "_has_claimed" = true)
    (k4 : PySem.W.keepIn K (.ref f4) = true)
    (a5 : PySem.W.nsIn K mainGlobals "_shortest" = some (some (.ref f5)))
    (l5 : K.lookup f5 = some ⟨oc5, od5, .func (PySem.W.fnOf "_shortest" "_shortest" (defArgs s_shortest) (defBody s_shortest) (defScope s_shortest) .none kV5 dc5 pm5 an5 cd5 ct5), sl5⟩)
    (c5 : PySem.W.codeIn K cd5 "_shortest" = true)
    (k5 : PySem.W.keepIn K (.ref f5) = true)
    (a6 : PySem.W.nsIn K mainGlobals "_looks" = some (some (.ref f6)))
    (l6 : K.lookup f6 = some ⟨oc6, od6, .func (PySem.W.fnOf "_looks" "_looks" (defArgs s_looks) (defBody s_looks) (defScope s_looks) .none kV6 dc6 pm6 an6 cd6 ct6), sl6⟩)
    (c6 : PySem.W.codeIn K cd6 "_looks" = true)
    (k6 : PySem.W.keepIn K (.ref f6) = true)
    (a7 : PySem.W.nsIn K mainGlobals "_look" = some (some (.ref f7)))
    (l7 : K.lookup f7 = some ⟨oc7, od7, .func (PySem.W.fnOf "_look" "_look" (defArgs s_look) (defBody s_look) (defScope s_look) .none kV7 dc7 pm7 an7 cd7 ct7), sl7⟩)
    (c7 : PySem.W.codeIn K cd7 "_look" = true)
    (k7 : PySem.W.keepIn K (.ref f7) = true)
    (a8 : PySem.W.nsIn K mainGlobals "_next_ones" = some (some (.ref f8)))
    (l8 : K.lookup f8 = some ⟨oc8, od8, .func (PySem.W.fnOf "_next_ones" "_next_ones" (defArgs s_next_ones) (defBody s_next_ones) (defScope s_next_ones) .none kV8 dc8 pm8 an8 cd8 ct8), sl8⟩)
    (c8 : PySem.W.codeIn K cd8 "_next_ones" = true)
    (k8 : PySem.W.keepIn K (.ref f8) = true)
    (a9 : PySem.W.nsIn K mainGlobals "_is_up_behind" = some (some (.ref f9)))
    (l9 : K.lookup f9 = some ⟨oc9, od9, .func (PySem.W.fnOf "_is_up_behind" "_is_up_behind" (defArgs s_is_up_behind) (defBody s_is_up_behind) (defScope s_is_up_behind) .none kV9 dc9 pm9 an9 cd9 ct9), sl9⟩)
    (c9 : PySem.W.codeIn K cd9 "_is_up_behind" = true)
    (k9 : PySem.W.keepIn K (.ref f9) = true)
    (a10 : PySem.W.nsIn K mainGlobals "_stepped_all" = some (some (.ref f10)))
    (l10 : K.lookup f10 = some ⟨oc10, od10, .func (PySem.W.fnOf "_stepped_all" "_stepped_all" (defArgs s_stepped_all) (defBody s_stepped_all) (defScope s_stepped_all) .none kV10 dc10 pm10 an10 cd10 ct10), sl10⟩)
    (c10 : PySem.W.codeIn K cd10 "_stepped_all" = true)
    (k10 : PySem.W.keepIn K (.ref f10) = true)
    (a11 : PySem.W.nsIn K mainGlobals "_entered" = some (some (.ref f11)))
    (l11 : K.lookup f11 = some ⟨oc11, od11, .func (PySem.W.fnOf "_entered" "_entered" (defArgs s_entered) (defBody s_entered) (defScope s_entered) .none kV11 dc11 pm11 an11 cd11 ct11), sl11⟩)
    (c11 : PySem.W.codeIn K cd11 "_entered" = true)
    (k11 : PySem.W.keepIn K (.ref f11) = true)
    (a12 : PySem.W.nsIn K mainGlobals "_passed" = some (some (.ref f12)))
    (l12 : K.lookup f12 = some ⟨oc12, od12, .func (PySem.W.fnOf "_passed" "_passed" (defArgs s_passed) (defBody s_passed) (defScope s_passed) .none kV12 dc12 pm12 an12 cd12 ct12), sl12⟩)
    (c12 : PySem.W.codeIn K cd12 "_passed" = true)
    (k12 : PySem.W.keepIn K (.ref f12) = true)
    (a13 : PySem.W.nsIn K mainGlobals "_ends_of" = some (some (.ref f13)))
    (l13 : K.lookup f13 = some ⟨oc13, od13, .func (PySem.W.fnOf "_ends_of" "_ends_of" (defArgs s_ends_of) (defBody s_ends_of) (defScope s_ends_of) .none kV13 dc13 pm13 an13 cd13 ct13), sl13⟩)
    (c13 : PySem.W.codeIn K cd13 "_ends_of" = true)
    (k13 : PySem.W.keepIn K (.ref f13) = true)
    (a14 : PySem.W.nsIn K mainGlobals "_at_time" = some (some (.ref f14)))
    (l14 : K.lookup f14 = some ⟨oc14, od14, .func (PySem.W.fnOf "_at_time" "_at_time" (defArgs s_at_time) (defBody s_at_time) (defScope s_at_time) .none kV14 dc14 pm14 an14 cd14 ct14), sl14⟩)
    (c14 : PySem.W.codeIn K cd14 "_at_time" = true)
    (k14 : PySem.W.keepIn K (.ref f14) = true)
    (a15 : PySem.W.nsIn K mainGlobals "plain" = some (some (.ref f15)))
    (l15 : K.lookup f15 = some ⟨oc15, od15, .func (PySem.W.fnOf "plain" "plain" (defArgs splain) (defBody splain) (defScope splain) .none (.ref kd15) dc15 pm15 an15 cd15 ct15), sl15⟩)
    (c15 : PySem.W.codeIn K cd15 "plain" = true)
    (k15 : PySem.W.keepIn K (.ref f15) = true)
    (w15_0 : PySem.W.nsIn K kd15 "slop" = some (some (.int 18 wt15_0)))
    (a16 : PySem.W.nsIn K mainGlobals "_plain_taps" = some (some (.ref f16)))
    (l16 : K.lookup f16 = some ⟨oc16, od16, .func (PySem.W.fnOf "_plain_taps" "_plain_taps" (defArgs s_plain_taps) (defBody s_plain_taps) (defScope s_plain_taps) .none kV16 dc16 pm16 an16 cd16 ct16), sl16⟩)
    (c16 : PySem.W.codeIn K cd16 "_plain_taps" = true)
    (k16 : PySem.W.keepIn K (.ref f16) = true)
    (a17 : PySem.W.nsIn K mainGlobals "_plain_pull" = some (some (.ref f17)))
    (l17 : K.lookup f17 = some ⟨oc17, od17, .func (PySem.W.fnOf "_plain_pull" "_plain_pull" (defArgs s_plain_pull) (defBody s_plain_pull) (defScope s_plain_pull) .none kV17 dc17 pm17 an17 cd17 ct17), sl17⟩)
    (c17 : PySem.W.codeIn K cd17 "_plain_pull" = true)
    (k17 : PySem.W.keepIn K (.ref f17) = true)
    (a18 : PySem.W.nsIn K mainGlobals "_plain_pair" = some (some (.ref f18)))
    (l18 : K.lookup f18 = some ⟨oc18, od18, .func (PySem.W.fnOf "_plain_pair" "_plain_pair" (defArgs s_plain_pair) (defBody s_plain_pair) (defScope s_plain_pair) .none kV18 dc18 pm18 an18 cd18 ct18), sl18⟩)
    (c18 : PySem.W.codeIn K cd18 "_plain_pair" = true)
    (k18 : PySem.W.keepIn K (.ref f18) = true)
    (a19 : PySem.W.nsIn K mainGlobals "_law_tape" = some (some (.ref f19)))
    (l19 : K.lookup f19 = some ⟨oc19, od19, .func (PySem.W.fnOf "_law_tape" "_law_tape" (defArgs s_law_tape) (defBody s_law_tape) (defScope s_law_tape) .none kV19 dc19 pm19 an19 cd19 ct19), sl19⟩)
    (c19 : PySem.W.codeIn K cd19 "_law_tape" = true)
    (k19 : PySem.W.keepIn K (.ref f19) = true)
    (a20 : PySem.W.nsIn K mainGlobals "_law_draw" = some (some (.ref f20)))
    (l20 : K.lookup f20 = some ⟨oc20, od20, .func (PySem.W.fnOf "_law_draw" "_law_draw" (defArgs s_law_draw) (defBody s_law_draw) (defScope s_law_draw) .none kV20 dc20 pm20 an20 cd20 ct20), sl20⟩)
    (c20 : PySem.W.codeIn K cd20 "_law_draw" = true)
    (k20 : PySem.W.keepIn K (.ref f20) = true)
    (a21 : PySem.W.nsIn K mainGlobals "_law_pick" = some (some (.ref f21)))
    (l21 : K.lookup f21 = some ⟨oc21, od21, .func (PySem.W.fnOf "_law_pick" "_law_pick" (defArgs s_law_pick) (defBody s_law_pick) (defScope s_law_pick) .none kV21 dc21 pm21 an21 cd21 ct21), sl21⟩)
    (c21 : PySem.W.codeIn K cd21 "_law_pick" = true)
    (k21 : PySem.W.keepIn K (.ref f21) = true)
    (a22 : PySem.W.nsIn K mainGlobals "_law_words" = some (some (.ref f22)))
    (l22 : K.lookup f22 = some ⟨oc22, od22, .func (PySem.W.fnOf "_law_words" "_law_words" (defArgs s_law_words) (defBody s_law_words) (defScope s_law_words) .none kV22 dc22 pm22 an22 cd22 ct22), sl22⟩)
    (c22 : PySem.W.codeIn K cd22 "_law_words" = true)
    (k22 : PySem.W.keepIn K (.ref f22) = true)
    (a23 : PySem.W.nsIn K mainGlobals "_law_moved" = some (some (.ref f23)))
    (l23 : K.lookup f23 = some ⟨oc23, od23, .func (PySem.W.fnOf "_law_moved" "_law_moved" (defArgs s_law_moved) (defBody s_law_moved) (defScope s_law_moved) .none kV23 dc23 pm23 an23 cd23 ct23), sl23⟩)
    (c23 : PySem.W.codeIn K cd23 "_law_moved" = true)
    (k23 : PySem.W.keepIn K (.ref f23) = true)
    (a24 : PySem.W.nsIn K mainGlobals "_law_machine" = some (some (.ref f24)))
    (l24 : K.lookup f24 = some ⟨oc24, od24, .func (PySem.W.fnOf "_law_machine" "_law_machine" (defArgs s_law_machine) (defBody s_law_machine) (defScope s_law_machine) .none kV24 dc24 pm24 an24 cd24 ct24), sl24⟩)
    (c24 : PySem.W.codeIn K cd24 "_law_machine" = true)
    (k24 : PySem.W.keepIn K (.ref f24) = true)
    (a25 : PySem.W.nsIn K mainGlobals "_law_wish" = some (some (.ref f25)))
    (l25 : K.lookup f25 = some ⟨oc25, od25, .func (PySem.W.fnOf "_law_wish" "_law_wish" (defArgs s_law_wish) (defBody s_law_wish) (defScope s_law_wish) .none kV25 dc25 pm25 an25 cd25 ct25), sl25⟩)
    (c25 : PySem.W.codeIn K cd25 "_law_wish" = true)
    (k25 : PySem.W.keepIn K (.ref f25) = true)
    (a26 : PySem.W.nsIn K mainGlobals "_law_alike" = some (some (.ref f26)))
    (l26 : K.lookup f26 = some ⟨oc26, od26, .func (PySem.W.fnOf "_law_alike" "_law_alike" (defArgs s_law_alike) (defBody s_law_alike) (defScope s_law_alike) .none kV26 dc26 pm26 an26 cd26 ct26), sl26⟩)
    (c26 : PySem.W.codeIn K cd26 "_law_alike" = true)
    (k26 : PySem.W.keepIn K (.ref f26) = true)
    (a27 : PySem.W.nsIn K mainGlobals "_law_plain" = some (some (.ref f27)))
    (l27 : K.lookup f27 = some ⟨oc27, od27, .func (PySem.W.fnOf "_law_plain" "_law_plain" (defArgs s_law_plain) (defBody s_law_plain) (defScope s_law_plain) .none kV27 dc27 pm27 an27 cd27 ct27), sl27⟩)
    (c27 : PySem.W.codeIn K cd27 "_law_plain" = true)
    (k27 : PySem.W.keepIn K (.ref f27) = true)
    (a28 : PySem.W.nsIn K mainGlobals "_law_told" = some (some (.ref f28)))
    (l28 : K.lookup f28 = some ⟨oc28, od28, .func (PySem.W.fnOf "_law_told" "_law_told" (defArgs s_law_told) (defBody s_law_told) (defScope s_law_told) .none kV28 dc28 pm28 an28 cd28 ct28), sl28⟩)
    (c28 : PySem.W.codeIn K cd28 "_law_told" = true)
    (k28 : PySem.W.keepIn K (.ref f28) = true)
    (a29 : PySem.W.nsIn K mainGlobals "law" = some (some (.ref f29)))
    (l29 : K.lookup f29 = some ⟨oc29, od29, .func (PySem.W.fnOf "law" "law" (defArgs slaw) (defBody slaw) (defScope slaw) .none kV29 dc29 pm29 an29 cd29 ct29), sl29⟩)
    (c29 : PySem.W.codeIn K cd29 "law" = true)
    (k29 : PySem.W.keepIn K (.ref f29) = true)
    (zall : PySem.W.nsIn K mainGlobals "all" = some none)
    (zany : PySem.W.nsIn K mainGlobals "any" = some none)
    (zbool : PySem.W.nsIn K mainGlobals "bool" = some none)
    (zdict : PySem.W.nsIn K mainGlobals "dict" = some none)
    (zint : PySem.W.nsIn K mainGlobals "int" = some none)
    (zisinstance : PySem.W.nsIn K mainGlobals "isinstance" = some none)
    (zlen : PySem.W.nsIn K mainGlobals "len" = some none)
    (zlist : PySem.W.nsIn K mainGlobals "list" = some none)
    (zmin : PySem.W.nsIn K mainGlobals "min" = some none)
    (zrange : PySem.W.nsIn K mainGlobals "range" = some none)
    (zset : PySem.W.nsIn K mainGlobals "set" = some none)
    (zsorted : PySem.W.nsIn K mainGlobals "sorted" = some none)
    (zstr : PySem.W.nsIn K mainGlobals "str" = some none)
    (zsum : PySem.W.nsIn K mainGlobals "sum" = some none)
    (ztuple : PySem.W.nsIn K mainGlobals "tuple" = some none)
    (zzip : PySem.W.nsIn K mainGlobals "zip" = some none)
    (ySTEP_TIME : PySem.W.nsIn K mainGlobals "STEP_TIME" = some (some (.int 10 tSTEP_TIME)))
    (yTAP_TIME : PySem.W.nsIn K mainGlobals "TAP_TIME" = some (some (.int 50 tTAP_TIME)))
    (yAPART : PySem.W.nsIn K mainGlobals "APART" = some (some (.int 40 tAPART)))
    (yENDS : PySem.W.nsIn K mainGlobals "ENDS" = some (some (.ref aENDS)))
    (xENDS : K.lookup aENDS = some ⟨.type "tuple", dENDS, .seq #[.str "claim" uENDS0, .str "give" uENDS1] nENDS, sENDS⟩)
    : ∃ fd : FuncData, (∀ (s : Shared) (v : Value), BindsTo s fd ⟨[v], []⟩ [("_law_script", v)]) ∧ ∀ base : Heap, K.In base → base.Ns mainGlobals mg → FnG l.prog w K mg base 8 fa fd ["_law_script"] (spLaw K) := by
  have e := hfa.symm.trans (PySem.W.mg_of X G a29)
  cases e
  have T : Txt K mg := ⟨PySem.W.mg_none_of X G zall, PySem.W.mg_none_of X G zany, PySem.W.mg_none_of X G zbool, PySem.W.mg_none_of X G zdict, PySem.W.mg_none_of X G zint, PySem.W.mg_none_of X G zisinstance, PySem.W.mg_none_of X G zlen, PySem.W.mg_none_of X G zlist, PySem.W.mg_none_of X G zmin, PySem.W.mg_none_of X G zrange, PySem.W.mg_none_of X G zset, PySem.W.mg_none_of X G zsorted, PySem.W.mg_none_of X G zstr, PySem.W.mg_none_of X G zsum, PySem.W.mg_none_of X G ztuple, PySem.W.mg_none_of X G zzip, ⟨_, PySem.W.mg_of X G ySTEP_TIME⟩, ⟨_, PySem.W.mg_of X G yTAP_TIME⟩, ⟨_, PySem.W.mg_of X G yAPART⟩, ⟨_, PySem.W.mg_of X G yENDS, fun _ => .inr ⟨_, _, _, xENDS, rfl, rfl, by show 2 ≤ sizeLine; decide, (.cons ⟨_, rfl⟩ (.cons ⟨_, rfl⟩ .nil))⟩⟩⟩
  have F1 := fun_mk (st := sstepped) l1 c1 k1
  have Dstepped : Df K mg "stepped" sstepped ["machine", "state", "word"] := ⟨⟨_, _, F1, PySem.W.mg_of X G a1, F1.binds (ps := ["machine", "state", "word"]) fun _ _ _ _ _ _ us hl => match us, hl with | [_, _, _], _ => rfl⟩⟩
  have F2 := fun_mk (st := sclaimed) l2 c2 k2
  have Dclaimed : Df K mg "claimed" sclaimed ["machine"] := ⟨⟨_, _, F2, PySem.W.mg_of X G a2, F2.binds (ps := ["machine"]) fun _ _ _ _ _ _ us hl => match us, hl with | [_], _ => rfl⟩⟩
  have Dled := dfk_led l3 c3 k3 w3_0 (PySem.W.mg_of X G a3)
  have F4 := fun_mk (st := s_has_claimed) l4 c4 k4
  have D_has_claimed : Df K mg "_has_claimed" s_has_claimed ["looks"] := ⟨⟨_, _, F4, PySem.W.mg_of X G a4, F4.binds (ps := ["looks"]) fun _ _ _ _ _ _ us hl => match us, hl with | [_], _ => rfl⟩⟩
  have F5 := fun_mk (st := s_shortest) l5 c5 k5
  have D_shortest : Df K mg "_shortest" s_shortest ["machines", "is_wanted"] := ⟨⟨_, _, F5, PySem.W.mg_of X G a5, F5.binds (ps := ["machines", "is_wanted"]) fun _ _ _ _ _ _ us hl => match us, hl with | [_, _], _ => rfl⟩⟩
  have F6 := fun_mk (st := s_looks) l6 c6 k6
  have D_looks : Df K mg "_looks" s_looks ["machines", "states", "is_up"] := ⟨⟨_, _, F6, PySem.W.mg_of X G a6, F6.binds (ps := ["machines", "states", "is_up"]) fun _ _ _ _ _ _ us hl => match us, hl with | [_, _, _], _ => rfl⟩⟩
  have F7 := fun_mk (st := s_look) l7 c7 k7
  have D_look : Df K mg "_look" s_look ["machine", "state", "is_up"] := ⟨⟨_, _, F7, PySem.W.mg_of X G a7, F7.binds (ps := ["machine", "state", "is_up"]) fun _ _ _ _ _ _ us hl => match us, hl with | [_, _, _], _ => rfl⟩⟩
  have F8 := fun_mk (st := s_next_ones) l8 c8 k8
  have D_next_ones : Df K mg "_next_ones" s_next_ones ["machines", "states", "looks", "is_up", "has_passed"] := ⟨⟨_, _, F8, PySem.W.mg_of X G a8, F8.binds (ps := ["machines", "states", "looks", "is_up", "has_passed"]) fun _ _ _ _ _ _ us hl => match us, hl with | [_, _, _, _, _], _ => rfl⟩⟩
  have F9 := fun_mk (st := s_is_up_behind) l9 c9 k9
  have D_is_up_behind : Df K mg "_is_up_behind" s_is_up_behind ["word", "is_up"] := ⟨⟨_, _, F9, PySem.W.mg_of X G a9, F9.binds (ps := ["word", "is_up"]) fun _ _ _ _ _ _ us hl => match us, hl with | [_, _], _ => rfl⟩⟩
  have F10 := fun_mk (st := s_stepped_all) l10 c10 k10
  have D_stepped_all : Df K mg "_stepped_all" s_stepped_all ["machines", "states", "word", "is_up"] := ⟨⟨_, _, F10, PySem.W.mg_of X G a10, F10.binds (ps := ["machines", "states", "word", "is_up"]) fun _ _ _ _ _ _ us hl => match us, hl with | [_, _, _, _], _ => rfl⟩⟩
  have F11 := fun_mk (st := s_entered) l11 c11 k11
  have D_entered : Df K mg "_entered" s_entered ["machine", "goal", "is_up"] := ⟨⟨_, _, F11, PySem.W.mg_of X G a11, F11.binds (ps := ["machine", "goal", "is_up"]) fun _ _ _ _ _ _ us hl => match us, hl with | [_, _, _], _ => rfl⟩⟩
  have F12 := fun_mk (st := s_passed) l12 c12 k12
  have D_passed : Df K mg "_passed" s_passed ["machines", "states", "is_up"] := ⟨⟨_, _, F12, PySem.W.mg_of X G a12, F12.binds (ps := ["machines", "states", "is_up"]) fun _ _ _ _ _ _ us hl => match us, hl with | [_, _, _], _ => rfl⟩⟩
  have F13 := fun_mk (st := s_ends_of) l13 c13 k13
  have D_ends_of : Df K mg "_ends_of" s_ends_of ["machine", "state", "is_up"] := ⟨⟨_, _, F13, PySem.W.mg_of X G a13, F13.binds (ps := ["machine", "state", "is_up"]) fun _ _ _ _ _ _ us hl => match us, hl with | [_, _, _], _ => rfl⟩⟩
  have F14 := fun_mk (st := s_at_time) l14 c14 k14
  have D_at_time : Df K mg "_at_time" s_at_time ["row", "time", "state"] := ⟨⟨_, _, F14, PySem.W.mg_of X G a14, F14.binds (ps := ["row", "time", "state"]) fun _ _ _ _ _ _ us hl => match us, hl with | [_, _, _], _ => rfl⟩⟩
  have Dplain := dfk_plain l15 c15 k15 w15_0 (PySem.W.mg_of X G a15)
  have F16 := fun_mk (st := s_plain_taps) l16 c16 k16
  have D_plain_taps : Df K mg "_plain_taps" s_plain_taps ["times", "x", "y", "moment", "finger"] := ⟨⟨_, _, F16, PySem.W.mg_of X G a16, F16.binds (ps := ["times", "x", "y", "moment", "finger"]) fun _ _ _ _ _ _ us hl => match us, hl with | [_, _, _, _, _], _ => rfl⟩⟩
  have F17 := fun_mk (st := s_plain_pull) l17 c17 k17
  have D_plain_pull : Df K mg "_plain_pull" s_plain_pull ["way", "x", "y", "moment", "finger", "slop"] := ⟨⟨_, _, F17, PySem.W.mg_of X G a17, F17.binds (ps := ["way", "x", "y", "moment", "finger", "slop"]) fun _ _ _ _ _ _ us hl => match us, hl with | [_, _, _, _, _, _], _ => rfl⟩⟩
  have F18 := fun_mk (st := s_plain_pair) l18 c18 k18
  have D_plain_pair : Df K mg "_plain_pair" s_plain_pair ["kind", "x", "y", "moment", "fingers"] := ⟨⟨_, _, F18, PySem.W.mg_of X G a18, F18.binds (ps := ["kind", "x", "y", "moment", "fingers"]) fun _ _ _ _ _ _ us hl => match us, hl with | [_, _, _, _, _], _ => rfl⟩⟩
  have F19 := fun_mk (st := s_law_tape) l19 c19 k19
  have D_law_tape : Df K mg "_law_tape" s_law_tape ["_law_script"] := ⟨⟨_, _, F19, PySem.W.mg_of X G a19, F19.binds (ps := ["_law_script"]) fun _ _ _ _ _ _ us hl => match us, hl with | [_], _ => rfl⟩⟩
  have F20 := fun_mk (st := s_law_draw) l20 c20 k20
  have D_law_draw : Df K mg "_law_draw" s_law_draw ["_law_tape_here", "_law_many"] := ⟨⟨_, _, F20, PySem.W.mg_of X G a20, F20.binds (ps := ["_law_tape_here", "_law_many"]) fun _ _ _ _ _ _ us hl => match us, hl with | [_, _], _ => rfl⟩⟩
  have F21 := fun_mk (st := s_law_pick) l21 c21 k21
  have D_law_pick : Df K mg "_law_pick" s_law_pick ["_law_tape_here", "_law_some"] := ⟨⟨_, _, F21, PySem.W.mg_of X G a21, F21.binds (ps := ["_law_tape_here", "_law_some"]) fun _ _ _ _ _ _ us hl => match us, hl with | [_, _], _ => rfl⟩⟩
  have F22 := fun_mk (st := s_law_words) l22 c22 k22
  have D_law_words : Df K mg "_law_words" s_law_words ["_law_tape_here"] := ⟨⟨_, _, F22, PySem.W.mg_of X G a22, F22.binds (ps := ["_law_tape_here"]) fun _ _ _ _ _ _ us hl => match us, hl with | [_], _ => rfl⟩⟩
  have F23 := fun_mk (st := s_law_moved) l23 c23 k23
  have D_law_moved : Df K mg "_law_moved" s_law_moved ["_law_states", "_law_order"] := ⟨⟨_, _, F23, PySem.W.mg_of X G a23, F23.binds (ps := ["_law_states", "_law_order"]) fun _ _ _ _ _ _ us hl => match us, hl with | [_, _], _ => rfl⟩⟩
  have F24 := fun_mk (st := s_law_machine) l24 c24 k24
  have D_law_machine : Df K mg "_law_machine" s_law_machine ["_law_tape_here", "_law_many"] := ⟨⟨_, _, F24, PySem.W.mg_of X G a24, F24.binds (ps := ["_law_tape_here", "_law_many"]) fun _ _ _ _ _ _ us hl => match us, hl with | [_, _], _ => rfl⟩⟩
  have F25 := fun_mk (st := s_law_wish) l25 c25 k25
  have D_law_wish : Df K mg "_law_wish" s_law_wish ["_law_tape_here", "_law_word"] := ⟨⟨_, _, F25, PySem.W.mg_of X G a25, F25.binds (ps := ["_law_tape_here", "_law_word"]) fun _ _ _ _ _ _ us hl => match us, hl with | [_, _], _ => rfl⟩⟩
  have F26 := fun_mk (st := s_law_alike) l26 c26 k26
  have D_law_alike : Df K mg "_law_alike" s_law_alike ["_law_found", "_law_due"] := ⟨⟨_, _, F26, PySem.W.mg_of X G a26, F26.binds (ps := ["_law_found", "_law_due"]) fun _ _ _ _ _ _ us hl => match us, hl with | [_, _], _ => rfl⟩⟩
  have F27 := fun_mk (st := s_law_plain) l27 c27 k27
  have D_law_plain : Df K mg "_law_plain" s_law_plain ["_law_wish_here", "_law_x", "_law_y", "_law_moment", "_law_one", "_law_two", "_law_reach"] := ⟨⟨_, _, F27, PySem.W.mg_of X G a27, F27.binds (ps := ["_law_wish_here", "_law_x", "_law_y", "_law_moment", "_law_one", "_law_two", "_law_reach"]) fun _ _ _ _ _ _ us hl => match us, hl with | [_, _, _, _, _, _, _], _ => rfl⟩⟩
  have F28 := fun_mk (st := s_law_told) l28 c28 k28
  have D_law_told : Df K mg "_law_told" s_law_told ["_law_wish_here", "_law_spot", "_law_moment", "_law_fingers", "_law_reach"] := ⟨⟨_, _, F28, PySem.W.mg_of X G a28, F28.binds (ps := ["_law_wish_here", "_law_spot", "_law_moment", "_law_fingers", "_law_reach"]) fun _ _ _ _ _ _ us hl => match us, hl with | [_, _, _, _, _], _ => rfl⟩⟩
  have F29 := fun_mk (st := slaw) l29 c29 k29
  refine ⟨PySem.W.fnOf "law" "law" (defArgs slaw) (defBody slaw) (defScope slaw) .none kV29 dc29 pm29 an29 cd29 ct29, fun s v => .of_eq rfl, fun base _ _ => ?_⟩
  have Flaw := F29
  have claimed_ : Cl l.prog w K mg base 1 "claimed" (fun _ _ _ _ => False) := (Dclaimed.none fun _ _ _ _ h => h).mono (Nat.zero_le _)
  have led_ : ClK l.prog w K mg base 1 "led" 5 ["slop"] (fun _ _ _ _ => False) := by
    obtain ⟨f, fd, ds, F, m, b, vd, kb⟩ := Dled.ex
    exact ⟨f, fd, _, ⟨fun _ _ _ _ h => h.elim, fun _ _ _ _ _ _ _ _ _ _ _ _ _ h => h.elim⟩, m, F.kp, kb⟩
  have plainB := ok_plain (P := l.prog) (w := w) (base := base) (n1 := 0) (ks1 := []) (sp1 := fun _ _ _ _ => False) Dplain T (ok_plain_pair D_plain_pair T) (ok_plain_taps D_plain_taps T) (ok_plain_pull D_plain_pull T) claimed_ led_
  have draw := ok_draw (P := l.prog) (w := w) (base := base) D_law_draw T
  have pick := ok_pickA D_law_pick T draw
  have wish := ok_wish D_law_wish T draw pick (ok_machine D_law_machine T draw (pick_list pick) (ok_moved D_law_moved T))
  exact ok_law Flaw T (ok_tape D_law_tape T) (ok_words D_law_words T draw pick) wish draw pick (ok_lplain D_law_plain T plainB.1) (ok_told D_law_told T plainB.1 plainB.2) (all_alike D_law_alike T 5)
theorem walk {l : PySem.W.OpenLaw} {q : Program} {loose : List Str} {XP : (Str → Option Value) → Heap → Prop} {YP : World → Heap → Prop} {d : DefRec} {K : Params → PySem.W.Frag} (hn : l.most = some 63) (hdf : d.params.defaults = [])
    (hY : ∀ (w : World) (h : Heap), YP w h → (K w.params).In h)
    (F : ∀ (w : World) (mg : Str → Option Value) (fa : Addr) (h : Heap), (K w.params).In h → h.Ns mainGlobals mg → mg d.name = some (.ref fa) →
      ∃ fd : FuncData, (∀ (s : Shared) (u : Value), BindsTo s fd ⟨[u], []⟩ [("_law_script", u)]) ∧ ∀ base : Heap, (K w.params).In base → base.Ns mainGlobals mg → FnG l.prog w (K w.params) mg base 8 fa fd ["_law_script"] (spLaw (K w.params))) :
    PySem.W.WalkO q loose XP YP l.row.toRowW d [] (fun f vs => PySem.call f vs) :=
  walkG (n := 63) (k := 8) (x := "_law_script") (sp := fun w => spLaw (K w.params)) hn (by decide) hdf ⟨rfl, by decide, by decide⟩ hY F fun _ _ a ns hl _ hS => ⟨a, ns, rfl, hS, hl, fun _ => rfl⟩
end SG
open PySem PySem.W PyProof.Rows
set_option maxRecDepth 100000 in
set_option maxHeartbeats 0 in
theorem PySem.Challenge.cw_strokeguess_k62_plain_touches_holds : PySem.Challenge.rw_strokeguess_k62_plain_touches.Holds := by
  w_on; o_law; k_head; (case hw => w_witness2)
  k_fill
  refine SG.walk (l := PySem.Challenge.rw_strokeguess_k62_plain_touches) rfl rfl (fun w h Y => PySem.W.kIn_of Y) ?F
  case F =>
    intro w mg fa h KX G hmg
    refine' SG.all_mk KX G hmg ?a1 ?l1 ?c1 ?k1 ?a2 ?l2 ?c2 ?k2 ?a3 ?l3 ?c3 ?k3 ?w3_0 ?a4 ?l4 ?c4 ?k4 ?a5 ?l5 ?c5 ?k5 ?a6 ?l6 ?c6 ?k6 ?a7 ?l7 ?c7 ?k7 ?a8 ?l8 ?c8 ?k8 ?a9 ?l9 ?c9 ?k9 ?a10 ?l10 ?c10 ?k10 ?a11 ?l11 ?c11 ?k11 ?a12 ?l12 ?c12 ?k12 ?a13 ?l13 ?c13 ?k13 ?a14 ?l14 ?c14 ?k14 ?a15 ?l15 ?c15 ?k15 ?w15_0 ?a16 ?l16 ?c16 ?k16 ?a17 ?l17 ?c17 ?k17 ?a18 ?l18 ?c18 ?k18 ?a19 ?l19 ?c19 ?k19 ?a20 ?l20 ?c20 ?k20 ?a21 ?l21 ?c21 ?k21 ?a22 ?l22 ?c22 ?k22 ?a23 ?l23 ?c23 ?k23 ?a24 ?l24 ?c24 ?k24 ?a25 ?l25 ?c25 ?k25 ?a26 ?l26 ?c26 ?k26 ?a27 ?l27 ?c27 ?k27 ?a28 ?l28 ?c28 ?k28 ?a29 ?l29 ?c29 ?k29 ?zall ?zany ?zbool ?zdict ?zint ?zisinstance ?zlen ?zlist ?zmin ?zrange ?zset ?zsorted ?zstr ?zsum ?ztuple ?zzip ?ySTEP_TIME ?yTAP_TIME ?yAPART ?yENDS ?xENDS
    (case a1 => k_is)
    (case l1 => k_is)
    (case c1 => k_is)
    (case k1 => k_is)
    (case a2 => k_is)
    (case l2 => k_is)
    (case c2 => k_is)
    (case k2 => k_is)
    (case a3 => k_is)
    (case l3 => k_is)
    (case c3 => k_is)
    (case k3 => k_is)
    (case w3_0 => k_is)
    (case a4 => k_is)
    (case l4 => k_is)
    (case c4 => k_is)
    (case k4 => k_is)
    (case a5 => k_is)
    (case l5 => k_is)
    (case c5 => k_is)
    (case k5 => k_is)
    (case a6 => k_is)
    (case l6 => k_is)
    (case c6 => k_is)
    (case k6 => k_is)
    (case a7 => k_is)
    (case l7 => k_is)
    (case c7 => k_is)
    (case k7 => k_is)
    (case a8 => k_is)
    (case l8 => k_is)
    (case c8 => k_is)
    (case k8 => k_is)
    (case a9 => k_is)
    (case l9 => k_is)
    (case c9 => k_is)
    (case k9 => k_is)
    (case a10 => k_is)
    (case l10 => k_is)
    (case c10 => k_is)
    (case k10 => k_is)
    (case a11 => k_is)
    (case l11 => k_is)
    (case c11 => k_is)
    (case k11 => k_is)
    (case a12 => k_is)
    (case l12 => k_is)
    (case c12 => k_is)
    (case k12 => k_is)
    (case a13 => k_is)
    (case l13 => k_is)
    (case c13 => k_is)
    (case k13 => k_is)
    (case a14 => k_is)
    (case l14 => k_is)
    (case c14 => k_is)
    (case k14 => k_is)
    (case a15 => k_is)
    (case l15 => k_is)
    (case c15 => k_is)
    (case k15 => k_is)
    (case w15_0 => k_is)
    (case a16 => k_is)
    (case l16 => k_is)
    (case c16 => k_is)
    (case k16 => k_is)
    (case a17 => k_is)
    (case l17 => k_is)
    (case c17 => k_is)
    (case k17 => k_is)
    (case a18 => k_is)
    (case l18 => k_is)
    (case c18 => k_is)
    (case k18 => k_is)
    (case a19 => k_is)
    (case l19 => k_is)
    (case c19 => k_is)
    (case k19 => k_is)
    (case a20 => k_is)
    (case l20 => k_is)
    (case c20 => k_is)
    (case k20 => k_is)
    (case a21 => k_is)
    (case l21 => k_is)
    (case c21 => k_is)
    (case k21 => k_is)
    (case a22 => k_is)
    (case l22 => k_is)
    (case c22 => k_is)
    (case k22 => k_is)
    (case a23 => k_is)
    (case l23 => k_is)
    (case c23 => k_is)
    (case k23 => k_is)
    (case a24 => k_is)
    (case l24 => k_is)
    (case c24 => k_is)
    (case k24 => k_is)
    (case a25 => k_is)
    (case l25 => k_is)
    (case c25 => k_is)
    (case k25 => k_is)
    (case a26 => k_is)
    (case l26 => k_is)
    (case c26 => k_is)
    (case k26 => k_is)
    (case a27 => k_is)
    (case l27 => k_is)
    (case c27 => k_is)
    (case k27 => k_is)
    (case a28 => k_is)
    (case l28 => k_is)
    (case c28 => k_is)
    (case k28 => k_is)
    (case a29 => k_is)
    (case l29 => k_is)
    (case c29 => k_is)
    (case k29 => k_is)
    (case zall => k_is)
    (case zany => k_is)
    (case zbool => k_is)
    (case zdict => k_is)
    (case zint => k_is)
    (case zisinstance => k_is)
    (case zlen => k_is)
    (case zlist => k_is)
    (case zmin => k_is)
    (case zrange => k_is)
    (case zset => k_is)
    (case zsorted => k_is)
    (case zstr => k_is)
    (case zsum => k_is)
    (case ztuple => k_is)
    (case zzip => k_is)
    (case ySTEP_TIME => k_is)
    (case yTAP_TIME => k_is)
    (case yAPART => k_is)
    (case yENDS => k_is)
    (case xENDS => k_is)
