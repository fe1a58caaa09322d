import PyProof.Rows.All
import Wide.All
import OpenK.AllK
import Wide.FinOn
import HandS.ForMost
import HandS.Flow
import HandS.Conv
import HandS.More
import HandS.Codes
import KE.DataEq
import KE.IntBitsLaws
import PySem.Challenge.RW_strokeguess_k08_measures
set_option Elab.async false
set_option maxRecDepth 100000
set_option linter.all false
/-! Strokeguess: what all our proofs share: a def's contract as one fact (Cl), frames (Fr), new objects. -/
namespace SG
open PySem PySem.Spec PyProof.Rows L2

/-! ### a def of the module, by its contract -/
structure Cl (P : Program) (w : World) (K : PySem.W.Frag) (mg : Str → Option Value) (base : Heap) (k : Nat) (x : Str) (sp : Sp) : Prop where
  ex : ∃ (f : Addr) (fd : FuncData) (ps : List Str), FnOk P w K mg base CX0 k f fd ps sp ∧ mg x = some (.ref f) ∧ PySem.W.keepIn K (.ref f) = true ∧ Binds K fd ps []
/-- a def as the top has left it -/
structure Df (K : PySem.W.Frag) (mg : Str → Option Value) (x : Str) (st : Stmt) (ps : List Str) : Prop where
  ex : ∃ (f : Addr) (fd : FuncData), Fun K x x st f fd ∧ mg x = some (.ref f) ∧ Binds K fd ps []
section
variable {P : Program} {w : World} {K : PySem.W.Frag} {mg : Str → Option Value} {base : Heap}
theorem Cl.mono {j k : Nat} {x : Str} {sp : Sp} (c : Cl P w K mg base j x sp) (h : j ≤ k) : Cl P w K mg base k x sp := by
  obtain ⟨f, fd, ps, F, m, kp, b⟩ := c.ex
  exact ⟨f, fd, ps, F.mono h, m, kp, b⟩
theorem Cl.imp {k : Nat} {x : Str} {sp sp' : Sp} (c : Cl P w K mg base k x sp) (h : ∀ vs H Q E, sp' vs H Q E → sp vs H Q E) : Cl P w K mg base k x sp' := by
  obtain ⟨f, fd, ps, F, m, kp, b⟩ := c.ex
  exact ⟨f, fd, ps, F.imp h, m, kp, b⟩
theorem Df.ok {x : Str} {st : Stmt} {N ps : List Str} {k : Nat} {sp : Sp} (D : Df K mg x st ps) (S : FnScope N ps (defScope st)) (len : ∀ vs H Q E, sp vs H Q E → vs.length = ps.length)
    (hbody : ∀ (f : Addr) (cdv : Value) (A : Around) (outer : List Env) (s : Shared) (H : Hp) (vs : List V) (Q : VK) (E : XK), Room k (A.deeper (envOfC x (defScope st) s.heap.objs.size f cdv)) → sp vs H Q E →
      ∃ t, PSs (cxOf CX0 P w K mg base N x (defScope st) f cdv A outer s H E).nox (defBody st) t ∧ t { nx := fun _ H' => Q .non H', rt := Q } (start N vs) H) : Cl P w K mg base (k + 1) x sp := by
  obtain ⟨f, fd, F, m, b⟩ := D.ex
  exact ⟨f, fd, ps, F.ok S len (fun cdv A outer s H vs Q E hr h => hbody f cdv A outer s H vs Q E hr h), m, F.kp, b⟩
/-- no call left: nothing can be asked -/
theorem Df.none {x : Str} {st : Stmt} {ps : List Str} {sp : Sp} (D : Df K mg x st ps) (no : ∀ vs H Q E, ¬ sp vs H Q E) : Cl P w K mg base 0 x sp := by
  obtain ⟨f, fd, F, m, b⟩ := D.ex
  exact ⟨f, fd, ps, ⟨fun vs H Q E h => absurd h (no vs H Q E), fun A outer s H args us vs Q E _ _ _ _ h => absurd h (no vs H Q E)⟩, m, F.kp, b⟩
end
section
variable {X : Cx} {k : Nat} {x : Str} {sp : Sp} {e : Expr} {es : List Expr} {t : TA} {p pos : Pos}
theorem pe_cl (c : Cl X.prog X.w X.K X.mg X.base k x sp) (hr : Room k X.A) (hg : Gl X x) (ha : PA X (e :: es) t)
    (hdb : (x == ("__debug__" : Str)) = false := by decide) (he : starEach (e :: es) X.env = (false, eval e X.env) :: starEach es X.env := by rfl) (hpl : (backTo pos (starEach es X.env)).any (·.1) = false := by rfl) :
    PE X (.Call (.Name x p) (e :: es) [] pos) (tCall sp [] E0 t) := by
  obtain ⟨f, fd, ps, F, hm, kp, b⟩ := c.ex
  exact pe_call F hr hg hm kp b .nil pass0 ha hdb he hpl
end
/-! ### heaps -/
/-- all but the objects of S are as they were -/
def Fr (S : List Addr) (H H' : Hp) : Prop := ∀ b o, H b = some o → b ∉ S → H' b = some o
/-- tuples never change -/
def Tp (H H' : Hp) : Prop := ∀ b xs, H b = some (.tup xs) → H' b = some (.tup xs)
theorem Fr.refl (S : List Addr) (H : Hp) : Fr S H H := fun _ _ h _ => h
theorem Fr.trans {S : List Addr} {H H1 H2 : Hp} (a : Fr S H H1) (b : Fr S H1 H2) : Fr S H H2 := fun c o h n => b c o (a c o h n) n
theorem Fr.mono {S S' : List Addr} {H H1 : Hp} (a : Fr S H H1) (h : ∀ x ∈ S, x ∈ S') : Fr S' H H1 := fun c o e n => a c o e fun m => n (h c m)
theorem Fr.new {S : List Addr} {H : Hp} {p : Addr} {o : HO} (h : H p = none) : Fr S H (upd H p o) := fun b u e _ => by
  rw [upd_ne (ne_of_none e h)]
  exact e
theorem Fr.put {S : List Addr} {H : Hp} {p : Addr} {o : HO} (h : p ∈ S) : Fr S H (upd H p o) := fun b u e n => by
  rw [upd_ne (fun z => n (by rw [z]; exact h))]
  exact e
theorem Fr.same {H H' : Hp} (h : Same H H') (S : List Addr) : Fr S H H' := fun b o e _ => h b o e
theorem Fr.nil {H H' : Hp} (h : Fr [] H H') : Same H H' := fun b o e => h b o e (by simp)
theorem Tp.refl (H : Hp) : Tp H H := fun _ _ h => h
theorem Tp.trans {H H1 H2 : Hp} (a : Tp H H1) (b : Tp H1 H2) : Tp H H2 := fun c o h => b c o (a c o h)
theorem Tp.new {H : Hp} {p : Addr} {o : HO} (h : H p = none) : Tp H (upd H p o) := fun b u e => by
  rw [upd_ne (ne_of_none e h)]
  exact e
theorem Tp.same {H H' : Hp} (h : Same H H') : Tp H H' := fun b _ e => h b _ e
theorem same_new {H : Hp} {p : Addr} {o : HO} (h : H p = none) : Same H (upd H p o) := fun b u e => by
  rw [upd_ne (ne_of_none e h)]
  exact e
/-- a new object, told by what is known of it -/
theorem alloc {H : Hp} {o : HO} {Q : Addr → Hp → Prop} (k : ∀ p H', H p = none → H' p = some o → Same H H' → (∀ q, q ≠ p → H' q = H q) → Q p H') : ∀ p, H p = none → Q p (upd H p o) :=
  fun p hp => k p _ hp upd_same (same_new hp) fun _ h => upd_ne h
theorem Same.tup {K : PySem.W.Frag} {H H' : Hp} {a : Addr} {xs : List V} (e : Same H H') (h : SqT K H a xs) : SqT K H' a xs := by
  rcases h with (h | ⟨o, h⟩) | h
  · exact .inl (.inl (e _ _ h))
  · exact .inl (.inr ⟨o, e _ _ h⟩)
  · exact .inr h
end SG
namespace SG
open PySem PySem.Spec PyProof.Rows L2
section
variable {X : Cx}
/-- == and != of data without dicts, any texts -/
def rEqP (K : PySem.W.Frag) : R2 := fun x y H Q => ∃ d e, Dp K H x d ∧ Dp K H y e ∧ PyData.plain d = true ∧ PyData.plain e = true ∧ min d.depth e.depth ≤ 64 ∧ Q (.bl (PyData.eqv d e)) H
def rNeP (K : PySem.W.Frag) : R2 := fun x y H Q => ∃ d e, Dp K H x d ∧ Dp K H y e ∧ PyData.plain d = true ∧ PyData.plain e = true ∧ min d.depth e.depth ≤ 64 ∧ Q (.bl (!PyData.eqv d e)) H
theorem op_eqP (hu : X.A.units + 64 < cLine) : OpR X (compareOp .Eq) (rEqP X.K) := by
  intro pins s σ H x y v u Q I rx ry h
  obtain ⟨d, e, hd, he, sd, se, hm, q⟩ := h
  obtain ⟨as, r1⟩ := Dp.reads I d x v hd rx
  obtain ⟨bs, r2⟩ := Dp.reads I e y u he ry
  exact SeqAt.eq_plain r1 r2 sd se (by omega) ⟨.bl _, H, I, rfl, q⟩
theorem op_neP (hu : X.A.units + 64 < cLine) : OpR X (compareOp .NotEq) (rNeP X.K) := by
  intro pins s σ H x y v u Q I rx ry h
  obtain ⟨d, e, hd, he, sd, se, hm, q⟩ := h
  obtain ⟨as, r1⟩ := Dp.reads I d x v hd rx
  obtain ⟨bs, r2⟩ := Dp.reads I e y u he ry
  exact SeqAt.ne_plain r1 r2 sd se (by omega) ⟨.bl _, H, I, rfl, q⟩
end
/-! ### powers of any base -/
def CPowG (i j : Int) : Prop := 0 ≤ j ∧ (Builtin.Int.intBits i : Int) * j ≤ 2 ^ 27
theorem op_powG {X : Cx} : OpR X (binaryOp .Pow) (rI CPowG fun i j => .int (i ^ j.toNat)) := opI fun _ _ _ _ _ _ _ hc q => pow_int hc.1 hc.2 q
/-! ### data made of tuples alone: it never changes -/
mutual
inductive Im (H : Hp) : V → PyData → Prop
  | non : Im H .non .none
  | bl (b : Bool) : Im H (.bl b) (.bool b)
  | int (i : Int) : Im H (.int i) (.int i)
  | str (x : Str) : Im H (.str x) (.str x)
  | tup {a : Addr} {xs : List V} {ds : List PyData} : H a = some (.tup xs) → ImAll H xs ds → Im H (.ref a) (.tuple ds)
inductive ImAll (H : Hp) : List V → List PyData → Prop
  | nil : ImAll H [] []
  | cons {v : V} {vs : List V} {d : PyData} {ds : List PyData} : Im H v d → ImAll H vs ds → ImAll H (v :: vs) (d :: ds)
end
mutual
theorem Im.dp {K : PySem.W.Frag} {H : Hp} : ∀ {d : PyData} {v : V}, Im H v d → Dp K H v d
  | .none, _, h => by cases h; exact .non
  | .bool _, _, h => by cases h; exact .bl _
  | .int _, _, h => by cases h; exact .int _
  | .str _, _, h => by cases h; exact .str _
  | .tuple _, _, h => by
    cases h with
    | tup a b => exact .tup (SqT.of a) (ImAll.dp b)
  | .list _, _, h => by cases h
  | .dict _, _, h => by cases h
theorem ImAll.dp {K : PySem.W.Frag} {H : Hp} : ∀ {ds : List PyData} {vs : List V}, ImAll H vs ds → DpAll K H vs ds
  | [], _, h => by cases h; exact .nil
  | _ :: _, _, h => by
    cases h with
    | cons a b => exact .cons (Im.dp a) (ImAll.dp b)
end
mutual
theorem Im.tp {H H' : Hp} (t : Tp H H') : ∀ {d : PyData} {v : V}, Im H v d → Im H' v d
  | .none, _, h => by cases h; exact .non
  | .bool _, _, h => by cases h; exact .bl _
  | .int _, _, h => by cases h; exact .int _
  | .str _, _, h => by cases h; exact .str _
  | .tuple _, _, h => by
    cases h with
    | tup a b => exact .tup (t _ _ a) (ImAll.tp t b)
  | .list _, _, h => by cases h
  | .dict _, _, h => by cases h
theorem ImAll.tp {H H' : Hp} (t : Tp H H') : ∀ {ds : List PyData} {vs : List V}, ImAll H vs ds → ImAll H' vs ds
  | [], _, h => by cases h; exact .nil
  | _ :: _, _, h => by
    cases h with
    | cons a b => exact .cons (Im.tp t a) (ImAll.tp t b)
end
theorem Im.plain {H : Hp} : ∀ {d : PyData} {v : V}, Im H v d → d.plain = true := by
  intro d v h
  induction h using Im.rec (motive_2 := fun vs ds _ => PyData.plainAll ds = true) with
  | non => rfl
  | bl => rfl
  | int => rfl
  | str => rfl
  | tup _ _ ih => exact ih
  | nil => rfl
  | cons _ _ a b =>
    show (PyData.plain _ && PyData.plainAll _) = true
    rw [a, b]; rfl
end SG
namespace SG
open PySem PySem.Spec PyProof.Rows L2
theorem upd_is {H H' : Hp} {p : Addr} {o : HO} (e : upd H p o = H') : H' p = some o := by
  rw [← e]
  exact upd_same
theorem same_is {H H' : Hp} {p : Addr} {o : HO} (e : upd H p o = H') (h : H p = none) : Same H H' := by
  rw [← e]
  exact same_new h
end SG
namespace SG
open PySem PySem.Spec PyProof.Rows L2
section
variable {X : Cx}
/-- != of any list and an empty one -/
def rNeNil (K : PySem.W.Frag) : R2 := fun x y H Q => ∃ (a b : Addr) (xs : List V), x = .ref a ∧ y = .ref b ∧ SqL K H a xs ∧ SqL K H b [] ∧ Q (.bl (!xs.isEmpty)) H
theorem op_neNil (hu : X.A.units + 64 < cLine) : OpR X (compareOp .NotEq) (rNeNil X.K) := by
  intro pins s σ H x y v u Q I rx ry h
  obtain ⟨a, b, xs, rfl, rfl, ha, hb, q⟩ := h
  cases (show v = Value.ref a from rx)
  cases (show u = Value.ref b from ry)
  obtain ⟨us, r1, p1, _⟩ := I.list ha
  obtain ⟨ws, r2, p2, _⟩ := I.list hb
  have e2 : ws = [] := by cases r2; rfl
  subst e2
  have hu' : X.A.units < cLine := by omega
  cases xs with
  | nil =>
    have e1 : us = [] := by cases r1; rfl
    subst e1
    have z := SeqAt.RcNeAt.lists (A := X.A) (s := s) (e := fun _ => true) p1.isList p2.isList rfl hu' (fun j j1 _ => absurd j1 (Nat.not_lt_zero j))
    exact z X.prog X.w _ _ ⟨.bl false, H, I, rfl, q⟩
  | cons x r =>
    have hsz : ¬ us.toArray.size = ([] : List Value).toArray.size := by
      cases r1 with
      | cons => simp
    have z := SeqAt.RcNeAt.lists_lengths (A := X.A) (s := s) p1.isList p2.isList (by simpa using hsz) hu'
    exact z X.prog X.w _ _ ⟨.bl true, H, I, rfl, q⟩
end
end SG
namespace SG
open PySem PySem.Spec PyProof.Rows L2
def top (i : Nat) : Stmt := PySem.Challenge.pw_strokeguess_k08_measures.main.body.getD i (.Pass ⟨0, 0, 0, 0⟩)

structure Txt (K : PySem.W.Frag) (mg : Str → Option Value) : Prop where
  m_abs : mg "abs" = none
  m_len : mg "len" = none
  m_list : mg "list" = none
  m_max : mg "max" = none
  m_range : mg "range" = none
  mFLING_TIMEx : ∃ t, mg "FLING_TIME" = some (.int 100 t)
  mFLING_SLOPx : ∃ t, mg "FLING_SLOP" = some (.int 50 t)
abbrev sis_beyond : Stmt := top 3
abbrev Nis_beyond : List Str := ["way", "dx", "dy", "slop"]
theorem scis_beyond : FnScope Nis_beyond ["way", "dx", "dy", "slop"] (defScope sis_beyond) := ⟨rfl, rfl, rfl, by decide +kernel, rfl, by decide +kernel, by decide +kernel⟩

abbrev sis_spread : Stmt := top 4
abbrev Nis_spread : List Str := ["first", "other", "before", "behind"]
theorem scis_spread : FnScope Nis_spread ["first", "other"] (defScope sis_spread) := ⟨rfl, rfl, rfl, by decide +kernel, rfl, by decide +kernel, by decide +kernel⟩

abbrev sis_turned : Stmt := top 5
abbrev Nis_turned : List Str := ["first", "other", "fx", "fy", "x", "y"]
theorem scis_turned : FnScope Nis_turned ["first", "other"] (defScope sis_turned) := ⟨rfl, rfl, rfl, by decide +kernel, rfl, by decide +kernel, by decide +kernel⟩

abbrev sflung : Stmt := top 6
abbrev Nflung : List Str := ["touches", "moment", "_", "x", "y", "start", "touch", "from_x", "from_y", "dx", "dy"]
theorem scflung : FnScope Nflung ["touches"] (defScope sflung) := ⟨rfl, rfl, rfl, by decide +kernel, rfl, by decide +kernel, by decide +kernel⟩

abbrev s_square : Stmt := top 7
abbrev N_square : List Str := ["difference", "x", "y"]
theorem sc_square : FnScope N_square ["difference"] (defScope s_square) := ⟨rfl, rfl, rfl, by decide +kernel, rfl, by decide +kernel, by decide +kernel⟩

abbrev s_law_tape : Stmt := top 9
abbrev N_law_tape : List Str := ["_law_script"]
theorem sc_law_tape : FnScope N_law_tape ["_law_script"] (defScope s_law_tape) := ⟨rfl, rfl, rfl, by decide +kernel, rfl, by decide +kernel, by decide +kernel⟩

abbrev s_law_draw : Stmt := top 10
abbrev N_law_draw : List Str := ["_law_tape_here", "_law_many", "_law_found", "_law_spot", "_law_cells", "_law_cell", "_law_great", "_law_primes", "_law_prime", "_law_seed"]
theorem sc_law_draw : FnScope N_law_draw ["_law_tape_here", "_law_many"] (defScope s_law_draw) := ⟨rfl, rfl, rfl, by decide +kernel, rfl, by decide +kernel, by decide +kernel⟩

abbrev s_law_near : Stmt := top 11
abbrev N_law_near : List Str := ["_law_tape_here", "_law_number"]
theorem sc_law_near : FnScope N_law_near ["_law_tape_here", "_law_number"] (defScope s_law_near) := ⟨rfl, rfl, rfl, by decide +kernel, rfl, by decide +kernel, by decide +kernel⟩

abbrev s_law_two : Stmt := top 12
abbrev N_law_two : List Str := ["_law_tape_here", "_law_most"]
theorem sc_law_two : FnScope N_law_two ["_law_tape_here"] (defScope s_law_two) := ⟨rfl, rfl, rfl, by decide +kernel, rfl, by decide +kernel, by decide +kernel⟩

abbrev s_law_flung : Stmt := top 13
abbrev N_law_flung : List Str := ["_law_touches", "_law_up", "_law_early", "_law_begin", "_law_dx", "_law_dy", "_law_one"]
theorem sc_law_flung : FnScope N_law_flung ["_law_touches"] (defScope s_law_flung) := ⟨rfl, rfl, rfl, by decide +kernel, rfl, by decide +kernel, by decide +kernel⟩

abbrev s_law_stroke : Stmt := top 14
abbrev N_law_stroke : List Str := ["_law_tape_here", "_law_moment", "_law_found", "_law_many", "_law_k", "_law_word"]
theorem sc_law_stroke : FnScope N_law_stroke ["_law_tape_here"] (defScope s_law_stroke) := ⟨rfl, rfl, rfl, by decide +kernel, rfl, by decide +kernel, by decide +kernel⟩

abbrev slaw : Stmt := top 15
abbrev Nlaw : List Str := ["_law_script", "_law_tape_here", "_law_turn", "_law_slop", "_law_ways", "_law_dx", "_law_dy", "_law_due", "_law_first", "_law_fx", "_law_fy", "_law_others", "_law_x", "_law_y", "_law_was", "_law_now", "_law_cross", "_law_stroke_here", "_law_kept", "_law_way"]
theorem sclaw : FnScope Nlaw ["_law_script"] (defScope slaw) := ⟨rfl, rfl, rfl, by decide +kernel, rfl, by decide +kernel, by decide +kernel⟩

end SG
namespace SG
open PySem PySem.Spec PyProof.Rows L2
/-! ### the tape -/
def tapeD (c : Addr) (s l : Int) : List (Key × V) := [(Sum.inr "cells", .ref c), (Sum.inr "spot", .int s), (Sum.inr "left", .int l)]
theorem k12 : ¬ (Sum.inr ("cells" : Str) : Key) = Sum.inr ("spot" : Str) := by decide +kernel
theorem k13 : ¬ (Sum.inr ("cells" : Str) : Key) = Sum.inr ("left" : Str) := by decide +kernel
theorem k23 : ¬ (Sum.inr ("spot" : Str) : Key) = Sum.inr ("left" : Str) := by decide +kernel
theorem k32 : ¬ (Sum.inr ("left" : Str) : Key) = Sum.inr ("spot" : Str) := by decide +kernel
theorem n12 : ¬ ("cells" : Str) = ("spot" : Str) := by decide +kernel
theorem n13 : ¬ ("cells" : Str) = ("left" : Str) := by decide +kernel
theorem n23 : ¬ ("spot" : Str) = ("left" : Str) := by decide +kernel
theorem n32 : ¬ ("left" : Str) = ("spot" : Str) := by decide +kernel
theorem len3 {c : Addr} {s l : Int} : (tapeD c s l).length < sizeLine := by show 3 < sizeLine; decide
/-- a tape stands at t, of which at most n cells were taken -/
def TapeAt (H : Hp) (t c : Addr) (n : Nat) : Prop :=
  ∃ (cs : List Int) (s l : Int), H t = some (.dK (tapeD c s l)) ∧ H c = some (.lst (cs.map V.int)) ∧ 0 ≤ s ∧ s ≤ (n : Int) ∧ 0 ≤ l ∧ cs.length ≤ 63
section
variable {K : PySem.W.Frag} {H H' : Hp} {t c : Addr} {s l v : Int} {n m : Nat}
theorem tape_cells (h : H t = some (.dK (tapeD c s l))) : DGet H t (.str "cells") (some (.ref c)) := DGet.k (k := Sum.inr "cells") h
theorem tape_spot (h : H t = some (.dK (tapeD c s l))) : DGet H t (.str "spot") (some (.int s)) := by
  have e : valV (tapeD c s l) (Sum.inr ("spot" : Str) : Key) = some (.int s) := by
    unfold tapeD
    rw [valV_neg k12, valV_pos rfl]
  have q := DGet.k (k := Sum.inr "spot") h
  rw [e] at q
  exact q
theorem tape_left (h : H t = some (.dK (tapeD c s l))) : DGet H t (.str "left") (some (.int l)) := by
  have e : valV (tapeD c s l) (Sum.inr ("left" : Str) : Key) = some (.int l) := by
    unfold tapeD
    rw [valV_neg k13, valV_neg k23, valV_pos rfl]
  have q := DGet.k (k := Sum.inr "left") h
  rw [e] at q
  exact q
theorem key_ne {a b : Str} (h : ¬ a = b) : ¬ (Sum.inr a : Key) = Sum.inr b := fun e => h (Sum.inr.inj e)
theorem tape_put_left (h : H t = some (.dK (tapeD c s l))) : DPut H t (.str "left") (.int v) (upd H t (.dK (tapeD c s v))) := by
  have e : putK (tapeD c s l) (Sum.inr ("left" : Str) : Key) (.int v) = tapeD c s v := by
    simp [putK, tapeD, n13, n23]
  have q := DPut.k (k := Sum.inr "left") (v := .int v) h len3
  rw [e] at q
  exact q
theorem tape_put_spot (h : H t = some (.dK (tapeD c s l))) : DPut H t (.str "spot") (.int v) (upd H t (.dK (tapeD c v l))) := by
  have e : putK (tapeD c s l) (Sum.inr ("spot" : Str) : Key) (.int v) = tapeD c v l := by
    simp [putK, tapeD, n12, n32]
  have q := DPut.k (k := Sum.inr "spot") (v := .int v) h len3
  rw [e] at q
  exact q
/-- a list is no dict: it stays where only a dict changes -/
theorem sq_ne {xs : List V} {kvs : List (Key × V)} (hc : SqL K H c xs) (ht : H t = some (.dK kvs)) (f : Fr [t] H H') : SqL K H' c xs := by
  rcases hc with (h | ⟨o, h⟩) | h
  · exact .inl (.inl (f _ _ h (by simp only [List.mem_singleton]; exact ne_of h ht (by intro z; cases z))))
  · exact .inl (.inr ⟨o, f _ _ h (by simp only [List.mem_singleton]; exact ne_of h ht (by intro z; cases z))⟩)
  · exact .inr h
theorem TapeAt.mono (h : TapeAt H t c n) (q : n ≤ m) : TapeAt H t c m := by
  obtain ⟨cs, s, l, h1, h2, h3, h4, h5, h6⟩ := h
  exact ⟨cs, s, l, h1, h2, h3, by omega, h5, h6⟩
theorem TapeAt.same (h : TapeAt H t c n) (q : Same H H') : TapeAt H' t c n := by
  obtain ⟨cs, s, l, h1, h2, h3, h4, h5, h6⟩ := h
  exact ⟨cs, s, l, q _ _ h1, q _ _ h2, h3, h4, h5, h6⟩
theorem TapeAt.tp (h : TapeAt H t c n) (q : Fr [t] H H') : Tp H H' := fun b xs e => by
  obtain ⟨cs, s, l, h1, h2, h3, h4, h5, h6⟩ := h
  exact q _ _ e (by simp only [List.mem_singleton]; exact ne_of e h1 (by intro z; cases z))
theorem TapeAt.is (h : TapeAt H t c n) : ∃ kvs, H t = some (.dK kvs) := by
  obtain ⟨cs, s, l, h1, _⟩ := h
  exact ⟨_, h1⟩
theorem at_of' {α : Type} {xs : List α} {z : Int} {j : Nat} {v : α} (e : z = (j : Int)) (h : xs[j]? = some v) : atI xs z = some v := by
  rw [e]
  exact atI_nat h
theorem at_in {α : Type} {xs : List α} {i : Int} (h0 : 0 ≤ i) (h1 : i < xs.length) : ∃ x, x ∈ xs ∧ atI xs i = some x := by
  have hk : i.toNat < xs.length := by omega
  refine ⟨xs[i.toNat], List.getElem_mem hk, ?_⟩
  exact at_of' (j := i.toNat) (by omega) (List.getElem?_eq_getElem hk)
theorem at_ints {cs : List Int} {i : Int} (h0 : 0 ≤ i) (h1 : i < cs.length) : ∃ z, atI (cs.map V.int) i = some (.int z) := by
  obtain ⟨x, hx, e⟩ := at_in (xs := cs.map V.int) h0 (by rw [List.length_map]; exact h1)
  obtain ⟨z, _, rfl⟩ := List.mem_map.mp hx
  exact ⟨z, e⟩
/-- cells or [0] -/
theorem or_new {σ : L2.St} {Q : VK} {cs : List Int} (hS : SqL K H c (cs.map V.int)) (hl : cs.length ≤ 63)
    (k : ∀ c' cs' H', Same H H' → 0 < cs'.length → cs'.length ≤ 63 → SqL K H' c' (List.map V.int cs') → Q (.ref c') H') :
    ∃ b, TruV K (.ref c) H b ∧ if b = true then Q (.ref c) H else tLst (tCons (tC (.int 0)) tNil) σ H Q := by
  refine ⟨_, Or.inl ⟨_, hS, rfl⟩, ?_⟩
  cases cs with
  | nil =>
    refine iteF ?_
    refine ⟨(by show 1 ≤ sizeLine; decide), fun p hp => ?_⟩
    exact k p [0] _ (same_new hp) (by decide) (by decide) (SqL.of upd_same)
  | cons z r =>
    refine iteT ?_
    exact k c (z :: r) H (Same.refl H) (by simp) hl hS
end
/-! ### a draw -/
def spDraw : Sp := fun vs H Q _ => ∃ (t c : Addr) (m : Int) (n : Nat), vs = [.ref t, .int m] ∧ TapeAt H t c n ∧ (1 ≤ m ∧ m ≤ 1000000) ∧ n ≤ 1000000000 ∧
  ∀ (r : Int) (H' : Hp), (0 ≤ r ∧ r < m) → TapeAt H' t c (n + 1) → Fr [t] H H' → Q (.int r) H'
def spNone : Sp := fun _ _ _ _ => False
theorem pw18 : CPowG 10 18 := ⟨by decide, by decide +kernel⟩
theorem pw6e : (10 : Int) ^ (6 : Int).toNat = 1000000 := by decide
theorem pw6 : CPowG 10 6 := ⟨by decide, by decide +kernel⟩
theorem pw50 : CPowG 10 50 := ⟨by decide, by decide +kernel⟩
theorem pw60 : CPowG (10 ^ (50 : Int).toNat) 60 := ⟨by decide, by decide +kernel⟩
theorem pw10 : CPowG ((10 ^ (50 : Int).toNat) ^ (60 : Int).toNat) 10 := ⟨by decide, by decide +kernel⟩
def primes : List Int := [2147483647, 2147483629, 2147483587, 2147483579, 2147483563, 2147483549, 2147483543]
theorem prime_at {i : Int} (h0 : 0 ≤ i) (h1 : i < 7) : ∃ q : Int, atI (primes.map V.int) i = some (.int q) ∧ 1000000000 ≤ q ∧ q ≤ 2147483647 := by
  have hk : i.toNat < 7 := by omega
  have e : i = ((i.toNat : Nat) : Int) := by omega
  rw [e]
  generalize i.toNat = j at *
  match j, hk with
  | 0, _ => exact ⟨_, atI_nat rfl, by decide, by decide⟩
  | 1, _ => exact ⟨_, atI_nat rfl, by decide, by decide⟩
  | 2, _ => exact ⟨_, atI_nat rfl, by decide, by decide⟩
  | 3, _ => exact ⟨_, atI_nat rfl, by decide, by decide⟩
  | 4, _ => exact ⟨_, atI_nat rfl, by decide, by decide⟩
  | 5, _ => exact ⟨_, atI_nat rfl, by decide, by decide⟩
  | 6, _ => exact ⟨_, atI_nat rfl, by decide, by decide⟩
  | j + 7, h => exact absurd h (by omega)
theorem big_pos : (0 : Int) < ((10 ^ (50 : Int).toNat) ^ (60 : Int).toNat) ^ (10 : Int).toNat := Int.pow_pos (Int.pow_pos (Int.pow_pos (by decide)))
section
variable {P : Program} {w : World} {K : PySem.W.Frag} {mg : Str → Option Value} {base : Heap}
theorem ok_draw (D : Df K mg "_law_draw" s_law_draw ["_law_tape_here", "_law_many"]) (T : Txt K mg) : Cl P w K mg base 1 "_law_draw" spDraw := by
  have c_law_draw : Cl P w K mg base 0 "_law_draw" spNone := D.none fun _ _ _ _ h => h
  refine D.ok sc_law_draw (fun vs H Q E h => ?_) (fun f cdv A outer s H vs Q E hr h => ?_)
  · obtain ⟨t, c, m, n, rfl, _⟩ := h
    rfl
  obtain ⟨t, c, m, n, rfl, ⟨cs, s, l, ht, hcl, s0, sn, l0, h63⟩, ⟨m1, m6⟩, hn, k⟩ := h
  have hu := hu_of hr
  have hc : SqL K H c (cs.map V.int) := SqL.of hcl
  have ctn : c ∉ [t] := by simp only [List.mem_singleton]; exact ne_of hcl ht (by intro z; cases z)
  refine ⟨_, -- if _law_tape_here['left'] > 0:
    (pss_cons (ps_if (pt_cmpR op_gt (pe_dget hu (pv 0) pe_str (fun _ _ => rfl)) pe_int (nomark _))
      (pss_cons (ps_set (i := 2) sc_law_draw.nd rfl (Or.inl rfl) (pe_op op_mod (pe_dget hu (pv 0) pe_str (fun _ _ => rfl)) (pv 1)))
      (pss_cons (ps_dput hu (pv 0) pe_str (pe_op op_fdiv (pe_dget hu (pv 0) pe_str (fun _ _ => rfl)) (pv 1)) rfl)
      (pss_one (ps_ret (pv 2)))))
      pss_nil)
    (pss_cons (ps_set (i := 3) sc_law_draw.nd rfl (Or.inl rfl) (pe_dget hu (pv 0) pe_str (fun _ _ => rfl)))
    (pss_cons (ps_dput hu (pv 0) pe_str (pe_op op_add (pv 3) pe_int) rfl)
    (pss_cons (ps_set (i := 4) sc_law_draw.nd rfl (Or.inl rfl) (pe_orT (pe_dget hu (pv 0) pe_str (fun _ _ => rfl)) (pe_one (pe_lst (pa_cons pe_int pa_nil)))))
    (pss_cons (ps_set (i := 5) sc_law_draw.nd rfl (Or.inl rfl) (pe_ix ix_list (pv 4) (pe_op op_mod (pv 3) (pe_callB call_len_seq (by rfl) T.m_len PySem.boot_len (pa_cons (pv 4) pa_nil))) (fun _ _ => rfl)))
    (C8.pss_cut (ps_if (PW.pt (pw_and (pt_cmpR op_ge (pv 5) (pe_op op_powG pe_int pe_int) (nomark _)) (pw_and1 (pt_cmpR op_lt (pv 3) (pe_callB call_len_seq (by rfl) T.m_len PySem.boot_len (pa_cons (pv 4) pa_nil)) (nomark _)))))
      (pss_cons (ps_set (i := 6) sc_law_draw.nd rfl (Or.inl rfl) (pe_op op_mod (pe_op op_sub (pv 5) (pe_op op_powG pe_int pe_int)) (pe_op op_powG (pe_op op_powG (pe_op op_powG pe_int pe_int) pe_int) pe_int)))
      (pss_cons (ps_dput hu (pv 0) pe_str (pe_op op_fdiv (pv 6) (pv 1)) rfl)
      (pss_one (ps_ret (pe_op op_mod (pv 6) (pv 1))))))
      pss_nil)
    (pss_cons (ps_set (i := 7) sc_law_draw.nd rfl (Or.inl rfl) (pe_lst (pa_cons pe_int (pa_cons pe_int (pa_cons pe_int (pa_cons pe_int (pa_cons pe_int (pa_cons pe_int (pa_cons pe_int pa_nil)))))))))
    (pss_cons (ps_set (i := 8) sc_law_draw.nd rfl (Or.inl rfl) (pe_ix ix_list (pv 7) (pe_op op_mod (pv 3) pe_int) (fun _ _ => rfl)))
    (pss_cons (ps_set (i := 9) sc_law_draw.nd rfl (Or.inl rfl) (pe_op op_mod (pe_op op_add (pe_op op_add (pe_op op_add (pe_op op_mul (pe_op op_mod (pv 5) (pv 8)) pe_int) (pe_op op_mul (pe_op op_mul pe_int (pv 3)) (pv 3))) (pe_op op_mul pe_int (pv 3))) pe_int) (pv 8)))
    (pss_cons (ps_set (i := 9) sc_law_draw.nd rfl (Or.inl rfl) (pe_op op_mod (pe_op op_mul (pv 9) (pe_op op_add (pv 9) pe_int)) (pe_ix ix_list (pv 7) (pe_op op_mod (pe_op op_add (pv 3) pe_int) pe_int) (fun _ _ => rfl))))
    (pss_cons (ps_set (i := 2) sc_law_draw.nd rfl (Or.inl rfl) (pe_op op_fdiv (pe_op op_mod (pe_op op_mul (pv 9) (pv 9)) (pv 8)) pe_int))
    (pss_cons (ps_if (pt_cmpR op_gt (pv 1) (pe_op op_powG pe_int pe_int) (nomark _))
      (pss_one (ps_set (i := 2) sc_law_draw.nd rfl (Or.inl rfl) (pe_op op_add (pe_op op_mod (pv 2) (pe_op op_powG pe_int pe_int)) (pe_op op_mul (pe_op op_powG pe_int pe_int) (pe_cl c_law_draw (hr.mono (by first | decide | omega)) rfl (pa_cons (pv 0) (pa_cons (pe_op op_add (pe_op op_fdiv (pv 1) (pe_op op_powG pe_int pe_int)) pe_int) pa_nil)))))))
      pss_nil)
    (pss_one (ps_ret (pe_op op_mod (pv 2) (pv 1)))))))))))))))), ?_⟩
  refine ⟨_, rfl, t, _, rfl, tape_left ht, _, _, rfl, rfl, _, rfl, ?_⟩
  refine ite2 (fun p => ?_) (fun p => ?_)
  · have lp : 0 < l := of_decide_eq_true p
    refine ⟨_, rfl, t, _, rfl, tape_left ht, _, rfl, _, _, rfl, rfl, (by omega), ?_⟩
    refine ⟨_, rfl, t, _, rfl, tape_left ht, _, rfl, _, _, rfl, rfl, ⟨by omega, by omega⟩, _, rfl, t, _, rfl, tape_put_left ht, ?_⟩
    refine ⟨_, rfl, ?_⟩
    have f1 : Fr [t] H (upd H t (.dK (tapeD c s (l / m)))) := Fr.put (by simp)
    exact k _ _ ⟨Int.emod_nonneg _ (by omega), Int.emod_lt_of_pos _ (by omega)⟩ ⟨cs, s, l / m, upd_same, f1 _ _ hcl ctn, s0, by omega, Int.ediv_nonneg l0 (by omega), h63⟩ f1
  · -- spot
    refine ⟨_, rfl, t, _, rfl, tape_spot ht, ?_⟩
    refine ⟨_, rfl, _, _, rfl, rfl, _, rfl, t, _, rfl, tape_put_spot ht, ?_⟩
    have f1 : Fr [t] H (upd H t (.dK (tapeD c (s + 1) l))) := Fr.put (by simp)
    have ht1 : (upd H t (.dK (tapeD c (s + 1) l))) t = some (.dK (tapeD c (s + 1) l)) := upd_same
    have hc1 := sq_ne hc ht f1
    generalize (upd H t (.dK (tapeD c (s + 1) l))) = H1 at *
    refine ⟨_, rfl, t, _, rfl, tape_cells ht1, or_new hc1 h63 fun c2 cs2 H2 sm2 p2 l2 hc2 => ?_⟩
    have ht2 := sm2 _ _ ht1
    have hc12 := sm2.seq hc1
    have f2 := f1.trans (Fr.same sm2 _)
    have hl2 : (cs2.map V.int).length = cs2.length := List.length_map _
    have i0 : 0 ≤ s % (((cs2.map V.int).length : Nat) : Int) := Int.emod_nonneg _ (by omega)
    have i1 : s % (((cs2.map V.int).length : Nat) : Int) < (cs2.length : Int) := by
      rw [hl2]
      exact Int.emod_lt_of_pos _ (by omega)
    obtain ⟨cell, hcell⟩ := at_ints i0 i1
    refine ⟨_, rfl, _, rfl, _, rfl, c2, _, rfl, .inl hc2, _, _, rfl, rfl, (by rw [hl2]; omega), c2, _, _, _, rfl, rfl, hc2, hcell, ?_⟩
    refine ⟨fun σ' H' => σ' = [some (.ref t), some (.int m), none, some (.int s), some (.ref c2), some (.int cell), none, none, none, none] ∧ H' = H2, ?_, ?_⟩
    · refine ⟨_, rfl, _, _, rfl, rfl, pw18, _, _, rfl, rfl, _, rfl, ?_⟩
      refine ite2 (fun p3 => ?_) (fun p3 => ⟨rfl, rfl⟩)
      refine ⟨_, rfl, _, rfl, c2, _, rfl, .inl hc2, _, _, rfl, rfl, _, rfl, ?_⟩
      refine ite2 (fun p4 => ?_) (fun p4 => ⟨rfl, rfl⟩)
      refine ⟨_, rfl, _, _, rfl, rfl, pw18, _, _, rfl, rfl, _, _, rfl, rfl, pw50, _, _, rfl, rfl, pw60, _, _, rfl, rfl, pw10, _, _, rfl, rfl, big_pos, ?_⟩
      have g0 : 0 ≤ (cell - 10 ^ (18 : Int).toNat) % ((10 ^ (50 : Int).toNat) ^ (60 : Int).toNat) ^ (10 : Int).toNat := Int.emod_nonneg _ (Int.ne_of_gt big_pos)
      dsimp only
      generalize (cell - 10 ^ (18 : Int).toNat) % ((10 ^ (50 : Int).toNat) ^ (60 : Int).toNat) ^ (10 : Int).toNat = gr at *
      refine ⟨_, rfl, _, rfl, _, _, rfl, rfl, ⟨by omega, by omega⟩, _, rfl, t, _, rfl, tape_put_left ht2, ?_⟩
      refine ⟨_, rfl, _, rfl, _, _, rfl, rfl, (by omega), ?_⟩
      have f3 : Fr [t] H2 (upd H2 t (.dK (tapeD c (s + 1) (gr / m)))) := Fr.put (by simp)
      exact k _ _ ⟨Int.emod_nonneg _ (by omega), Int.emod_lt_of_pos _ (by omega)⟩ ⟨cs, s + 1, gr / m, upd_same, (f2.trans f3) _ _ hcl ctn, by omega, by omega, Int.ediv_nonneg g0 (by omega), h63⟩ (f2.trans f3)
    · rintro σ' H' ⟨rfl, rfl⟩
      refine ⟨(by show 7 ≤ sizeLine; decide), fun pr hpr => ?_⟩
      have sm3 := same_new (o := .lst [V.int 2147483647, .int 2147483629, .int 2147483587, .int 2147483579, .int 2147483563, .int 2147483549, .int 2147483543]) hpr
      have hP : SqL K (upd H' pr (.lst [V.int 2147483647, .int 2147483629, .int 2147483587, .int 2147483579, .int 2147483563, .int 2147483549, .int 2147483543])) pr (primes.map V.int) := SqL.of upd_same
      have ht3 := sm3 _ _ ht2
      have hc3 := sm3.seq hc12
      have f3 := f2.trans (Fr.same sm3 _)
      generalize (upd H' pr (.lst [V.int 2147483647, .int 2147483629, .int 2147483587, .int 2147483579, .int 2147483563, .int 2147483549, .int 2147483543])) = H3 at *
      obtain ⟨q1, a1, b1, c1⟩ := prime_at (i := s % 7) (Int.emod_nonneg _ (by decide)) (Int.emod_lt_of_pos _ (by decide))
      refine ⟨_, rfl, _, rfl, _, _, rfl, rfl, (by show (0 : Int) < 7; decide), pr, _, _, _, rfl, rfl, hP, a1, ?_⟩
      have e0 : 0 ≤ cell % q1 := Int.emod_nonneg _ (by omega)
      have e1 : cell % q1 < q1 := Int.emod_lt_of_pos _ (by omega)
      refine ⟨_, rfl, _, rfl, _, _, rfl, rfl, (by omega), _, _, rfl, rfl, .inr ⟨by decide, by decide⟩, _, rfl, _, _, rfl, rfl, .inl ⟨by decide, by decide⟩, _, rfl, _, _, rfl, rfl, .inr ⟨by omega, by omega⟩, _, _, rfl, rfl, _, rfl, _, _, rfl, rfl, .inl ⟨by decide, by decide⟩, _, _, rfl, rfl, _, _, rfl, rfl, _, rfl, _, _, rfl, rfl, (by omega), ?_⟩
      dsimp only
      generalize hsd : (cell % q1 * 48271 + 7919 * s * s + 69621 * s + 1) % q1 = sd
      have d0 : 0 ≤ sd := by rw [← hsd]; exact Int.emod_nonneg _ (by omega)
      have d1 : sd < q1 := by rw [← hsd]; exact Int.emod_lt_of_pos _ (by omega)
      obtain ⟨q2, a2, b2, c2'⟩ := prime_at (i := (s + 3) % 7) (Int.emod_nonneg _ (by decide)) (Int.emod_lt_of_pos _ (by decide))
      refine ⟨_, rfl, _, rfl, _, _, rfl, rfl, _, _, rfl, rfl, .inl ⟨by omega, by omega⟩, _, rfl, _, rfl, _, _, rfl, rfl, _, _, rfl, rfl, (by show (0 : Int) < 7; decide), pr, _, _, _, rfl, rfl, hP, a2, _, _, rfl, rfl, (by omega), ?_⟩
      dsimp only
      generalize hse : sd * (sd + 16807) % q2 = se
      have e2 : 0 ≤ se := by rw [← hse]; exact Int.emod_nonneg _ (by omega)
      have e3 : se < q2 := by rw [← hse]; exact Int.emod_lt_of_pos _ (by omega)
      refine ⟨_, rfl, _, rfl, _, _, rfl, rfl, .inl ⟨by omega, by omega⟩, _, rfl, _, _, rfl, rfl, (by omega), _, _, rfl, rfl, ⟨by decide, by decide⟩, ?_⟩
      dsimp only
      generalize se * se % q1 / 64 = fo
      refine ⟨_, rfl, _, _, rfl, rfl, pw6, _, _, rfl, rfl, _, rfl, ?_⟩
      refine ite2 (fun p5 => absurd (of_decide_eq_true p5) (by rw [pw6e]; omega)) (fun p5 => ?_)
      refine ⟨_, rfl, _, rfl, _, _, rfl, rfl, (by omega), ?_⟩
      exact k _ _ ⟨Int.emod_nonneg _ (by omega), Int.emod_lt_of_pos _ (by omega)⟩ ⟨cs, s + 1, l, ht3, f3 _ _ hcl ctn, by omega, by omega, l0, h63⟩ f3
end
end SG
namespace SG
open PySem PySem.Spec PyProof.Rows L2
section
variable {K : PySem.W.Frag} {H H' H1 : Hp} {t c p : Addr} {n m : Nat}
theorem Fr.one {S : List Addr} {o : HO} (f : Fr S H H') (h : H p = some o) (hn : p ∉ S) : H' p = some o := f p o h hn
theorem TapeAt.ne_new (h : TapeAt H t c n) (hp : H p = none) : p ≠ t := by
  obtain ⟨kvs, e⟩ := h.is
  exact fun z => by rw [z, e] at hp; cases hp
theorem TapeAt.ne_lst {xs : List V} (h : TapeAt H t c n) (hp : H p = some (.lst xs)) : p ≠ t := by
  obtain ⟨kvs, e⟩ := h.is
  exact ne_of hp e (by intro z; cases z)
theorem TapeAt.ne_tup {xs : List V} (h : TapeAt H t c n) (hp : H p = some (.tup xs)) : p ≠ t := by
  obtain ⟨kvs, e⟩ := h.is
  exact ne_of hp e (by intro z; cases z)
theorem not_in_one {a b : Addr} (h : a ≠ b) : a ∉ [b] := by simpa using h
theorem sl1000 {n : Nat} (h : n ≤ 1000) : n ≤ sizeLine := Nat.le_of_lt (small1000 h)
theorem TapeAt.ne_newc (h : TapeAt H t c n) (hp : H p = none) : p ≠ c := by
  obtain ⟨cs, s, l, h1, h2, h3, h4, h5, h6⟩ := h
  exact fun z => by rw [z, h2] at hp; cases hp
theorem TapeAt.ne_tupc {xs : List V} (h : TapeAt H t c n) (hp : H p = some (.tup xs)) : p ≠ c := by
  obtain ⟨cs, s, l, h1, h2, h3, h4, h5, h6⟩ := h
  exact ne_of hp h2 (by intro z; cases z)
theorem TapeAt.ne_dctc {xs : List (Key × V)} (h : TapeAt H t c n) (hp : H p = some (.dK xs)) : p ≠ c := by
  obtain ⟨cs, s, l, h1, h2, h3, h4, h5, h6⟩ := h
  exact ne_of hp h2 (by intro z; cases z)
theorem TapeAt.put {o : HO} (h : TapeAt H t c n) (h1 : p ≠ t) (h2 : p ≠ c) : TapeAt (upd H p o) t c n := by
  obtain ⟨cs, s, l, e1, e2, r⟩ := h
  exact ⟨cs, s, l, by rw [upd_ne h1.symm]; exact e1, by rw [upd_ne h2.symm]; exact e2, r⟩
/-- [..][_law_draw(tape, m)], the list new -/
theorem pick_draw {xs : List V} {i : Int} {Q : VK} (hT : TapeAt H t c n) (hn : n ≤ 1000000000) (hm : i = (xs.length : Int)) (hx : 1 ≤ xs.length ∧ xs.length ≤ 1000)
    (k : ∀ v H', v ∈ xs → TapeAt H' t c (n + 1) → Fr [t] H H' → Q v H') : ∀ p, H p = none → spDraw [.ref t, .int i] (upd H p (.lst xs)) (fun y H2 => rIxL K (.ref p) y H2 Q) E0 := by
  intro p hp
  have pt := hT.ne_new hp
  have sm := same_new (o := .lst xs) hp
  have hh : (upd H p (.lst xs)) p = some (.lst xs) := upd_same
  generalize upd H p (.lst xs) = Hx at *
  refine ⟨t, c, i, n, rfl, hT.same sm, ⟨by omega, by omega⟩, hn, fun r H' hr T' F' => ?_⟩
  obtain ⟨v, hv, e⟩ := at_in (xs := xs) hr.1 (by omega)
  exact ⟨p, xs, r, v, rfl, rfl, SqL.of (F' _ _ hh (not_in_one pt)), e, k v H' hv T' ((Fr.same sm _).trans F')⟩
end
end SG
namespace SG
open PySem PySem.Spec PyProof.Rows L2
/-! ### measures -/
def Bnd (i : Int) : Prop := -1000000 ≤ i ∧ i ≤ 1000000
theorem Bnd.mul {i j : Int} (h : Bnd i) : CMul i j := .inl ⟨by have := h.1; omega, by have := h.2; omega⟩
def absI (i : Int) : Int := if i < 0 then -i else i
def beyondB (way : Str) (dx dy slop : Int) : Bool :=
  if way = "across" then decide (slop < absI dx) else if way = "along" then decide (slop < absI dy) else decide (slop * slop < dx * dx + dy * dy)
def spBeyond : Sp := fun vs H Q _ => ∃ (way : Str) (dx dy slop : Int), vs = [.str way, .int dx, .int dy, .int slop] ∧ Bnd dx ∧ Bnd dy ∧ Bnd slop ∧ Q (.bl (beyondB way dx dy slop)) H
def spSquare (K : PySem.W.Frag) : Sp := fun vs H Q _ => ∃ (a : Addr) (x y : Int), vs = [.ref a] ∧ SqT K H a [.int x, .int y] ∧ Bnd x ∧ Bnd y ∧ Q (.int (x * x + y * y)) H
def spreadB (fx fy x y : Int) : Bool := decide (25 * (fx * fx + fy * fy) < 16 * (x * x + y * y)) || decide (25 * (x * x + y * y) < 16 * (fx * fx + fy * fy))
def turnedB (fx fy x y : Int) : Bool := decide (fx * x + fy * y < absI (fx * y - fy * x))
def spSpread (K : PySem.W.Frag) : Sp := fun vs H Q _ => ∃ (a b : Addr) (fx fy x y : Int), vs = [.ref a, .ref b] ∧ SqT K H a [.int fx, .int fy] ∧ SqT K H b [.int x, .int y] ∧ Bnd fx ∧ Bnd fy ∧ Bnd x ∧ Bnd y ∧ Q (.bl (spreadB fx fy x y)) H
def spTurned (K : PySem.W.Frag) : Sp := fun vs H Q _ => ∃ (a b : Addr) (fx fy x y : Int), vs = [.ref a, .ref b] ∧ SqT K H a [.int fx, .int fy] ∧ SqT K H b [.int x, .int y] ∧ Bnd fx ∧ Bnd fy ∧ Bnd x ∧ Bnd y ∧ Q (.bl (turnedB fx fy x y)) H
theorem strV_eq {a b : Str} : (decide (V.str a = V.str b) = true) ↔ a = b := by
  rw [decide_eq_true_iff]
  exact ⟨fun h => V.str.inj h, fun h => by rw [h]⟩
section
variable {P : Program} {w : World} {K : PySem.W.Frag} {mg : Str → Option Value} {base : Heap}
theorem ok_beyond (D : Df K mg "is_beyond" sis_beyond ["way", "dx", "dy", "slop"]) (T : Txt K mg) : Cl P w K mg base 1 "is_beyond" spBeyond := by
  refine D.ok scis_beyond (fun vs H Q E h => ?_) (fun f cdv A outer s H vs Q E hr h => ?_)
  · obtain ⟨_, _, _, _, rfl, _⟩ := h
    rfl
  obtain ⟨way, dx, dy, slop, rfl, bx, bY, bs, k⟩ := h
  have hu := hu_of hr
  unfold beyondB at k
  refine ⟨_, -- if way == 'across':
    (pss_cons (ps_if (pt_cmpR op_eq (pv 0) pe_str (nomark _))
      (pss_one (ps_ret (pe_cmpR op_gt (pe_callB call_abs (by rfl) T.m_abs (by decide +kernel) (pa_cons (pv 1) pa_nil)) (pv 3) (nomark _))))
      pss_nil)
    (pss_cons (ps_if (pt_cmpR op_eq (pv 0) pe_str (nomark _))
      (pss_one (ps_ret (pe_cmpR op_gt (pe_callB call_abs (by rfl) T.m_abs (by decide +kernel) (pa_cons (pv 2) pa_nil)) (pv 3) (nomark _))))
      pss_nil)
    (pss_one (ps_ret (pe_cmpR op_gt (pe_op op_add (pe_op op_mul (pv 1) (pv 1)) (pe_op op_mul (pv 2) (pv 2))) (pe_op op_mul (pv 3) (pv 3)) (nomark _)))))), ?_⟩
  refine ⟨_, rfl, rfl, _, rfl, ite2 (fun p => ?_) (fun p => ?_)⟩
  · rw [if_pos (strV_eq.mp p)] at k
    refine ⟨_, rfl, _, rfl, _, rfl, _, _, rfl, rfl, ?_⟩
    exact k
  rw [if_neg (fun e => p (strV_eq.mpr e))] at k
  refine ⟨_, rfl, rfl, _, rfl, ite2 (fun p => ?_) (fun p => ?_)⟩
  · rw [if_pos (strV_eq.mp p)] at k
    refine ⟨_, rfl, _, rfl, _, rfl, _, _, rfl, rfl, ?_⟩
    exact k
  rw [if_neg (fun e => p (strV_eq.mpr e))] at k
  refine ⟨_, rfl, _, rfl, _, _, rfl, rfl, bx.mul, _, rfl, _, rfl, _, _, rfl, rfl, bY.mul, _, _, rfl, rfl, _, rfl, _, rfl, _, _, rfl, rfl, bs.mul, _, _, rfl, rfl, ?_⟩
  exact k
theorem ok_square (D : Df K mg "_square" s_square ["difference"]) (T : Txt K mg) : Cl P w K mg base 1 "_square" (spSquare K) := by
  refine D.ok sc_square (fun vs H Q E h => ?_) (fun f cdv A outer s H vs Q E hr h => ?_)
  · obtain ⟨_, _, _, rfl, _⟩ := h
    rfl
  obtain ⟨a, x, y, rfl, ha, bx, bY, k⟩ := h
  refine ⟨_, -- x, y = difference
    (pss_cons (ps_asg (pv 0) (pg_tup rfl (pgs_cons (pg_name (i := 1) sc_square.nd rfl (Or.inl rfl)) (pgs_cons (pg_name (i := 2) sc_square.nd rfl (Or.inl rfl)) pgs_nil))))
    (pss_one (ps_ret (pe_op op_add (pe_op op_mul (pv 1) (pv 1)) (pe_op op_mul (pv 2) (pv 2)))))), ?_⟩
  refine ⟨_, rfl, a, _, rfl, ha, rfl, _, _, rfl, _, _, rfl, rfl, ?_⟩
  refine ⟨_, rfl, _, rfl, _, _, rfl, rfl, bx.mul, _, rfl, _, rfl, _, _, rfl, rfl, bY.mul, _, _, rfl, rfl, ?_⟩
  exact k
theorem ok_spread (D : Df K mg "is_spread" sis_spread ["first", "other"]) (T : Txt K mg) (c_square : Cl P w K mg base 1 "_square" (spSquare K)) : Cl P w K mg base 2 "is_spread" (spSpread K) := by
  refine D.ok scis_spread (fun vs H Q E h => ?_) (fun f cdv A outer s H vs Q E hr h => ?_)
  · obtain ⟨_, _, _, _, _, _, rfl, _⟩ := h
    rfl
  obtain ⟨a, b, fx, fy, x, y, rfl, ha, hb, b1, b2, b3, b4, k⟩ := h
  refine ⟨_, -- before = _square(first)
    (pss_cons (ps_set (i := 2) scis_spread.nd rfl (Or.inl rfl) (pe_cl c_square (hr.mono (by first | decide | omega)) rfl (pa_cons (pv 0) pa_nil)))
    (pss_cons (ps_set (i := 3) scis_spread.nd rfl (Or.inl rfl) (pe_cl c_square (hr.mono (by first | decide | omega)) rfl (pa_cons (pv 1) pa_nil)))
    (pss_one (ps_ret (pe_or (pe_cmpR op_gt (pe_op op_mul pe_int (pv 3)) (pe_op op_mul pe_int (pv 2)) (nomark _)) (pe_one (pe_cmpR op_lt (pe_op op_mul pe_int (pv 3)) (pe_op op_mul pe_int (pv 2)) (nomark _)))))))), ?_⟩
  refine ⟨_, rfl, a, _, _, rfl, ha, b1, b2, ?_⟩
  refine ⟨_, rfl, b, _, _, rfl, hb, b3, b4, ?_⟩
  refine ⟨_, rfl, _, _, rfl, rfl, .inl (by decide), _, rfl, _, _, rfl, rfl, .inl (by decide), _, _, rfl, rfl, ?_⟩
  unfold spreadB at k
  refine ⟨_, rfl, ite2 (fun p => ?_) (fun p => ?_)⟩
  · rw [show decide (25 * (fx * fx + fy * fy) < 16 * (x * x + y * y)) = true from p, Bool.true_or] at k
    exact k
  · rw [show decide (25 * (fx * fx + fy * fy) < 16 * (x * x + y * y)) = false from Bool.eq_false_iff.mpr p, Bool.false_or] at k
    refine ⟨_, rfl, _, _, rfl, rfl, .inl (by decide), _, rfl, _, _, rfl, rfl, .inl (by decide), _, _, rfl, rfl, ?_⟩
    exact k
theorem ok_turned (D : Df K mg "is_turned" sis_turned ["first", "other"]) (T : Txt K mg) : Cl P w K mg base 1 "is_turned" (spTurned K) := by
  refine D.ok scis_turned (fun vs H Q E h => ?_) (fun f cdv A outer s H vs Q E hr h => ?_)
  · obtain ⟨_, _, _, _, _, _, rfl, _⟩ := h
    rfl
  obtain ⟨a, b, fx, fy, x, y, rfl, ha, hb, b1, b2, b3, b4, k⟩ := h
  refine ⟨_, -- fx, fy = first
    (pss_cons (ps_asg (pv 0) (pg_tup rfl (pgs_cons (pg_name (i := 2) scis_turned.nd rfl (Or.inl rfl)) (pgs_cons (pg_name (i := 3) scis_turned.nd rfl (Or.inl rfl)) pgs_nil))))
    (pss_cons (ps_asg (pv 1) (pg_tup rfl (pgs_cons (pg_name (i := 4) scis_turned.nd rfl (Or.inl rfl)) (pgs_cons (pg_name (i := 5) scis_turned.nd rfl (Or.inl rfl)) pgs_nil))))
    (pss_one (ps_ret (pe_cmpR op_gt (pe_callB call_abs (by rfl) T.m_abs (by decide +kernel) (pa_cons (pe_op op_sub (pe_op op_mul (pv 2) (pv 5)) (pe_op op_mul (pv 3) (pv 4))) pa_nil)) (pe_op op_add (pe_op op_mul (pv 2) (pv 4)) (pe_op op_mul (pv 3) (pv 5))) (nomark _)))))), ?_⟩
  refine ⟨_, rfl, a, _, rfl, ha, rfl, _, _, rfl, _, _, rfl, rfl, ?_⟩
  refine ⟨_, rfl, b, _, rfl, hb, rfl, _, _, rfl, _, _, rfl, rfl, ?_⟩
  refine ⟨_, rfl, _, rfl, _, _, rfl, rfl, b1.mul, _, rfl, _, rfl, _, _, rfl, rfl, b2.mul, _, _, rfl, rfl, _, rfl, _, rfl, _, rfl, _, _, rfl, rfl, b1.mul, _, rfl, _, rfl, _, _, rfl, rfl, b2.mul, _, _, rfl, rfl, _, _, rfl, rfl, ?_⟩
  exact k
end
end SG
namespace SG
open PySem PySem.Spec PyProof.Rows L2
/-! ### strokes of one finger -/
structure Tc where
  a : Addr
  m : Int
  w : Str
  x : Int
  y : Int
def TcAt (H : Hp) (t : Tc) : Prop := H t.a = some (.tup [.int t.m, .int 0, .str t.w, .int t.x, .int t.y])
def TcB (t : Tc) : Prop := Bnd t.x ∧ Bnd t.y ∧ -1000 ≤ t.x ∧ t.x ≤ 1000 ∧ -1000 ≤ t.y ∧ t.y ≤ 1000
/-- the touch from which a fling is measured -/
def pick (m : Int) (s : Tc) (ts : List Tc) : Tc := ts.foldl (fun s t => if t.m ≤ m - 100 then t else s) s
theorem pick_filter (m : Int) : ∀ (ts : List Tc) (s : Tc), pick m s ts = (ts.filter fun t => decide (t.m ≤ m - 100)).getLastD s
  | [], s => rfl
  | t :: r, s => by
    show pick m (if t.m ≤ m - 100 then t else s) r = _
    rw [pick_filter m r]
    by_cases h : t.m ≤ m - 100
    · rw [if_pos h, List.filter_cons_of_pos (by simpa using h)]
      cases (r.filter fun t => decide (t.m ≤ m - 100)) with
      | nil => rfl
      | cons z q => rfl
    · rw [if_neg h, List.filter_cons_of_neg (by simpa using h)]
theorem pick_snoc (m : Int) (s : Tc) (ts : List Tc) (t : Tc) : pick m s (ts ++ [t]) = if t.m ≤ m - 100 then t else pick m s ts := by
  unfold pick
  rw [List.foldl_append]
  rfl
theorem pick_mem (m : Int) : ∀ (ts : List Tc) (s : Tc), pick m s ts = s ∨ pick m s ts ∈ ts
  | [], s => .inl rfl
  | t :: r, s => by
    show pick m (if t.m ≤ m - 100 then t else s) r = s ∨ _
    rcases pick_mem m r (if t.m ≤ m - 100 then t else s) with h | h
    · by_cases q : t.m ≤ m - 100
      · rw [if_pos q] at h
        exact .inr (by show pick m (if t.m ≤ m - 100 then t else s) r ∈ _; rw [if_pos q, h]; exact List.mem_cons_self)
      · rw [if_neg q] at h
        exact .inl (by rw [if_neg q]; exact h)
    · exact .inr (List.mem_cons_of_mem _ h)
/-- what is told of a stroke s :: r, of which u is the last -/
def flingD (s u : Tc) (ts : List Tc) : Int × Int := (u.x - (pick u.m s ts).x, u.y - (pick u.m s ts).y)
def isFar (d : Int × Int) : Bool := decide (2500 < d.1 * d.1 + d.2 * d.2)
def Told (H : Hp) (v : V) (d : Int × Int) : Prop := if isFar d then ∃ a, v = .ref a ∧ H a = some (.tup [.int d.1, .int d.2]) else v = .non
def toldData (d : Int × Int) : PyData := if isFar d then .tuple [.int d.1, .int d.2] else .none
theorem Told.dp {K : PySem.W.Frag} {H : Hp} {v : V} {d : Int × Int} (h : Told H v d) : Dp K H v (toldData d) := by
  unfold Told at h
  unfold toldData
  cases e : isFar d with
  | true =>
    rw [e, if_pos rfl] at h
    obtain ⟨a, rfl, h⟩ := h
    exact .tup (SqT.of h) (.cons (.int _) (.cons (.int _) .nil))
  | false =>
    rw [e, if_neg (by decide)] at h
    rw [h]
    exact .non
theorem told_plain (d : Int × Int) : PyData.plain (toldData d) = true := by
  unfold toldData
  cases isFar d <;> rfl
theorem told_depth (d : Int × Int) : PyData.depth (toldData d) ≤ 64 := by
  unfold toldData
  cases isFar d
  · exact Nat.zero_le _
  · show 1 ≤ 64
    decide
def vs5 (t : Tc) : V := .ref t.a
/-- a row of touches that ends with an up -/
def Str5 (K : PySem.W.Frag) (H : Hp) (l : Addr) (ts : List Tc) : Prop := SqL K H l (ts.map fun t => V.ref t.a) ∧ (∀ t ∈ ts, TcAt H t ∧ TcB t) ∧ ts.length ≤ 30
def spFlung (K : PySem.W.Frag) : Sp := fun vs H Q _ => ∃ (l : Addr) (s u : Tc) (r : List Tc), vs = [.ref l] ∧ Str5 K H l (s :: r ++ [u]) ∧ u.w = "up" ∧ ∀ v H', Same H H' → Told H' v (flingD s u (s :: r ++ [u])) → Q v H'
theorem pow_two (i : Int) : i ^ 2 = i * i := by rw [show (2 : Nat) = 1 + 1 from rfl, Int.pow_succ, Int.pow_succ, Int.pow_zero, Int.one_mul]
theorem pow2 {i : Int} (h : Bnd i) : CPowG i 2 := by
  have b : Builtin.Int.intBits i ≤ 20 := PySem.intBits_le_iff.mpr (by have := h.1; have := h.2; omega)
  exact ⟨by decide, by omega⟩
theorem tc_last {s u : Tc} {r : List Tc} : atI ((s :: r ++ [u]).map fun t => V.ref t.a) (-1) = some (.ref u.a) := by
  rw [List.map_append]
  exact atI_last _ _
theorem tc_first {s u : Tc} {r : List Tc} : atI ((s :: r ++ [u]).map fun t => V.ref t.a) 0 = some (.ref s.a) := atI_nat (j := 0) rfl
theorem t5_0 {a b c d e : V} : atI [a, b, c, d, e] 0 = some a := atI_nat (j := 0) rfl
theorem t5_2 {a b c d e : V} : atI [a, b, c, d, e] 2 = some c := atI_nat (j := 2) rfl
theorem t5_3 {a b c d e : V} : atI [a, b, c, d, e] 3 = some d := atI_nat (j := 3) rfl
theorem t5_4 {a b c d e : V} : atI [a, b, c, d, e] 4 = some e := atI_nat (j := 4) rfl
section
variable {P : Program} {w : World} {K : PySem.W.Frag} {mg : Str → Option Value} {base : Heap}
theorem ok_flung (D : Df K mg "flung" sflung ["touches"]) (T : Txt K mg) (cis_beyond : Cl P w K mg base 1 "is_beyond" spBeyond) : Cl P w K mg base 2 "flung" (spFlung K) := by
  refine D.ok scflung (fun vs H Q E h => ?_) (fun f cdv A outer s H vs Q E hr h => ?_)
  · obtain ⟨_, _, _, _, rfl, _⟩ := h
    rfl
  obtain ⟨l, s0, u, r, rfl, ⟨hS, hT, hl⟩, hu, k⟩ := h
  obtain ⟨_, mFLING_TIME⟩ := T.mFLING_TIMEx
  obtain ⟨_, mFLING_SLOP⟩ := T.mFLING_SLOPx
  have tu := hT u (by simp)
  have ts := hT s0 (by simp)
  refine ⟨_, -- if not touches or touches[-1][2] != 'up':
    (pss_cons (ps_if (PW.pt (pw_or (pt_not (pt_truth (pv 0) (fun _ => rfl))) (pw_or1 (pt_cmpR op_ne (pe_ix ix_tup (pe_ix ix_list (pv 0) (pe_un un_neg pe_int) (fun _ _ => rfl)) pe_int (fun _ _ => rfl)) pe_str (nomark _)))))
      (pss_one (ps_ret pe_non))
      pss_nil)
    (pss_cons (ps_asg (pe_ix ix_list (pv 0) (pe_un un_neg pe_int) (fun _ _ => rfl)) (pg_tup rfl (pgs_cons (pg_name (i := 1) scflung.nd rfl (Or.inl rfl)) (pgs_cons (pg_name (i := 2) scflung.nd rfl (Or.inl rfl)) (pgs_cons (pg_name (i := 2) scflung.nd rfl (Or.inl rfl)) (pgs_cons (pg_name (i := 3) scflung.nd rfl (Or.inl rfl)) (pgs_cons (pg_name (i := 4) scflung.nd rfl (Or.inl rfl)) pgs_nil)))))))
    (pss_cons (ps_set (i := 5) scflung.nd rfl (Or.inl rfl) (pe_ix ix_list (pv 0) pe_int (fun _ _ => rfl)))
    (pss_cons (ps_for PassesOwn.never rfl (pi_list (pv 0)) (pg_name (i := 6) scflung.nd rfl (Or.inl rfl))
      (pss_one (ps_if (pt_cmpR op_le (pe_ix ix_tup (pv 6) pe_int (fun _ _ => rfl)) (pe_op op_sub (pv 1) (pe_glob (v := .int 100) rfl mFLING_TIME ⟨_, rfl⟩)) (nomark _))
        (pss_one (ps_set (i := 5) scflung.nd rfl (Or.inl rfl) (pv 6)))
        pss_nil)))
    (pss_cons (ps_asg (pv 5) (pg_tup rfl (pgs_cons (pg_name (i := 2) scflung.nd rfl (Or.inl rfl)) (pgs_cons (pg_name (i := 2) scflung.nd rfl (Or.inl rfl)) (pgs_cons (pg_name (i := 2) scflung.nd rfl (Or.inl rfl)) (pgs_cons (pg_name (i := 7) scflung.nd rfl (Or.inl rfl)) (pgs_cons (pg_name (i := 8) scflung.nd rfl (Or.inl rfl)) pgs_nil)))))))
    (pss_cons (ps_par (i := 9) (j := 10) rfl scflung.nd rfl rfl (by decide) rfl rfl (pa_cons (pe_op op_sub (pv 3) (pv 7)) (pa_cons (pe_op op_sub (pv 4) (pv 8)) pa_nil)) rfl)
    (pss_one (ps_ret (pe_ifExp (pt_val (pe_cl cis_beyond (hr.mono (by first | decide | omega)) rfl (pa_cons pe_str (pa_cons (pv 9) (pa_cons (pv 10) (pa_cons (pe_glob (v := .int 50) rfl mFLING_SLOP ⟨_, rfl⟩) pa_nil)))))) (pe_tup (pa_cons (pv 9) (pa_cons (pv 10) pa_nil))) pe_non))))))))), ?_⟩
  refine ⟨_, rfl, _, Or.inl ⟨_, hS, rfl⟩, ?_⟩
  refine iteF ?_
  refine ⟨_, rfl, _, rfl, l, _, _, _, rfl, rfl, hS, tc_last, u.a, _, _, _, rfl, rfl, SqT.of tu.1, t5_2, rfl, _, rfl, ?_⟩
  refine ite2 (fun p => absurd p (by simp [hu])) (fun _ => ?_)
  refine ⟨_, rfl, _, rfl, l, _, _, _, rfl, rfl, hS, tc_last, u.a, _, rfl, SqT.of tu.1, rfl, _, _, rfl, _, _, rfl, _, _, rfl, _, _, rfl, _, _, rfl, rfl, ?_⟩
  refine ⟨_, rfl, l, _, _, _, rfl, rfl, hS, tc_first, ?_⟩
  refine ⟨_, rfl, l, rfl, ⟨_, hS⟩, for_list (K := K) (a := l) (xs := (s0 :: r ++ [u]).map fun t => V.ref t.a) (fun j σ Hy => Hy = H ∧ ∃ k6, σ = [some (.ref l), some (.int u.m), some (.str u.w), some (.int u.x), some (.int u.y), some (.ref (pick u.m s0 ((s0 :: r ++ [u]).take j)).a), k6, none, none, none, none]) ?_ (fun j σ Hy _ ⟨e, _⟩ => by rw [e]; exact hS) ?_ ?_⟩
  · exact ⟨rfl, _, rfl⟩
  · rintro j v σ Hy hj ⟨rfl, k6, rfl⟩
    rw [List.getElem?_map] at hj
    obtain ⟨t, ht, rfl⟩ := Option.map_eq_some_iff.mp hj
    obtain ⟨hjl, ejl⟩ := List.getElem?_eq_some_iff.mp ht
    have tt := (hT t (List.mem_of_getElem? ht)).1
    have e1 : pick u.m s0 ((s0 :: r ++ [u]).take (j + 1)) = if t.m ≤ u.m - 100 then t else pick u.m s0 ((s0 :: r ++ [u]).take j) := by
      rw [List.take_succ_eq_append_getElem hjl, ejl, pick_snoc]
    refine ⟨_, rfl, t.a, _, _, _, rfl, rfl, SqT.of tt, t5_0, _, rfl, _, _, rfl, rfl, _, _, rfl, rfl, _, rfl, ite2 (fun p => ?_) (fun p => ?_)⟩
    · rw [e1, if_pos (of_decide_eq_true p)]
      exact ⟨_, rfl, rfl, _, rfl⟩
    · rw [e1, if_neg (fun q => p (decide_eq_true q))]
      exact ⟨rfl, _, rfl⟩
  rintro σ Hy ⟨rfl, k6, rfl⟩
  rw [List.take_of_length_le (by rw [List.length_map]; exact Nat.le_refl _)]
  have pm : TcAt Hy (pick u.m s0 (s0 :: r ++ [u])) ∧ TcB (pick u.m s0 (s0 :: r ++ [u])) := by
    rcases pick_mem u.m (s0 :: r ++ [u]) s0 with e | e
    · rw [e]; exact ts
    · exact hT _ e
  have k' : ∀ v H', Same Hy H' → Told H' v (u.x - (pick u.m s0 (s0 :: r ++ [u])).x, u.y - (pick u.m s0 (s0 :: r ++ [u])).y) → Q v H' := k
  generalize pick u.m s0 (s0 :: r ++ [u]) = p0 at *
  obtain ⟨_, _, u1, u2, u3, u4⟩ := tu.2
  obtain ⟨_, _, p1, p2, p3, p4⟩ := pm.2
  refine ⟨_, rfl, p0.a, _, rfl, SqT.of pm.1, rfl, _, _, rfl, _, _, rfl, _, _, rfl, _, _, rfl, _, _, rfl, rfl, ?_⟩
  refine ⟨_, rfl, _, rfl, _, _, rfl, rfl, _, rfl, _, rfl, _, _, rfl, rfl, _, _, rfl, ?_⟩
  have far : beyondB "any" (u.x - p0.x) (u.y - p0.y) 50 = isFar (u.x - p0.x, u.y - p0.y) := by
    unfold beyondB isFar
    rw [if_neg (by decide +kernel), if_neg (by decide +kernel)]
    rfl
  refine ⟨_, rfl, _, rfl, _, _, _, _, rfl, ⟨by omega, by omega⟩, ⟨by omega, by omega⟩, ⟨by omega, by omega⟩, _, rfl, ?_⟩
  dsimp only
  rw [far]
  refine ite2 (fun p => ?_) (fun p => ?_)
  · refine ⟨_, rfl, _, rfl, (by show 2 ≤ sizeLine; decide), ?_⟩
    (intro a a0; generalize hh_ : upd _ a _ = H1; have ha := upd_is hh_; have sm := same_is hh_ a0; clear hh_)
    refine k' _ H1 sm ?_
    unfold Told
    rw [if_pos p]
    exact ⟨a, rfl, ha⟩
  · refine k' _ Hy (Same.refl _) ?_
    unfold Told
    rw [if_neg p]
/-- the law's own -/
theorem ok_own (D : Df K mg "_law_flung" s_law_flung ["_law_touches"]) (T : Txt K mg) : Cl P w K mg base 1 "_law_flung" (spFlung K) := by
  refine D.ok sc_law_flung (fun vs H Q E h => ?_) (fun f cdv A outer s H vs Q E hr h => ?_)
  · obtain ⟨_, _, _, _, rfl, _⟩ := h
    rfl
  obtain ⟨l, s0, u, r, rfl, ⟨hS, hT, hl⟩, hu, k⟩ := h
  have tu := hT u (by simp)
  have ts := hT s0 (by simp)
  refine ⟨_, -- _law_up = _law_touches[-1]
    (pss_cons (ps_set (i := 1) sc_law_flung.nd rfl (Or.inr rfl) (pe_ix ix_list (pv 0) (pe_un un_neg pe_int) (fun _ _ => rfl)))
    (pss_cons (ps_setLc (i := 2) (own := [("_law_one", 6)]) rfl sc_law_flung.nd rfl rfl (sw_true rfl rfl rfl (by decide +kernel)) (pi_list (pv 0)) (blkOk_by (N := N_law_flung) (sc := defScope s_law_flung) (by decide +kernel)) (fun _ _ _ _ _ => (pg_name (i := 6) sc_law_flung.nd rfl (Or.inl rfl))) (fun _ _ _ _ _ => pts_one (pt_cmpR op_le (pe_op op_add (pe_ix (r := rIxT K) ix_tup (pv 6) pe_int (fun _ _ => rfl)) pe_int) (pe_ix (r := rIxT K) ix_tup (pv 1) pe_int (fun _ _ => rfl)) (nomark _))) (fun _ _ _ _ _ => (pv 6)))
    (pss_cons (ps_set (i := 3) sc_law_flung.nd rfl (Or.inl rfl) (pe_ifExp (pt_cmpR (op_neNil hr.units) (pv 2) (pe_lst pa_nil) (nomark _)) (pe_ix ix_list (pe_orT (pv 2) (pe_one (pv 0))) (pe_un un_neg pe_int) (fun _ _ => rfl)) (pe_ix ix_list (pv 0) pe_int (fun _ _ => rfl))))
    (pss_cons (ps_par (i := 4) (j := 5) rfl sc_law_flung.nd rfl rfl (by decide) rfl rfl (pa_cons (pe_op op_sub (pe_ix ix_tup (pv 1) pe_int (fun _ _ => rfl)) (pe_ix ix_tup (pv 3) pe_int (fun _ _ => rfl))) (pa_cons (pe_op op_sub (pe_ix ix_tup (pv 1) pe_int (fun _ _ => rfl)) (pe_ix ix_tup (pv 3) pe_int (fun _ _ => rfl))) pa_nil)) rfl)
    (pss_one (ps_ret (pe_ifExp (pt_cmpR op_gt (pe_op op_add (pe_op op_powG (pv 4) pe_int) (pe_op op_powG (pv 5) pe_int)) pe_int (nomark _)) (pe_tup (pa_cons (pv 4) (pa_cons (pv 5) pa_nil))) pe_non))))))), ?_⟩
  refine ⟨_, rfl, _, rfl, l, _, _, _, rfl, rfl, hS, tc_last, ?_⟩
  refine ⟨_, rfl, l, rfl, ⟨_, hS⟩, ?_⟩
  intro e e0
  refine lc_list (K := K) (a := l) (xs := (s0 :: r ++ [u]).map fun t => V.ref t.a) (fun i Hy => Hy e = some (.lst ((((s0 :: r ++ [u]).take i).filter fun t => decide (t.m ≤ u.m - 100)).map fun t => V.ref t.a)) ∧ Same H Hy) ⟨upd_same, same_new e0⟩ (fun i Hy _ ⟨_, sy⟩ => sy.seq hS) ?_ ?_
  · rintro j v Hy hj ⟨y1, sy⟩
    rw [List.getElem?_map] at hj
    obtain ⟨t, ht, rfl⟩ := Option.map_eq_some_iff.mp hj
    obtain ⟨hjl, ejl⟩ := List.getElem?_eq_some_iff.mp ht
    have tt := (hT t (List.mem_of_getElem? ht)).1
    refine ⟨rfl, ?_⟩
    refine ⟨_, rfl, t.a, _, _, _, rfl, rfl, SqT.of (sy _ _ tt), t5_0, _, _, rfl, rfl, _, rfl, u.a, _, 0, _, rfl, rfl, SqT.of (sy _ _ tu.1), t5_0, _, _, rfl, rfl, _, rfl, ?_⟩
    have key : ((s0 :: r ++ [u]).take (j + 1)).filter (fun t => decide (t.m ≤ u.m - 100)) = ((s0 :: r ++ [u]).take j).filter (fun t => decide (t.m ≤ u.m - 100)) ++ (if t.m + 100 ≤ u.m then [t] else []) := by
      rw [List.take_succ_eq_append_getElem hjl, ejl, List.filter_append]
      by_cases q : t.m + 100 ≤ u.m
      · rw [if_pos q, List.filter_cons_of_pos (by simp; omega), List.filter_nil]
      · rw [if_neg q, List.filter_cons_of_neg (by simp; omega), List.filter_nil]
    have few : ((((s0 :: r ++ [u]).take j).filter (fun t => decide (t.m ≤ u.m - 100))).map fun t => V.ref t.a).length ≤ 30 := by
      rw [List.length_map]
      refine Nat.le_trans (List.length_filter_le _ _) ?_
      rw [List.length_take]
      omega
    refine ite2 (fun p => ?_) (fun p => ?_)
    · rw [key, if_pos (of_decide_eq_true p)]
      refine ⟨_, rfl, _, y1, sl1000 (by omega), ?_, fun p o q => by rw [upd_ne (ne_of_none q e0)]; exact sy _ _ q⟩
      rw [upd_same, List.map_append]
      rfl
    · rw [key, if_neg (fun q => p (decide_eq_true q)), List.append_nil]
      exact ⟨y1, sy⟩
  rintro H1 ⟨y1, sm⟩
  rw [List.take_of_length_le (by rw [List.length_map]; exact Nat.le_refl _)] at y1
  have pe := pick_filter u.m (s0 :: r ++ [u]) s0
  have k' : ∀ v H', Same H H' → Told H' v (u.x - (pick u.m s0 (s0 :: r ++ [u])).x, u.y - (pick u.m s0 (s0 :: r ++ [u])).y) → Q v H' := k
  have sub : ∀ z ∈ (s0 :: r ++ [u]).filter (fun t => decide (t.m ≤ u.m - 100)), z ∈ s0 :: r ++ [u] := fun z hz => (List.mem_filter.mp hz).1
  generalize (s0 :: r ++ [u]).filter (fun t => decide (t.m ≤ u.m - 100)) = fs at *
  refine ⟨_, rfl, (by show 0 ≤ sizeLine; decide), ?_⟩
  (intro b b0; generalize hh_ : upd _ b _ = H2; have hb := upd_is hh_; have s2 := same_is hh_ b0; clear hh_)
  replace sm := sm.trans s2
  have y2 := s2 _ _ y1
  clear s2 y1 b0
  rcases List.eq_nil_or_concat fs with rfl | ⟨G, z, rfl⟩
  · have tz := ts
    rw [show pick u.m s0 (s0 :: r ++ [u]) = s0 from pe] at k'
    refine ⟨e, b, _, rfl, rfl, SqL.of y2, SqL.of hb, _, rfl, iteF ?_⟩
    refine ⟨_, rfl, l, _, 0, _, rfl, rfl, sm.seq hS, tc_first, ?_⟩
    obtain ⟨_, _, u1, u2, u3, u4⟩ := tu.2
    obtain ⟨_, _, p1, p2, p3, p4⟩ := tz.2
    have uz := SqT.of (K := K) (sm _ _ tu.1)
    have zz := SqT.of (K := K) (sm _ _ tz.1)
    refine ⟨_, rfl, u.a, _, 3, _, rfl, rfl, uz, t5_3, _, rfl, s0.a, _, 3, _, rfl, rfl, zz, t5_3, _, _, rfl, rfl, ?_⟩
    refine ⟨_, rfl, u.a, _, 4, _, rfl, rfl, uz, t5_4, _, rfl, s0.a, _, 4, _, rfl, rfl, zz, t5_4, _, _, rfl, rfl, _, _, rfl, ?_⟩
    refine ⟨_, rfl, _, _, rfl, rfl, pow2 ⟨by omega, by omega⟩, _, rfl, _, _, rfl, rfl, pow2 ⟨by omega, by omega⟩, _, _, rfl, rfl, _, _, rfl, rfl, _, rfl, ?_⟩
    have far : decide ((2500 : Int) < (u.x - s0.x) ^ (2 : Int).toNat + (u.y - s0.y) ^ (2 : Int).toNat) = isFar (u.x - s0.x, u.y - s0.y) := by
      unfold isFar
      rw [show (2 : Int).toNat = 2 from rfl, pow_two, pow_two]
    dsimp only
    rw [far]
    refine ite2 (fun p => ?_) (fun p => ?_)
    · refine ⟨_, rfl, _, rfl, (by show 2 ≤ sizeLine; decide), ?_⟩
      (intro a a0; generalize hh_ : upd _ a _ = H3; have ha := upd_is hh_; have sn := same_is hh_ a0; clear hh_)
      refine k' _ H3 (sm.trans sn) ?_
      unfold Told
      rw [if_pos p]
      exact ⟨a, rfl, ha⟩
    · refine k' _ _ sm ?_
      unfold Told
      rw [if_neg p]
  · have tz := hT z (sub z (by simp))
    rw [List.concat_eq_append] at y2 pe
    rw [show pick u.m s0 (s0 :: r ++ [u]) = z by rw [pe, List.getLastD_concat]] at k'
    refine ⟨e, b, _, rfl, rfl, SqL.of y2, SqL.of hb, _, rfl, ?_⟩
    refine ite2 (fun _ => ?_) (fun q => absurd q (by simp))
    refine ⟨_, rfl, _, Or.inl ⟨_, SqL.of y2, rfl⟩, ?_⟩
    refine ite2 (fun _ => ?_) (fun q => absurd q (by simp))
    refine ⟨_, rfl, e, _, _, .ref z.a, rfl, rfl, SqL.of y2, (by rw [List.map_append]; exact atI_last _ _), ?_⟩
    obtain ⟨_, _, u1, u2, u3, u4⟩ := tu.2
    obtain ⟨_, _, p1, p2, p3, p4⟩ := tz.2
    have uz := SqT.of (K := K) (sm _ _ tu.1)
    have zz := SqT.of (K := K) (sm _ _ tz.1)
    refine ⟨_, rfl, u.a, _, 3, _, rfl, rfl, uz, t5_3, _, rfl, z.a, _, 3, _, rfl, rfl, zz, t5_3, _, _, rfl, rfl, ?_⟩
    refine ⟨_, rfl, u.a, _, 4, _, rfl, rfl, uz, t5_4, _, rfl, z.a, _, 4, _, rfl, rfl, zz, t5_4, _, _, rfl, rfl, _, _, rfl, ?_⟩
    refine ⟨_, rfl, _, _, rfl, rfl, pow2 ⟨by omega, by omega⟩, _, rfl, _, _, rfl, rfl, pow2 ⟨by omega, by omega⟩, _, _, rfl, rfl, _, _, rfl, rfl, _, rfl, ?_⟩
    have far : decide ((2500 : Int) < (u.x - z.x) ^ (2 : Int).toNat + (u.y - z.y) ^ (2 : Int).toNat) = isFar (u.x - z.x, u.y - z.y) := by
      unfold isFar
      rw [show (2 : Int).toNat = 2 from rfl, pow_two, pow_two]
    dsimp only
    rw [far]
    refine ite2 (fun p => ?_) (fun p => ?_)
    · refine ⟨_, rfl, _, rfl, (by show 2 ≤ sizeLine; decide), ?_⟩
      (intro a a0; generalize hh_ : upd _ a _ = H3; have ha := upd_is hh_; have sn := same_is hh_ a0; clear hh_)
      refine k' _ H3 (sm.trans sn) ?_
      unfold Told
      rw [if_pos p]
      exact ⟨a, rfl, ha⟩
    · refine k' _ _ sm ?_
      unfold Told
      rw [if_neg p]
end
end SG
namespace SG
open PySem PySem.Spec PyProof.Rows L2
section
variable {K : PySem.W.Frag} {H H' H1 H2 : Hp} {t c p : Addr} {n m : Nat}
theorem ne_fresh {o : HO} (h : H c = some o) (hp : H p = none) : p ≠ c := (ne_of_none h hp).symm
theorem Fr.fresh {S : List Addr} (f : Fr S H H1) (hp : H1 p = none) (hn : p ∉ S) : H p = none := by
  cases e : H p with
  | none => rfl
  | some o => rw [f _ _ e hn] at hp; cases hp
theorem Fr.upd_new {o : HO} {S : List Addr} (a : Fr S H H1) (b : Fr S H1 H2) (hp : H p = none) : Fr S H (upd H2 p o) := fun q u e n => by
  rw [L2.upd_ne (ne_of_none e hp)]
  exact b _ _ (a _ _ e n) n
end
/-! ### what the law draws -/
def Low (m : Int) (i : Int) : Prop := -m ≤ i ∧ i ≤ m
def spNear : Sp := fun vs H Q _ => ∃ (t c : Addr) (z : Int) (n : Nat), vs = [.ref t, .int z] ∧ TapeAt H t c n ∧ n ≤ 100000000 ∧ Low 10000 z ∧
  ∀ (r : Int) (H' : Hp), Low 10001 r → TapeAt H' t c (n + 2) → Fr [t] H H' → Q (.int r) H'
def spTwo : Sp := fun vs H Q _ => ∃ (t c : Addr) (n : Nat), vs = [.ref t] ∧ TapeAt H t c n ∧ n ≤ 100000000 ∧
  ∀ (p : Addr) (a b : Int) (H' : Hp), H p = none → H' p = some (.tup [.int a, .int b]) → Low 20000 a → Low 20000 b → TapeAt H' t c (n + 3) → Fr [t] H H' → Q (.ref p) H'
/-- a row of touches, drawn -/
def spStroke (K : PySem.W.Frag) : Sp := fun vs H Q _ => ∃ (t c : Addr) (n : Nat), vs = [.ref t] ∧ TapeAt H t c n ∧ n ≤ 100000000 ∧
  ∀ (l : Addr) (s u : Tc) (r : List Tc) (H' : Hp), H l = none → H' l = some (.lst ((s :: r ++ [u]).map fun t => V.ref t.a)) → (∀ z ∈ s :: r ++ [u], TcAt H' z ∧ TcB z) → (s :: r ++ [u]).length ≤ 30 → u.w = "up" → TapeAt H' t c (n + 200) → Fr [t] H H' → Q (.ref l) H'
section
variable {P : Program} {w : World} {K : PySem.W.Frag} {mg : Str → Option Value} {base : Heap}
theorem ok_near (D : Df K mg "_law_near" s_law_near ["_law_tape_here", "_law_number"]) (T : Txt K mg) (c_law_draw : Cl P w K mg base 1 "_law_draw" spDraw) : Cl P w K mg base 2 "_law_near" spNear := by
  refine D.ok sc_law_near (fun vs H Q E h => ?_) (fun f cdv A outer s H vs Q E hr h => ?_)
  · obtain ⟨_, _, _, _, rfl, _⟩ := h
    rfl
  obtain ⟨t, c, z, n, rfl, hT, hn, hz, k⟩ := h
  have hu := hu_of hr
  refine ⟨_, -- return (_law_number + _law_draw(_law_tape_here, 3) - 1) * [1, -1][_law_draw(_law_tape_here, 2)]
    (pss_one (ps_ret (pe_op op_mul (pe_op op_sub (pe_op op_add (pv 1) (pe_cl c_law_draw (hr.mono (by first | decide | omega)) rfl (pa_cons (pv 0) (pa_cons pe_int pa_nil)))) pe_int) (pe_ix ix_list (pe_lst (pa_cons pe_int (pa_cons (pe_un un_neg pe_int) pa_nil))) (pe_cl c_law_draw (hr.mono (by first | decide | omega)) rfl (pa_cons (pv 0) (pa_cons pe_int pa_nil))) (fun _ _ => rfl))))), ?_⟩
  refine ⟨_, rfl, _, rfl, t, c, 3, n, rfl, hT, ⟨by decide, by decide⟩, by omega, fun r H1 hr T1 f1 => ?_⟩
  refine ⟨_, _, rfl, rfl, _, _, rfl, rfl, _, rfl, (by show 2 ≤ sizeLine; decide), ?_⟩
  intro p hp
  refine ⟨_, rfl, ?_⟩
  refine pick_draw (xs := [V.int 1, .int (-1)]) T1 (by omega) rfl ⟨by decide, by decide⟩ (fun v H2 hv T2 f2 => ?_) p hp
  obtain ⟨q, rfl, hq⟩ : ∃ q, v = .int q ∧ (q = 1 ∨ q = -1) := by
    simp only [List.mem_cons, List.not_mem_nil, or_false] at hv
    rcases hv with rfl | rfl
    · exact ⟨1, rfl, .inl rfl⟩
    · exact ⟨-1, rfl, .inr rfl⟩
  obtain ⟨z1, z2⟩ := hz
  refine ⟨_, _, rfl, rfl, .inl ⟨by omega, by omega⟩, ?_⟩
  refine k _ H2 ?_ (T2.mono (by omega)) (f1.trans f2)
  rcases hq with rfl | rfl <;> exact ⟨by omega, by omega⟩
theorem ok_two (D : Df K mg "_law_two" s_law_two ["_law_tape_here"]) (T : Txt K mg) (c_law_draw : Cl P w K mg base 1 "_law_draw" spDraw) : Cl P w K mg base 2 "_law_two" spTwo := by
  refine D.ok sc_law_two (fun vs H Q E h => ?_) (fun f cdv A outer s H vs Q E hr h => ?_)
  · obtain ⟨_, _, _, rfl, _⟩ := h
    rfl
  obtain ⟨t, c, n, rfl, hT, hn, k⟩ := h
  have hu := hu_of hr
  refine ⟨_, -- _law_most = [3, 30, 400, 20000][_law_draw(_law_tape_here, 4)]
    (pss_cons (ps_set (i := 1) sc_law_two.nd rfl (Or.inl rfl) (pe_ix ix_list (pe_lst (pa_cons pe_int (pa_cons pe_int (pa_cons pe_int (pa_cons pe_int pa_nil))))) (pe_cl c_law_draw (hr.mono (by first | decide | omega)) rfl (pa_cons (pv 0) (pa_cons pe_int pa_nil))) (fun _ _ => rfl)))
    (pss_one (ps_ret (pe_tup (pa_cons (pe_op op_sub (pe_cl c_law_draw (hr.mono (by first | decide | omega)) rfl (pa_cons (pv 0) (pa_cons (pe_op op_add (pe_op op_mul pe_int (pv 1)) pe_int) pa_nil))) (pv 1)) (pa_cons (pe_op op_sub (pe_cl c_law_draw (hr.mono (by first | decide | omega)) rfl (pa_cons (pv 0) (pa_cons (pe_op op_add (pe_op op_mul pe_int (pv 1)) pe_int) pa_nil))) (pv 1)) pa_nil)))))), ?_⟩
  refine ⟨(by show 4 ≤ sizeLine; decide), ?_⟩
  intro p hp
  refine ⟨_, rfl, ?_⟩
  refine pick_draw (xs := [V.int 3, .int 30, .int 400, .int 20000]) hT (by omega) rfl ⟨by decide, by decide⟩ (fun v H2 hv T2 f2 => ?_) p hp
  obtain ⟨q, rfl, q1, q2⟩ : ∃ q : Int, v = .int q ∧ 1 ≤ q ∧ q ≤ 20000 := by
    simp only [List.mem_cons, List.not_mem_nil, or_false] at hv
    rcases hv with rfl | rfl | rfl | rfl
    · exact ⟨3, rfl, by decide, by decide⟩
    · exact ⟨30, rfl, by decide, by decide⟩
    · exact ⟨400, rfl, by decide, by decide⟩
    · exact ⟨20000, rfl, by decide, by decide⟩
  refine ⟨_, rfl, _, rfl, _, _, rfl, rfl, .inl (by decide), _, _, rfl, rfl, t, c, _, _, rfl, T2, ⟨by omega, by omega⟩, by omega, fun r3 H3 hr3 T3 f3 => ?_⟩
  refine ⟨_, rfl, _, _, rfl, rfl, ?_⟩
  refine ⟨_, rfl, _, rfl, _, _, rfl, rfl, .inl (by decide), _, _, rfl, rfl, t, c, _, _, rfl, T3, ⟨by omega, by omega⟩, by omega, fun r4 H4 hr4 T4 f4 => ?_⟩
  refine ⟨_, rfl, _, _, rfl, rfl, (by show 2 ≤ sizeLine; decide), ?_⟩
  (intro a a0; generalize hh_ : upd _ a _ = H5; have ha := upd_is hh_; have sm := same_is hh_ a0; clear hh_)
  have f5 := (f2.trans f3).trans (f4.trans (Fr.same sm _))
  exact k a _ _ H5 (Fr.fresh ((f2.trans f3).trans f4) a0 (not_in_one (T4.ne_new a0))) ha ⟨by omega, by omega⟩ ⟨by omega, by omega⟩ ((T4.same sm).mono (by omega)) f5
theorem ok_stroke (D : Df K mg "_law_stroke" s_law_stroke ["_law_tape_here"]) (T : Txt K mg) (c_law_draw : Cl P w K mg base 1 "_law_draw" spDraw) : Cl P w K mg base 2 "_law_stroke" (spStroke K) := by
  refine D.ok sc_law_stroke (fun vs H Q E h => ?_) (fun f cdv A outer s H vs Q E hr h => ?_)
  · obtain ⟨_, _, _, rfl, _⟩ := h
    rfl
  obtain ⟨t, c, n, rfl, hT, hn, k⟩ := h
  have hu := hu_of hr
  refine ⟨_, -- _law_moment = _law_draw(_law_tape_here, 1000)
    (pss_cons (ps_set (i := 1) sc_law_stroke.nd rfl (Or.inl rfl) (pe_cl c_law_draw (hr.mono (by first | decide | omega)) rfl (pa_cons (pv 0) (pa_cons pe_int pa_nil))))
    (pss_cons (ps_set (i := 2) sc_law_stroke.nd rfl (Or.inl rfl) (pe_lst pa_nil))
    (pss_cons (ps_set (i := 3) sc_law_stroke.nd rfl (Or.inl rfl) (pe_op op_add pe_int (pe_cl c_law_draw (hr.mono (by first | decide | omega)) rfl (pa_cons (pv 0) (pa_cons pe_int pa_nil)))))
    (pss_cons (ps_for PassesOwn.never rfl (pi_range1 rfl T.m_range (pa_cons (pv 3) pa_nil)) (pg_name (i := 4) sc_law_stroke.nd rfl (Or.inl rfl))
      (C8.pss_cut (ps_set (i := 5) sc_law_stroke.nd rfl (Or.inl rfl) (pe_ifExp (pt_cmpR op_eq (pv 4) pe_int (nomark _)) pe_str (pe_ifExp (pt_cmpR op_eq (pv 4) (pe_op op_sub (pv 3) pe_int) (nomark _)) pe_str pe_str)))
      (pss_cons (ps_expr (pe_bm PySem.F.plainAttrs_list PySem.F.slot_list_append PySem.F.type_list_append mt_append (pv 2) (pa_cons (pe_tup (pa_cons (pv 1) (pa_cons pe_int (pa_cons (pv 5) (pa_cons (pe_cl c_law_draw (hr.mono (by first | decide | omega)) rfl (pa_cons (pv 0) (pa_cons pe_int pa_nil))) (pa_cons (pe_ix ix_list (pe_lst (pa_cons pe_int (pa_cons pe_int (pa_cons pe_int (pa_cons pe_int (pa_cons (pe_cl c_law_draw (hr.mono (by first | decide | omega)) rfl (pa_cons (pv 0) (pa_cons pe_int pa_nil))) pa_nil)))))) (pe_cl c_law_draw (hr.mono (by first | decide | omega)) rfl (pa_cons (pv 0) (pa_cons pe_int pa_nil))) (fun _ _ => rfl)) pa_nil)))))) pa_nil)))
      (pss_one (ps_set (i := 1) sc_law_stroke.nd rfl (Or.inl rfl) (pe_op op_add (pv 1) (pe_ix ix_list (pe_lst (pa_cons pe_int (pa_cons pe_int (pa_cons pe_int (pa_cons pe_int (pa_cons pe_int (pa_cons pe_int (pa_cons (pe_cl c_law_draw (hr.mono (by first | decide | omega)) rfl (pa_cons (pv 0) (pa_cons pe_int pa_nil))) pa_nil)))))))) (pe_cl c_law_draw (hr.mono (by first | decide | omega)) rfl (pa_cons (pv 0) (pa_cons pe_int pa_nil))) (fun _ _ => rfl))))))))
    (pss_one (ps_ret (pv 2))))))), ?_⟩
  refine ⟨_, rfl, t, c, _, n, rfl, hT, ⟨by decide, by decide⟩, by omega, fun r0 H0 hr0 T0 f0 => ?_⟩
  refine ⟨(by show 0 ≤ sizeLine; decide), ?_⟩
  (intro l l0; generalize hh_ : upd _ l _ = H1; have hl := upd_is hh_; have s1 := same_is hh_ l0; clear hh_)
  have T1 := T0.same s1
  have f1 := f0.trans (Fr.same s1 _)
  have lt := T0.ne_new l0
  have lc := T0.ne_newc l0
  have lH := Fr.fresh f0 l0 (not_in_one lt)
  refine ⟨_, rfl, t, c, 19, _, rfl, T1, ⟨by decide, by decide⟩, by omega, fun r2 H2 hr2 T2 f2 => ?_⟩
  have hl2 := f2 _ _ hl (not_in_one lt)
  have f12 := f1.trans f2
  refine ⟨_, _, rfl, rfl, ?_⟩
  obtain ⟨m, hm⟩ : ∃ m : Nat, (2 : Int) + r2 = (m : Int) := ⟨(2 + r2).toNat, by omega⟩
  have m2 : 2 ≤ m := by omega
  have m20 : m ≤ 20 := by omega
  dsimp only
  rw [hm]
  refine ⟨_, rfl, m, rfl, (by omega), (by omega), for_range (n := m) (fun i σ Hy => ∃ (mo : Int) (k4 k5 : Option V) (ts : List Tc), σ = [some (.ref t), some (.int mo), some (.ref l), some (.int m), k4, k5] ∧ Hy l = some (.lst (ts.map fun t => V.ref t.a)) ∧ ts.length = i ∧ (∀ z ∈ ts, TcAt Hy z ∧ TcB z) ∧ (i = m → ∃ (ys : List Tc) (u : Tc), ts = ys ++ [u] ∧ u.w = ("up" : Str)) ∧ TapeAt Hy t c (n + 2 + 5 * i) ∧ Fr [t] H Hy) ?_ ?_ ?_⟩
  · exact ⟨r0, none, none, [], rfl, hl2, rfl, by simp, fun e => absurd e (by omega), T2, f12⟩
  · rintro i σ Hy hi ⟨mo, k4, k5, ts, rfl, y1, y2, y3, y4, Ty, fy⟩
    refine ⟨fun σ' H' => H' = Hy ∧ ∃ wd : Str, σ' = [some (.ref t), some (.int mo), some (.ref l), some (.int m), some (.int (0 + (i : Int))), some (.str wd)] ∧ (i + 1 = m → wd = "up"), ?_, ?_⟩
    · refine ⟨_, rfl, rfl, _, rfl, ?_⟩
      refine ite2 (fun p => ?_) (fun p => ?_)
      · refine ⟨rfl, "down", rfl, fun e => ?_⟩
        have p' : V.int (0 + (i : Int)) = V.int 0 := of_decide_eq_true p
        injection p' with p'
        omega
      refine ⟨_, rfl, _, rfl, _, _, rfl, rfl, rfl, _, rfl, ?_⟩
      refine ite2 (fun p => ?_) (fun p => ?_)
      · exact ⟨rfl, "up", rfl, fun _ => rfl⟩
      · refine ⟨rfl, "move", rfl, fun e => absurd (decide_eq_true ?_) p⟩
        show V.int (0 + (i : Int)) = V.int ((m : Int) - 1)
        congr 1
        omega
    · rintro σ' H' ⟨rfl, wd, rfl, hwd⟩
      refine ⟨_, rfl, .inl ⟨rfl, _, .inl (.inl y1)⟩, _, rfl, _, rfl, _, rfl, t, c, 80, _, rfl, Ty, ⟨by decide, by decide⟩, by omega, fun r3 H3 hr3 T3 f3 => ?_⟩
      refine ⟨_, rfl, t, c, 90, _, rfl, T3, ⟨by decide, by decide⟩, by omega, fun r4 H4 hr4 T4 f4 => ?_⟩
      refine ⟨(by show 5 ≤ sizeLine; decide), ?_⟩
      intro p hp
      refine ⟨_, rfl, ?_⟩
      refine pick_draw (xs := [V.int 30, .int 40, .int 50, .int 51, .int r4]) T4 (by omega) rfl ⟨(by show 1 ≤ 5; decide), (by show 5 ≤ 1000; decide)⟩ (fun v H5 hv T5 f5 => ?_) p hp
      obtain ⟨q, rfl, q1, q2⟩ : ∃ q : Int, v = .int q ∧ 0 ≤ q ∧ q ≤ 100 := by
        simp only [List.mem_cons, List.not_mem_nil, or_false] at hv
        rcases hv with rfl | rfl | rfl | rfl | rfl
        · exact ⟨_, rfl, by decide, by decide⟩
        · exact ⟨_, rfl, by decide, by decide⟩
        · exact ⟨_, rfl, by decide, by decide⟩
        · exact ⟨_, rfl, by decide, by decide⟩
        · exact ⟨_, rfl, by omega, by omega⟩
      have f35 := (f3.trans f4).trans f5
      refine ⟨(by show 5 ≤ sizeLine; decide), ?_⟩
      (intro a a0; generalize hh_ : upd _ a _ = H6; have ha := upd_is hh_; have s6 := same_is hh_ a0; clear hh_)
      have f36 := f35.trans (Fr.same s6 _)
      have hl6 := f36 _ _ y1 (not_in_one lt)
      have T6 := T5.same s6
      refine ⟨l, _, _, rfl, rfl, hl6, sl1000 (by rw [List.length_map]; omega), ?_⟩
      have T7 : TapeAt (upd H6 l (.lst (ts.map (fun t => V.ref t.a) ++ [V.ref a]))) t c (n + 2 + 5 * i + 3) := (T6.put lt lc).mono (by omega)
      have f7 : Fr [t] H (upd H6 l (.lst (ts.map (fun t => V.ref t.a) ++ [V.ref a]))) := (fy.upd_new f36 lH)
      have tup7 : ∀ (b : Addr) (xs : List V), H6 b = some (.tup xs) → (upd H6 l (.lst (ts.map (fun t => V.ref t.a) ++ [V.ref a]))) b = some (.tup xs) := fun b xs e => by
        rw [L2.upd_ne (ne_of e hl6 (by intro z; cases z))]
        exact e
      have hl7 : (upd H6 l (.lst (ts.map (fun t => V.ref t.a) ++ [V.ref a]))) l = some (.lst ((ts ++ [(⟨a, mo, wd, r3, q⟩ : Tc)]).map fun t => V.ref t.a)) := by
        rw [upd_same, List.map_append]
        rfl
      have lt' : ∀ z ∈ ts ++ [(⟨a, mo, wd, r3, q⟩ : Tc)], TcAt (upd H6 l (.lst (ts.map (fun t => V.ref t.a) ++ [V.ref a]))) z ∧ TcB z := fun z hz => by
        rcases List.mem_append.mp hz with hz | hz
        · exact ⟨tup7 _ _ (f36 _ _ (y3 z hz).1 (not_in_one (Ty.ne_tup (y3 z hz).1))), (y3 z hz).2⟩
        · rw [List.mem_singleton.mp hz]
          refine ⟨tup7 _ _ ha, ?_⟩
          exact ⟨⟨by show _ ≤ r3; omega, by show r3 ≤ _; omega⟩, ⟨by show _ ≤ q; omega, by show q ≤ _; omega⟩, by show _ ≤ r3; omega, by show r3 ≤ _; omega, by show _ ≤ q; omega, by show q ≤ _; omega⟩
      generalize (upd H6 l (.lst (ts.map (fun t => V.ref t.a) ++ [V.ref a]))) = H7 at *
      refine ⟨_, rfl, _, rfl, t, c, 40, _, rfl, T7, ⟨by decide, by decide⟩, by omega, fun r8 H8 hr8 T8 f8 => ?_⟩
      refine ⟨(by show 7 ≤ sizeLine; decide), ?_⟩
      intro p9 hp9
      refine ⟨_, rfl, ?_⟩
      refine pick_draw (xs := [V.int 0, .int 10, .int 50, .int 99, .int 100, .int 101, .int r8]) T8 (by omega) rfl ⟨(by show 1 ≤ 7; decide), (by show 7 ≤ 1000; decide)⟩ (fun v9 H9 hv9 T9 f9 => ?_) p9 hp9
      obtain ⟨q9, rfl⟩ : ∃ q : Int, v9 = .int q := by
        simp only [List.mem_cons, List.not_mem_nil, or_false] at hv9
        rcases hv9 with rfl | rfl | rfl | rfl | rfl | rfl | rfl <;> exact ⟨_, rfl⟩
      have f79 := f8.trans f9
      refine ⟨_, _, rfl, rfl, ?_⟩
      refine ⟨mo + q9, _, _, ts ++ [⟨a, mo, wd, r3, q⟩], rfl, f79 _ _ hl7 (not_in_one lt), by simp [y2], fun z hz => ⟨f79 _ _ (lt' z hz).1 (not_in_one (T7.ne_tup (lt' z hz).1)), (lt' z hz).2⟩, fun e => ⟨ts, _, rfl, hwd e⟩, T9.mono (by omega), f7.trans f79⟩
  · rintro σ Hy ⟨mo, k4, k5, ts, rfl, y1, y2, y3, y4, Ty, fy⟩
    obtain ⟨ys, u, rfl, hw⟩ := y4 rfl
    cases ys with
    | nil => exact absurd y2 (by simp; omega)
    | cons s0 r =>
      refine ⟨_, rfl, ?_⟩
      exact k l s0 u r Hy lH y1 y3 (by omega) hw (Ty.mono (by omega)) fy
end
end SG
namespace SG
open PySem PySem.Spec PyProof.Rows L2
theorem tape_is (c : Addr) (s l : Int) : mergeK [] [((Sum.inr ("cells" : Str) : Key), V.ref c), (Sum.inr ("spot" : Str), .int s), (Sum.inr ("left" : Str), .int l)] = tapeD c s l := by
  simp [mergeK, putK, tapeD, n12, n13, n23]
def spTape (K : PySem.W.Frag) : Sp := fun vs H Q _ => ∃ (a : Addr) (ns : List Int), vs = [.ref a] ∧ SqL K H a (ns.map V.int) ∧ ns.length ≤ 63 ∧ ∀ (t c : Addr) (H' : Hp), TapeAt H' t c 0 → Same H H' → Q (.ref t) H'
theorem at0_2 {a b : V} : atI [a, b] 0 = some a := atI_nat (j := 0) rfl
theorem at1_2 {a b : V} : atI [a, b] 1 = some b := atI_nat (j := 1) rfl
def spLaw (K : PySem.W.Frag) : Sp := fun vs H Q _ => ∃ (a : Addr) (ns : List Int), vs = [.ref a] ∧ SqL K H a (ns.map V.int) ∧ ns.length ≤ 63 ∧ ∀ H', Q (.bl true) H'
/-- a pair of numbers -/
abbrev Pr := Addr × Int × Int
def PrAt (H : Hp) (p : Pr) : Prop := H p.1 = some (.tup [.int p.2.1, .int p.2.2])
def PrB (p : Pr) : Prop := Low 50000 p.2.1 ∧ Low 50000 p.2.2
def PrsAt (H : Hp) (l : Addr) (ps : List Pr) : Prop := H l = some (.lst (ps.map fun p => V.ref p.1)) ∧ ∀ p ∈ ps, PrAt H p ∧ PrB p
theorem at_p {ps : List Pr} {j : Nat} {p : Pr} (h : ps[j]? = some p) : atI (ps.map fun p => V.ref p.1) (j : Int) = some (.ref p.1) := by
  refine atI_nat ?_
  rw [List.getElem?_map, h]
  rfl
def tcD (t : Tc) : PyData := .tuple [.int t.m, .int 0, .str t.w, .int t.x, .int t.y]
theorem tcs_dp {K : PySem.W.Frag} {H : Hp} : ∀ {ts : List Tc}, (∀ t ∈ ts, TcAt H t) → DpAll K H (ts.map fun t => V.ref t.a) (ts.map tcD)
  | [], _ => .nil
  | t :: r, h => .cons (.tup (SqT.of (h t List.mem_cons_self)) (.cons (.int _) (.cons (.int _) (.cons (.str _) (.cons (.int _) (.cons (.int _) .nil)))))) (tcs_dp fun z hz => h z (List.mem_cons_of_mem _ hz))
theorem tcs_plain : ∀ ts : List Tc, PyData.plainAll (ts.map tcD) = true
  | [] => rfl
  | t :: r => by
    show (PyData.plain (tcD t) && PyData.plainAll (r.map tcD)) = true
    rw [tcs_plain r]
    rfl
theorem tcs_depth : ∀ ts : List Tc, PyData.depthAll (ts.map tcD) ≤ 2
  | [] => Nat.zero_le _
  | t :: r => by
    show max (PyData.depth (tcD t)) (PyData.depthAll (r.map tcD)) ≤ 2
    have e := tcs_depth r
    have e2 : PyData.depth (tcD t) = 1 := rfl
    omega
theorem Low.bnd {m i : Int} (h : Low m i) (q : m ≤ 1000000) : Bnd i := ⟨by have := h.1; omega, by have := h.2; omega⟩
theorem Low.mono {m n i : Int} (h : Low m i) (q : m ≤ n) : Low n i := ⟨by have := h.1; omega, by have := h.2; omega⟩
section
variable {P : Program} {w : World} {K : PySem.W.Frag} {mg : Str → Option Value} {base : Heap}
theorem ok_tape (D : Df K mg "_law_tape" s_law_tape ["_law_script"]) (T : Txt K mg) : Cl P w K mg base 1 "_law_tape" (spTape K) := by
  refine D.ok sc_law_tape (fun vs H Q E h => ?_) (fun f cdv A outer s H vs Q E hr h => ?_)
  · obtain ⟨a, ns, rfl, _⟩ := h
    rfl
  obtain ⟨a, ns, rfl, hS, h63, k⟩ := h
  refine ⟨_, -- return {'cells': _law_script[:63], 'spot': 0, 'left': 0}
    (pss_one (ps_ret (pe_disp (pps_cons pe_str (pe_slice sl_list (pv 0) po_none (po_some pe_int)) (pps_cons pe_str pe_int (pps_cons pe_str pe_int pps_nil))) rfl rfl (by decide) (by decide)))), ?_⟩
  (intro t t0; generalize hh_ : upd _ t _ = H1; have ht := upd_is hh_; have s1 := same_is hh_ t0; clear hh_)
  refine ⟨_, rfl, _, rfl, a, _, rfl, s1.seq hS, ?_⟩
  (intro c c0; generalize hh_ : upd _ c _ = H2; have hc := upd_is hh_; have s2 := same_is hh_ c0; clear hh_)
  have ec : ∃ cs : List Int, cutV (ns.map V.int) none (some 63) = cs.map V.int ∧ cs.length ≤ 63 := by
    refine ⟨(ns.drop (HT.sIx ns.length 0 none)).take (HT.sIx ns.length ns.length (some 63) - HT.sIx ns.length 0 none), ?_, ?_⟩
    · unfold cutV
      rw [List.map_take, List.map_drop, List.length_map]
    · rw [List.length_take, List.length_drop]
      omega
  obtain ⟨cs, ec, lc⟩ := ec
  rw [ec] at hc
  refine ⟨s2 _ _ ht, [((Sum.inr ("cells" : Str) : Key), V.ref c), (Sum.inr ("spot" : Str), .int 0), (Sum.inr ("left" : Str), .int 0)], rfl, (by show 3 ≤ 15; decide), ?_⟩
  rw [tape_is]
  have tc : t ≠ c := ne_of (s2 _ _ ht) hc (by intro z; cases z)
  have tH := t0
  exact k t c _ ⟨cs, 0, 0, upd_same, by rw [upd_ne tc.symm]; exact hc, by decide, by decide, by decide, lc⟩ fun p o e => by
    rw [upd_ne (ne_of_none e tH)]
    exact s2 _ _ (s1 _ _ e)
theorem ok_law {f : Addr} {fd : FuncData} (F : Fun K "law" "law" slaw f fd) (T : Txt K mg) (c_law_tape : Cl P w K mg base 1 "_law_tape" (spTape K)) (c_law_draw : Cl P w K mg base 1 "_law_draw" spDraw) (c_law_near : Cl P w K mg base 2 "_law_near" spNear) (c_law_two : Cl P w K mg base 2 "_law_two" spTwo) (c_law_stroke : Cl P w K mg base 2 "_law_stroke" (spStroke K))
    (cis_beyond : Cl P w K mg base 1 "is_beyond" spBeyond) (cis_spread : Cl P w K mg base 2 "is_spread" (spSpread K)) (cis_turned : Cl P w K mg base 1 "is_turned" (spTurned K)) (cflung : Cl P w K mg base 2 "flung" (spFlung K)) (c_law_flung : Cl P w K mg base 1 "_law_flung" (spFlung K)) : FnOk P w K mg base CX0 3 f fd ["_law_script"] (spLaw K) := by
  refine F.ok sclaw (fun vs H Q E h => ?_) (fun cdv A outer s H vs Q E hr h => ?_)
  · obtain ⟨a, ns, rfl, _⟩ := h
    rfl
  obtain ⟨a, ns, rfl, hS, h63, k⟩ := h
  have hu := hu_of hr
  refine ⟨_, -- _law_tape_here = _law_tape(_law_script)
    (pss_cons (ps_set (i := 1) sclaw.nd rfl (Or.inl rfl) (pe_cl c_law_tape (hr.mono (by first | decide | omega)) rfl (pa_cons (pv 0) pa_nil)))
    (pss_cons (ps_for PassesOwn.never rfl (pi_range1 rfl T.m_range (pa_cons pe_int pa_nil)) (pg_name (i := 2) sclaw.nd rfl (Or.inl rfl))
      (pss_cons (ps_set (i := 3) sclaw.nd rfl (Or.inr rfl) (pe_ix ix_list (pe_lst (pa_cons pe_int (pa_cons pe_int (pa_cons pe_int (pa_cons (pe_cl c_law_draw (hr.mono (by first | decide | omega)) rfl (pa_cons (pv 1) (pa_cons pe_int pa_nil))) pa_nil))))) (pe_cl c_law_draw (hr.mono (by first | decide | omega)) rfl (pa_cons (pv 1) (pa_cons pe_int pa_nil))) (fun _ _ => rfl)))
      (pss_cons (ps_set (i := 4) sclaw.nd rfl (Or.inl rfl) (pe_lst (pa_cons (pe_tup (pa_cons (pe_cl c_law_near (hr.mono (by first | decide | omega)) rfl (pa_cons (pv 1) (pa_cons (pv 3) pa_nil))) (pa_cons (pe_op op_sub (pe_cl c_law_draw (hr.mono (by first | decide | omega)) rfl (pa_cons (pv 1) (pa_cons pe_int pa_nil))) pe_int) pa_nil))) (pa_cons (pe_tup (pa_cons (pe_op op_sub (pe_cl c_law_draw (hr.mono (by first | decide | omega)) rfl (pa_cons (pv 1) (pa_cons pe_int pa_nil))) pe_int) (pa_cons (pe_cl c_law_near (hr.mono (by first | decide | omega)) rfl (pa_cons (pv 1) (pa_cons (pv 3) pa_nil))) pa_nil))) pa_nil))))
      (C8.pss_cut (ps_set (i := 4) sclaw.nd rfl (Or.inl rfl) (pe_op op_cat (pv 4) (pe_lst (pa_cons (pe_tup (pa_cons (pe_cl c_law_near (hr.mono (by first | decide | omega)) rfl (pa_cons (pv 1) (pa_cons (pe_op op_mul pe_int (pe_op op_fdiv (pv 3) pe_int)) pa_nil))) (pa_cons (pe_cl c_law_near (hr.mono (by first | decide | omega)) rfl (pa_cons (pv 1) (pa_cons (pe_op op_mul pe_int (pe_op op_fdiv (pv 3) pe_int)) pa_nil))) pa_nil))) (pa_cons (pe_cl c_law_two (hr.mono (by first | decide | omega)) rfl (pa_cons (pv 1) pa_nil)) (pa_cons (pe_tup (pa_cons pe_int (pa_cons pe_int pa_nil))) pa_nil))))))
      (pss_cons (ps_for PassesOwn.never rfl (pi_list (pv 4)) (pg_tup rfl (pgs_cons (pg_name (i := 5) sclaw.nd rfl (Or.inr rfl)) (pgs_cons (pg_name (i := 6) sclaw.nd rfl (Or.inr rfl)) pgs_nil)))
        (pss_cons (ps_set (i := 7) sclaw.nd rfl (Or.inl rfl) (pe_lst (pa_cons (pe_cmpR op_gt (pe_op op_add (pe_op op_mul (pv 5) (pv 5)) (pe_op op_mul (pv 6) (pv 6))) (pe_op op_mul (pv 3) (pv 3)) (nomark _)) (pa_cons (pe_cmpR op_gt (pe_callB (call_max2 rfl) (by rfl) T.m_max (by decide +kernel) (pa_cons (pv 5) (pa_cons (pe_op op_sub pe_int (pv 5)) pa_nil))) (pv 3) (nomark _)) (pa_cons (pe_cmpR op_gt (pe_callB (call_max2 rfl) (by rfl) T.m_max (by decide +kernel) (pa_cons (pv 6) (pa_cons (pe_op op_sub pe_int (pv 6)) pa_nil))) (pv 3) (nomark _)) pa_nil)))))
        (pss_one (ps_if (pt_cmpR (op_neP hr.units) (pe_lc (own := [("_law_way", 19)]) rfl sclaw.nd (pi_list (pe_lst (pa_cons pe_str (pa_cons pe_str (pa_cons pe_str pa_nil))))) (blkOk_by (N := Nlaw) (sc := defScope slaw) (by decide +kernel)) (fun _ _ _ _ _ => (pg_name (i := 19) sclaw.nd rfl (Or.inl rfl))) (fun _ _ _ _ _ => pts_nil) (fun _ _ _ _ _ => (pe_cl cis_beyond (hr.mono (by first | decide | omega)) rfl (pa_cons (pv 19) (pa_cons (pv 5) (pa_cons (pv 6) (pa_cons (pv 3) pa_nil))))))) (pv 7) (nomark _))
          (pss_one (ps_ret pe_bl))
          pss_nil))))
      (pss_cons (ps_set (i := 8) sclaw.nd rfl (Or.inl rfl) (pe_cl c_law_two (hr.mono (by first | decide | omega)) rfl (pa_cons (pv 1) pa_nil)))
      (pss_cons (ps_asg (pv 8) (pg_tup rfl (pgs_cons (pg_name (i := 9) sclaw.nd rfl (Or.inl rfl)) (pgs_cons (pg_name (i := 10) sclaw.nd rfl (Or.inl rfl)) pgs_nil))))
      (pss_cons (ps_set (i := 11) sclaw.nd rfl (Or.inl rfl) (pe_lst (pa_cons (pe_cl c_law_two (hr.mono (by first | decide | omega)) rfl (pa_cons (pv 1) pa_nil)) (pa_cons (pv 8) (pa_cons (pe_tup (pa_cons pe_int (pa_cons pe_int pa_nil))) (pa_cons (pe_tup (pa_cons (pe_op op_fdiv (pe_op op_mul (pv 9) pe_int) pe_int) (pa_cons (pe_op op_fdiv (pe_op op_mul (pv 10) pe_int) pe_int) pa_nil))) (pa_cons (pe_tup (pa_cons (pe_op op_fdiv (pe_op op_mul (pv 9) pe_int) pe_int) (pa_cons (pe_op op_fdiv (pe_op op_mul (pv 10) pe_int) pe_int) pa_nil))) pa_nil)))))))
      (C8.pss_cut (ps_set (i := 11) sclaw.nd rfl (Or.inl rfl) (pe_op op_cat (pv 11) (pe_lst (pa_cons (pe_tup (pa_cons (pe_op op_sub (pv 9) (pv 10)) (pa_cons (pe_op op_add (pv 9) (pv 10)) pa_nil))) (pa_cons (pe_tup (pa_cons (pe_op op_sub pe_int (pv 9)) (pa_cons (pe_op op_sub pe_int (pv 10)) pa_nil))) (pa_cons (pe_tup (pa_cons (pv 10) (pa_cons (pv 9) pa_nil))) pa_nil))))))
      (pss_cons (ps_for PassesOwn.never rfl (pi_list (pe_op op_cat (pv 11) (pe_lst (pa_cons (pe_tup (pa_cons (pe_op op_add (pe_ix ix_tup (pe_ix ix_list (pv 11) pe_int (fun _ _ => rfl)) pe_int (fun _ _ => rfl)) pe_int) (pa_cons (pe_ix ix_tup (pe_ix ix_list (pv 11) pe_int (fun _ _ => rfl)) pe_int (fun _ _ => rfl)) pa_nil))) (pa_cons (pe_tup (pa_cons (pe_op op_add (pe_ix ix_tup (pe_ix ix_list (pv 11) pe_int (fun _ _ => rfl)) pe_int (fun _ _ => rfl)) pe_int) (pa_cons (pe_ix ix_tup (pe_ix ix_list (pv 11) pe_int (fun _ _ => rfl)) pe_int (fun _ _ => rfl)) pa_nil))) pa_nil))))) (pg_tup rfl (pgs_cons (pg_name (i := 12) sclaw.nd rfl (Or.inl rfl)) (pgs_cons (pg_name (i := 13) sclaw.nd rfl (Or.inl rfl)) pgs_nil)))
        (pss_cons (ps_set (i := 14) sclaw.nd rfl (Or.inl rfl) (pe_op op_add (pe_op op_mul (pe_ix ix_tup (pv 8) pe_int (fun _ _ => rfl)) (pe_ix ix_tup (pv 8) pe_int (fun _ _ => rfl))) (pe_op op_mul (pe_ix ix_tup (pv 8) pe_int (fun _ _ => rfl)) (pe_ix ix_tup (pv 8) pe_int (fun _ _ => rfl)))))
        (pss_cons (ps_set (i := 15) sclaw.nd rfl (Or.inl rfl) (pe_op op_add (pe_op op_mul (pv 12) (pv 12)) (pe_op op_mul (pv 13) (pv 13))))
        (C8.pss_cut (ps_if (pt_cmpR op_ne (pe_cl cis_spread (hr.mono (by first | decide | omega)) rfl (pa_cons (pv 8) (pa_cons (pe_tup (pa_cons (pv 12) (pa_cons (pv 13) pa_nil))) pa_nil))) (pe_or (pe_cmpR op_gt (pe_op op_mul (pv 15) pe_int) (pe_op op_mul (pv 14) pe_int) (nomark _)) (pe_one (pe_cmpR op_lt (pe_op op_mul (pv 15) pe_int) (pe_op op_mul (pv 14) pe_int) (nomark _)))) (nomark _))
          (pss_one (ps_ret pe_bl))
          pss_nil)
        (pss_cons (ps_set (i := 16) sclaw.nd rfl (Or.inl rfl) (pe_op op_sub (pe_op op_mul (pe_ix ix_tup (pv 8) pe_int (fun _ _ => rfl)) (pv 13)) (pe_op op_mul (pe_ix ix_tup (pv 8) pe_int (fun _ _ => rfl)) (pv 12))))
        (pss_one (ps_if (pt_cmpR op_ne (pe_cl cis_turned (hr.mono (by first | decide | omega)) rfl (pa_cons (pv 8) (pa_cons (pe_tup (pa_cons (pv 12) (pa_cons (pv 13) pa_nil))) pa_nil))) (pe_cmpR op_gt (pe_callB (call_max2 rfl) (by rfl) T.m_max (by decide +kernel) (pa_cons (pv 16) (pa_cons (pe_op op_sub pe_int (pv 16)) pa_nil))) (pe_op op_add (pe_op op_mul (pe_ix ix_tup (pv 8) pe_int (fun _ _ => rfl)) (pv 12)) (pe_op op_mul (pe_ix ix_tup (pv 8) pe_int (fun _ _ => rfl)) (pv 13))) (nomark _)) (nomark _))
          (pss_one (ps_ret pe_bl))
          pss_nil)))))))
      (pss_cons (ps_set (i := 17) sclaw.nd rfl (Or.inl rfl) (pe_cl c_law_stroke (hr.mono (by first | decide | omega)) rfl (pa_cons (pv 1) pa_nil)))
      (pss_cons (ps_set (i := 18) sclaw.nd rfl (Or.inl rfl) (pe_callTy call_list_of rfl T.m_list (by decide +kernel) (pa_cons (pv 17) pa_nil)))
      (pss_one (ps_if (PW.pt (pw_or (pt_cmpR (op_neP hr.units) (pe_cl cflung (hr.mono (by first | decide | omega)) rfl (pa_cons (pv 17) pa_nil)) (pe_cl c_law_flung (hr.mono (by first | decide | omega)) rfl (pa_cons (pv 18) pa_nil)) (nomark _)) (pw_or1 (pt_cmpR (op_neP hr.units) (pv 17) (pv 18) (nomark _)))))
        (pss_one (ps_ret pe_bl))
        pss_nil))))))))))))))
    (pss_one (ps_ret pe_bl)))), ?_⟩
  refine ⟨_, rfl, a, ns, rfl, hS, h63, fun t c H1 T1 s1 => ?_⟩
  refine ⟨10, rfl, by decide, by decide, for_range (n := 10) (fun i σ Hx => ∃ (ks : List (Option V)), σ = some (.ref a) :: some (.ref t) :: ks ∧ ks.length = 18 ∧ TapeAt Hx t c (1000 * i)) ⟨_, rfl, rfl, T1⟩ ?_ ?_⟩
  · rintro i σ Hx hi ⟨ks, rfl, lks, Tx⟩
    match ks, lks with
    | [k2, k3, k4, k5, k6, k7, k8, k9, k10, k11, k12, k13, k14, k15, k16, k17, k18, k19], _ =>
    clear hS s1 T1
    refine ⟨_, rfl, t, c, 1001, _, rfl, Tx, ⟨by decide, by decide⟩, by omega, fun r0 H0 hr0 T0 f0 => ?_⟩
    refine ⟨(by show 4 ≤ sizeLine; decide), ?_⟩
    intro p hp
    refine ⟨_, rfl, ?_⟩
    refine pick_draw (xs := [V.int 0, .int 18, .int 5, .int r0]) T0 (by omega) rfl ⟨(by show 1 ≤ 4; decide), (by show 4 ≤ 1000; decide)⟩ (fun v H2 hv T2 f2 => ?_) p hp
    obtain ⟨slop, rfl, sl0, sl1⟩ : ∃ q : Int, v = .int q ∧ 0 ≤ q ∧ q ≤ 1000 := by
      simp only [List.mem_cons, List.not_mem_nil, or_false] at hv
      rcases hv with rfl | rfl | rfl | rfl
      · exact ⟨_, rfl, by decide, by decide⟩
      · exact ⟨_, rfl, by decide, by decide⟩
      · exact ⟨_, rfl, by decide, by decide⟩
      · exact ⟨_, rfl, by omega, by omega⟩
    have ff := f0.trans f2
    clear hp hv f2 f0 p
    refine ⟨_, rfl, _, rfl, t, c, slop, _, rfl, T2, by omega, ⟨by omega, by omega⟩, fun n1 H3 hn1 T3 f3 => ?_⟩
    refine ⟨_, rfl, t, c, 9, _, rfl, T3, ⟨by decide, by decide⟩, by omega, fun d1 H4 hd1 T4 f4 => ?_⟩
    refine ⟨_, _, rfl, rfl, (by show 2 ≤ sizeLine; decide), ?_⟩
    (intro a1 a10; generalize hh_ : upd _ a1 _ = H5; have ha1 := upd_is hh_; have s5 := same_is hh_ a10; clear hh_)
    refine ⟨_, rfl, t, c, 9, _, rfl, T4.same s5, ⟨by decide, by decide⟩, by omega, fun d2 H6 hd2 T6 f6 => ?_⟩
    refine ⟨_, _, rfl, rfl, _, rfl, _, rfl, t, c, slop, _, rfl, T6, by omega, ⟨by omega, by omega⟩, fun n2 H7 hn2 T7 f7 => ?_⟩
    refine ⟨(by show 2 ≤ sizeLine; decide), ?_⟩
    have ha17 := f7 _ _ (f6 _ _ ha1 (not_in_one (T4.ne_new a10))) (not_in_one (T4.ne_new a10))
    (intro a2 a20; generalize hh_ : upd _ a2 _ = H8; have ha2 := upd_is hh_; have s8 := same_is hh_ a20; clear hh_)
    refine ⟨(by show 2 ≤ sizeLine; decide), ?_⟩
    (intro l1 l10; generalize hh_ : upd _ l1 _ = H9; have hl1 := upd_is hh_; have s9 := same_is hh_ l10; clear hh_)
    have s59 := s8.trans s9
    have pr1 := s59 _ _ ha17
    have pr2 := s9 _ _ ha2
    have T9 := T7.same s59
    clear ff ha1 ha17 ha2 s8 s9 s59 T7 T6 T4 T3 T2 T0 f3 f4 f6 f7 s5 a10 a20 l10
    refine ⟨fun σ' H' => ∃ (l : Addr) (ps : List Pr), σ' = [some (.ref a), some (.ref t), some (.int (0 + (i : Int))), some (.int slop), some (.ref l), k5, k6, k7, k8, k9, k10, k11, k12, k13, k14, k15, k16, k17, k18, k19] ∧ PrsAt H' l ps ∧ TapeAt H' t c (1000 * i + 100), ?_, ?_⟩
    · refine ⟨_, rfl, _, rfl, _, rfl, _, _, rfl, rfl, ⟨by decide, by decide⟩, _, _, rfl, rfl, .inl ⟨by decide, by decide⟩, t, c, _, _, rfl, T9, by omega, ⟨by omega, by omega⟩, fun n3 H3 hn3 T3 f3 => ?_⟩
      refine ⟨_, rfl, _, rfl, _, _, rfl, rfl, ⟨by decide, by decide⟩, _, _, rfl, rfl, .inl ⟨by decide, by decide⟩, t, c, _, _, rfl, T3, by omega, ⟨by omega, by omega⟩, fun n4 H4 hn4 T4 f4 => ?_⟩
      refine ⟨(by show 2 ≤ sizeLine; decide), ?_⟩
      (intro a3 a30; generalize hh_ : upd _ a3 _ = H5; have ha3 := upd_is hh_; have s5 := same_is hh_ a30; clear hh_)
      refine ⟨_, rfl, t, c, _, rfl, T4.same s5, by omega, fun p4 x4 y4 H6 p40 ha4 lx ly T6 f6 => ?_⟩
      refine ⟨(by show 2 ≤ sizeLine; decide), ?_⟩
      (intro a5 a50; generalize hh_ : upd _ a5 _ = H7; have ha5 := upd_is hh_; have s7 := same_is hh_ a50; clear hh_)
      refine ⟨(by show 3 ≤ sizeLine; decide), ?_⟩
      (intro l2 l20; generalize hh_ : upd _ l2 _ = H8; have hl2 := upd_is hh_; have s8 := same_is hh_ l20; clear hh_)
      have f34 := f3.trans f4
      have f38 := (f34.trans (Fr.same s5 _)).trans (f6.trans (Fr.same (s7.trans s8) _))
      have f58 := f6.trans (Fr.same (s7.trans s8) _)
      have l1t := T9.ne_lst hl1
      refine ⟨l1, l2, _, _, rfl, rfl, f38 _ _ hl1 (not_in_one l1t), hl2, (by show 5 ≤ sizeLine; decide), ?_⟩
      (intro l3 l30; generalize hh_ : upd _ l3 _ = H9; have hl3 := upd_is hh_; have s9 := same_is hh_ l30; clear hh_)
      have f39 := f38.trans (Fr.same s9 _)
      have T10 := ((T6.same s7).same s8).same s9
      refine ⟨l3, [(a1, n1, d1 - 4), (a2, d2 - 4, n2), (a3, n3, n4), (p4, x4, y4), (a5, 0, 0)], rfl, ⟨hl3, ?_⟩, T10.mono (by omega)⟩
      intro p hp
      simp only [List.mem_cons, List.not_mem_nil, or_false] at hp
      rcases hp with rfl | rfl | rfl | rfl | rfl
      · exact ⟨f39 _ _ pr1 (not_in_one (T9.ne_tup pr1)), hn1.mono (by decide), ⟨by show _ ≤ d1 - 4; omega, by show d1 - 4 ≤ _; omega⟩⟩
      · exact ⟨f39 _ _ pr2 (not_in_one (T9.ne_tup pr2)), ⟨by show _ ≤ d2 - 4; omega, by show d2 - 4 ≤ _; omega⟩, hn2.mono (by decide)⟩
      · exact ⟨s9 _ _ (f58 _ _ ha3 (not_in_one ((T4.same s5).ne_tup ha3))), hn3.mono (by decide), hn4.mono (by decide)⟩
      · exact ⟨s9 _ _ (s8 _ _ (s7 _ _ ha4)), lx.mono (by decide), ly.mono (by decide)⟩
      · exact ⟨s9 _ _ (s8 _ _ ha5), ⟨(by show (-50000 : Int) ≤ 0; decide), (by show (0 : Int) ≤ 50000; decide)⟩, ⟨(by show (-50000 : Int) ≤ 0; decide), (by show (0 : Int) ≤ 50000; decide)⟩⟩
    clear pr1 pr2 T9 hn1 hn2 hd1 hd2 n1 n2 d1 d2 hl1 hr0
    rintro σ' H1 ⟨l, ps, rfl, ⟨hl, hps⟩, T1⟩
    refine ⟨_, rfl, l, rfl, ⟨_, SqL.of hl⟩, for_list (K := K) (a := l) (xs := ps.map fun p => V.ref p.1) (fun j σ Hy => ∃ (k5 k6 k7 : Option V), σ = [some (.ref a), some (.ref t), some (.int (0 + (i : Int))), some (.int slop), some (.ref l), k5, k6, k7, k8, k9, k10, k11, k12, k13, k14, k15, k16, k17, k18, k19] ∧ Same H1 Hy) ⟨_, _, _, rfl, Same.refl _⟩ (fun j σ Hy _ ⟨_, _, _, _, sy⟩ => SqL.of (sy _ _ hl)) ?_ ?_⟩
    · rintro j v σ Hy hj ⟨k5, k6, k7, rfl, sy⟩
      rw [List.getElem?_map] at hj
      obtain ⟨⟨b, dx, dy⟩, hp, rfl⟩ := Option.map_eq_some_iff.mp hj
      obtain ⟨hb, bx, bY⟩ := hps _ (List.mem_of_getElem? hp)
      have bx := bx.bnd (by decide)
      have bY := bY.bnd (by decide)
      have bs : Bnd slop := ⟨by omega, by omega⟩
      refine ⟨b, _, rfl, SqT.of (sy _ _ hb), rfl, _, _, rfl, _, _, rfl, rfl, ?_⟩
      refine ⟨_, rfl, _, rfl, _, _, rfl, rfl, bx.mul, _, rfl, _, rfl, _, _, rfl, rfl, bY.mul, _, _, rfl, rfl, _, rfl, _, rfl, _, _, rfl, rfl, bs.mul, _, _, rfl, rfl, _, rfl, _, rfl, _, _, rfl, rfl, _, _, rfl, ?_⟩
      refine ⟨_, rfl, _, _, rfl, rfl, ?_⟩
      refine ⟨_, rfl, _, rfl, _, _, rfl, rfl, _, _, rfl, _, rfl, _, _, rfl, rfl, (by show 3 ≤ sizeLine; decide), ?_⟩
      (intro du du0; generalize hh_ : upd _ du _ = H2; have hdu := upd_is hh_; have s2 := same_is hh_ du0; clear hh_)
      refine ⟨(by show 3 ≤ sizeLine; decide), ?_⟩
      (intro ww ww0; generalize hh_ : upd _ ww _ = H3; have hww := upd_is hh_; have s3 := same_is hh_ ww0; clear hh_)
      refine ⟨ww, rfl, ⟨_, SqL.of hww⟩, ?_⟩
      intro dd dd0
      refine lc_list (K := K) (a := ww) (xs := [V.str "any", .str "across", .str "along"]) (fun i Hz => Hz dd = some (.lst (([("any" : Str), "across", "along"].take i).map fun z => V.bl (beyondB z dx dy slop))) ∧ Same H3 Hz) ⟨upd_same, same_new dd0⟩ (fun i Hz _ ⟨_, sz1⟩ => SqL.of (sz1 _ _ hww)) ?_ ?_
      · rintro i2 v Hz hi2 ⟨z1, sz1⟩
        obtain ⟨z, hz, rfl⟩ : ∃ z, [("any" : Str), "across", "along"][i2]? = some z ∧ V.str z = v := by
          rw [show [V.str "any", .str "across", .str "along"] = [("any" : Str), "across", "along"].map V.str from rfl, List.getElem?_map] at hi2
          exact Option.map_eq_some_iff.mp hi2
        obtain ⟨hil, ei⟩ := List.getElem?_eq_some_iff.mp hz
        refine ⟨rfl, ?_⟩
        refine ⟨_, rfl, _, rfl, _, rfl, _, rfl, _, _, _, _, rfl, bx, bY, bs, ?_⟩
        refine ⟨_, z1, Nat.lt_of_lt_of_le (by rw [List.length_map, List.length_take]; exact Nat.lt_of_le_of_lt (Nat.min_le_right _ _) (by show 3 < 1000; decide) : _ < 1000) (sl1000 (Nat.le_refl _)), ?_, fun p o e => by rw [upd_ne (ne_of_none e dd0)]; exact sz1 _ _ e⟩
        rw [upd_same, List.take_succ_eq_append_getElem hil, List.map_append, ei]
        rfl
      rintro H4 ⟨z1, s4⟩
      have pl : PyData.plain (.list [.bool (beyondB "any" dx dy slop), .bool (beyondB "across" dx dy slop), .bool (beyondB "along" dx dy slop)]) = true := rfl
      have e1 : (if 0 - dx > dx then 0 - dx else dx) = absI dx := by
        unfold absI
        split <;> split <;> omega
      have e2 : (if 0 - dy > dy then 0 - dy else dy) = absI dy := by
        unfold absI
        split <;> split <;> omega
      have d1 : Dp K H4 (.ref dd) (.list [.bool (beyondB "any" dx dy slop), .bool (beyondB "across" dx dy slop), .bool (beyondB "along" dx dy slop)]) := .lst (SqL.of z1) (.cons (.bl _) (.cons (.bl _) (.cons (.bl _) .nil)))
      have b1 : beyondB "any" dx dy slop = decide (slop * slop < dx * dx + dy * dy) := by
        unfold beyondB
        rw [if_neg (by decide +kernel), if_neg (by decide +kernel)]
      have b2 : beyondB "across" dx dy slop = decide (slop < absI dx) := by
        unfold beyondB
        rw [if_pos rfl]
      have b3 : beyondB "along" dx dy slop = decide (slop < absI dy) := by
        unfold beyondB
        rw [if_neg (by decide +kernel), if_pos rfl]
      have d2 : Dp K H4 (.ref du) (.list [.bool (beyondB "any" dx dy slop), .bool (beyondB "across" dx dy slop), .bool (beyondB "along" dx dy slop)]) := by
        rw [b1, b2, b3]
        refine .lst (SqL.of (s4 _ _ (s3 _ _ hdu))) ?_
        dsimp only
        rw [e1, e2]
        exact .cons (.bl _) (.cons (.bl _) (.cons (.bl _) .nil))
      refine ⟨_, rfl, _, _, d1, d2, pl, pl, (by show 1 ≤ 64; decide), _, rfl, ?_⟩
      rw [SeqAt.eqv_refl_plain _ pl]
      refine iteF ?_
      exact ⟨_, _, _, rfl, ((sy.trans s2).trans s3).trans s4⟩
    rintro σ Hy ⟨k5, k6, k7, rfl, sy⟩
    have T2 := T1.same sy
    clear hl hps T1 sy
    refine ⟨_, rfl, t, c, _, rfl, T2, by omega, fun pf fx fy H3 pf0 hpf lx ly T3 f3 => ?_⟩
    refine ⟨_, rfl, pf, _, rfl, SqT.of hpf, rfl, _, _, rfl, _, _, rfl, rfl, ?_⟩
    refine ⟨_, rfl, t, c, _, rfl, T3, by omega, fun p1 x1 y1 H4 p10 hp1 lx1 ly1 T4 f4 => ?_⟩
    have hpf4 := f4 _ _ hpf (not_in_one (T3.ne_tup hpf))
    refine ⟨_, rfl, (by show 2 ≤ sizeLine; decide), ?_⟩
    (intro p2 p20; generalize hh_ : upd _ p2 _ = H5; have hp2 := upd_is hh_; have s5 := same_is hh_ p20; clear hh_)
    refine ⟨_, rfl, _, _, rfl, rfl, (lx.bnd (by decide)).mul, _, _, rfl, rfl, ⟨by decide, by decide⟩, _, rfl, _, _, rfl, rfl, (ly.bnd (by decide)).mul, _, _, rfl, rfl, ⟨by decide, by decide⟩, (by show 2 ≤ sizeLine; decide), ?_⟩
    (intro p3 p30; generalize hh_ : upd _ p3 _ = H6; have hp3 := upd_is hh_; have s6 := same_is hh_ p30; clear hh_)
    refine ⟨_, rfl, _, _, rfl, rfl, (lx.bnd (by decide)).mul, _, _, rfl, rfl, ⟨by decide, by decide⟩, _, rfl, _, _, rfl, rfl, (ly.bnd (by decide)).mul, _, _, rfl, rfl, ⟨by decide, by decide⟩, (by show 2 ≤ sizeLine; decide), ?_⟩
    (intro p4 p40; generalize hh_ : upd _ p4 _ = H7; have hp4 := upd_is hh_; have s7 := same_is hh_ p40; clear hh_)
    refine ⟨(by show 5 ≤ sizeLine; decide), ?_⟩
    (intro l2 l20; generalize hh_ : upd _ l2 _ = H8; have hl2 := upd_is hh_; have s8 := same_is hh_ l20; clear hh_)
    have s78 := s7.trans s8
    have s68 := s6.trans s78
    have s58 := s5.trans s68
    have h1 := s58 _ _ hp1
    have h2 := s68 _ _ hp2
    have h3 := s78 _ _ hp3
    have h4 := s8 _ _ hp4
    have hf := s58 _ _ hpf4
    have T8 := T4.same s58
    clear hp1 hp2 hp3 hp4 hpf hpf4 s5 s6 s7 s8 s78 s68 s58 T4 T3 T2 f3 f4 p10 p20 p30 p40 l20 pf0
    dsimp only at h1 h2 h3 h4
    refine ⟨fun σ' H' => ∃ (lo : Addr) (ps : List Pr), σ' = [some (.ref a), some (.ref t), some (.int (0 + (i : Int))), some (.int slop), some (.ref l), k5, k6, k7, some (.ref pf), some (.int fx), some (.int fy), some (.ref lo), k12, k13, k14, k15, k16, k17, k18, k19] ∧ H' pf = some (.tup [.int fx, .int fy]) ∧ H' lo = some (.lst (ps.map fun p => V.ref p.1)) ∧ (∀ p ∈ ps, PrAt H' p ∧ Low 45000 p.2.1 ∧ Low 45000 p.2.2) ∧ ps.length = 8 ∧ TapeAt H' t c (1000 * i + 200), ?_, ?_⟩
    · refine ⟨_, rfl, _, rfl, _, rfl, _, _, rfl, rfl, _, rfl, _, rfl, _, _, rfl, rfl, (by show 2 ≤ sizeLine; decide), ?_⟩
      (intro p5 p50; generalize hh_ : upd _ p5 _ = H9; have hp5 := upd_is hh_; have s9 := same_is hh_ p50; clear hh_)
      refine ⟨_, rfl, _, _, rfl, rfl, _, rfl, _, _, rfl, rfl, (by show 2 ≤ sizeLine; decide), ?_⟩
      (intro p6 p60; generalize hh_ : upd _ p6 _ = Ha; have hp6 := upd_is hh_; have sa := same_is hh_ p60; clear hh_)
      refine ⟨_, rfl, _, rfl, (by show 2 ≤ sizeLine; decide), ?_⟩
      (intro p7 p70; generalize hh_ : upd _ p7 _ = Hb; have hp7 := upd_is hh_; have sb := same_is hh_ p70; clear hh_)
      refine ⟨(by show 3 ≤ sizeLine; decide), ?_⟩
      (intro l3 l30; generalize hh_ : upd _ l3 _ = Hc; have hl3 := upd_is hh_; have sc := same_is hh_ l30; clear hh_)
      have sbc := sb.trans sc
      have sac := sa.trans sbc
      have s9c := s9.trans sac
      refine ⟨l2, l3, _, _, rfl, rfl, s9c _ _ hl2, hl3, (by show 8 ≤ sizeLine; decide), ?_⟩
      (intro l4 l40; generalize hh_ : upd _ l4 _ = Hd; have hl4 := upd_is hh_; have sd := same_is hh_ l40; clear hh_)
      obtain ⟨x0, x9⟩ := lx
      obtain ⟨y0, y9⟩ := ly
      refine ⟨l4, [(p1, x1, y1), (pf, fx, fy), (p2, 0, 0), (p3, fx * 5 / 4, fy * 5 / 4), (p4, fx * 4 / 5, fy * 4 / 5), (p5, fx - fy, fx + fy), (p6, 0 - fx, 0 - fy), (p7, fy, fx)], rfl, sd _ _ (s9c _ _ hf), hl4, ?_, rfl, (T8.same (s9c.trans sd)).mono (by omega)⟩
      intro p hp
      simp only [List.mem_cons, List.not_mem_nil, or_false] at hp
      rcases hp with rfl | rfl | rfl | rfl | rfl | rfl | rfl | rfl
      · exact ⟨sd _ _ (s9c _ _ h1), lx1.mono (by decide), ly1.mono (by decide)⟩
      · exact ⟨sd _ _ (s9c _ _ hf), ⟨by show _ ≤ fx; omega, by show fx ≤ _; omega⟩, ⟨by show _ ≤ fy; omega, by show fy ≤ _; omega⟩⟩
      · exact ⟨sd _ _ (s9c _ _ h2), ⟨(by show (-45000 : Int) ≤ 0; decide), (by show (0 : Int) ≤ 45000; decide)⟩, ⟨(by show (-45000 : Int) ≤ 0; decide), (by show (0 : Int) ≤ 45000; decide)⟩⟩
      · exact ⟨sd _ _ (s9c _ _ h3), ⟨by show _ ≤ fx * 5 / 4; omega, by show fx * 5 / 4 ≤ _; omega⟩, ⟨by show _ ≤ fy * 5 / 4; omega, by show fy * 5 / 4 ≤ _; omega⟩⟩
      · exact ⟨sd _ _ (s9c _ _ h4), ⟨by show _ ≤ fx * 4 / 5; omega, by show fx * 4 / 5 ≤ _; omega⟩, ⟨by show _ ≤ fy * 4 / 5; omega, by show fy * 4 / 5 ≤ _; omega⟩⟩
      · exact ⟨sd _ _ (sac _ _ hp5), ⟨by show _ ≤ fx - fy; omega, by show fx - fy ≤ _; omega⟩, ⟨by show _ ≤ fx + fy; omega, by show fx + fy ≤ _; omega⟩⟩
      · exact ⟨sd _ _ (sbc _ _ hp6), ⟨by show _ ≤ 0 - fx; omega, by show 0 - fx ≤ _; omega⟩, ⟨by show _ ≤ 0 - fy; omega, by show 0 - fy ≤ _; omega⟩⟩
      · exact ⟨sd _ _ (sc _ _ hp7), ⟨by show _ ≤ fy; omega, by show fy ≤ _; omega⟩, ⟨by show _ ≤ fx; omega, by show fx ≤ _; omega⟩⟩
    clear h1 h2 h3 h4 hf hl2 lx1 ly1 T8
    rintro σ' H2 ⟨lo, ps, rfl, hpf, hlo, hps, l8, T2⟩
    obtain ⟨⟨b5, x5, y5⟩, e5⟩ : ∃ p, ps[5]? = some p := ⟨_, List.getElem?_eq_getElem (by omega)⟩
    obtain ⟨⟨b3, x3, y3⟩, e3⟩ : ∃ p, ps[3]? = some p := ⟨_, List.getElem?_eq_getElem (by omega)⟩
    have h5 := hps _ (List.mem_of_getElem? e5)
    have h3 := hps _ (List.mem_of_getElem? e3)
    refine ⟨_, rfl, _, rfl, lo, _, 5, _, rfl, rfl, SqL.of hlo, at_p e5, b5, _, 0, _, rfl, rfl, SqT.of h5.1, at0_2, _, _, rfl, rfl, _, rfl, lo, _, 5, _, rfl, rfl, SqL.of hlo, at_p e5, b5, _, 1, _, rfl, rfl, SqT.of h5.1, at1_2, (by show 2 ≤ sizeLine; decide), ?_⟩
    (intro q1 q10; generalize hh_ : upd _ q1 _ = H3; have hq1 := upd_is hh_; have s3 := same_is hh_ q10; clear hh_)
    have hlo3 := s3 _ _ hlo
    have h33 := s3 _ _ h3.1
    refine ⟨_, rfl, lo, _, 3, _, rfl, rfl, SqL.of hlo3, at_p e3, b3, _, 0, _, rfl, rfl, SqT.of h33, at0_2, _, _, rfl, rfl, _, rfl, lo, _, 3, _, rfl, rfl, SqL.of hlo3, at_p e3, b3, _, 1, _, rfl, rfl, SqT.of h33, at1_2, (by show 2 ≤ sizeLine; decide), ?_⟩
    (intro q2 q20; generalize hh_ : upd _ q2 _ = H4; have hq2 := upd_is hh_; have s4 := same_is hh_ q20; clear hh_)
    refine ⟨(by show 2 ≤ sizeLine; decide), ?_⟩
    (intro l5 l50; generalize hh_ : upd _ l5 _ = H5; have hl5 := upd_is hh_; have s5 := same_is hh_ l50; clear hh_)
    have s45 := s4.trans s5
    have s35 := s3.trans s45
    refine ⟨lo, l5, _, _, rfl, rfl, s35 _ _ hlo, hl5, (by rw [List.length_map, l8]; show 10 ≤ sizeLine; decide), ?_⟩
    (intro l6 l60; generalize hh_ : upd _ l6 _ = H6; have hl6 := upd_is hh_; have s6 := same_is hh_ l60; clear hh_)
    have hl6 : H6 l6 = some (.lst ((ps ++ [(q1, x5 + 1, y5), (q2, x3 + 1, y3)]).map fun p => V.ref p.1)) := by
      rw [hl6, List.map_append]
      rfl
    have hps6 : ∀ p ∈ ps ++ [((q1, x5 + 1, y5) : Pr), (q2, x3 + 1, y3)], PrAt H6 p ∧ Bnd p.2.1 ∧ Bnd p.2.2 := fun p hp => by
      rcases List.mem_append.mp hp with hp | hp
      · exact ⟨s6 _ _ (s35 _ _ (hps p hp).1), (hps p hp).2.1.bnd (by decide), (hps p hp).2.2.bnd (by decide)⟩
      · simp only [List.mem_cons, List.not_mem_nil, or_false] at hp
        obtain ⟨_, ⟨g1, g2⟩, ⟨g3, g4⟩⟩ := h5
        obtain ⟨_, ⟨g5, g6⟩, ⟨g7, g8⟩⟩ := h3
        dsimp only at g1 g2 g3 g4 g5 g6 g7 g8
        rcases hp with rfl | rfl
        · exact ⟨s6 _ _ (s45 _ _ hq1), ⟨by show _ ≤ x5 + 1; omega, by show x5 + 1 ≤ _; omega⟩, ⟨by show _ ≤ y5; omega, by show y5 ≤ _; omega⟩⟩
        · exact ⟨s6 _ _ (s5 _ _ hq2), ⟨by show _ ≤ x3 + 1; omega, by show x3 + 1 ≤ _; omega⟩, ⟨by show _ ≤ y3; omega, by show y3 ≤ _; omega⟩⟩
    have T6 := T2.same (s35.trans s6)
    have hpf6 := s6 _ _ (s35 _ _ hpf)
    have bfx := lx.bnd (by decide)
    have bfy := ly.bnd (by decide)
    generalize ps ++ [(q1, x5 + 1, y5), (q2, x3 + 1, y3)] = qs at *
    clear hps hlo hlo3 h33 h3 h5 e3 e5 l8 hq1 hq2 hl5 s45 s35 s6 s5 s4 s3 q10 q20 l50 l60 T2 hpf lx ly
    refine ⟨l6, rfl, ⟨_, SqL.of hl6⟩, for_list (K := K) (a := l6) (xs := qs.map fun p => V.ref p.1) (fun j σ Hy => ∃ (k12 k13 k14 k15 k16 : Option V), σ = [some (.ref a), some (.ref t), some (.int (0 + (i : Int))), some (.int slop), some (.ref l), k5, k6, k7, some (.ref pf), some (.int fx), some (.int fy), some (.ref lo), k12, k13, k14, k15, k16, k17, k18, k19] ∧ Same H6 Hy) ⟨_, _, _, _, _, rfl, Same.refl _⟩ (fun j σ Hy _ ⟨_, _, _, _, _, _, sy⟩ => SqL.of (sy _ _ hl6)) ?_ ?_⟩
    · rintro j v σ Hy hj ⟨k12, k13, k14, k15, k16, rfl, sy⟩
      rw [List.getElem?_map] at hj
      obtain ⟨⟨b, x, y⟩, hp, rfl⟩ := Option.map_eq_some_iff.mp hj
      obtain ⟨hb, bx, bY⟩ := hps6 _ (List.mem_of_getElem? hp)
      have hpfy := sy _ _ hpf6
      have hF := SqT.of (K := K) hpfy
      refine ⟨b, _, rfl, SqT.of (sy _ _ hb), rfl, _, _, rfl, _, _, rfl, rfl, ?_⟩
      refine ⟨_, rfl, pf, _, 0, _, rfl, rfl, hF, at0_2, _, rfl, pf, _, 0, _, rfl, rfl, hF, at0_2, _, _, rfl, rfl, bfx.mul, _, rfl, pf, _, 1, _, rfl, rfl, hF, at1_2, _, rfl, pf, _, 1, _, rfl, rfl, hF, at1_2, _, _, rfl, rfl, bfy.mul, _, _, rfl, rfl, ?_⟩
      refine ⟨_, rfl, _, rfl, _, _, rfl, rfl, bx.mul, _, rfl, _, rfl, _, _, rfl, rfl, bY.mul, _, _, rfl, rfl, ?_⟩
      dsimp only
      refine ⟨fun σ' H' => σ' = [some (.ref a), some (.ref t), some (.int (0 + (i : Int))), some (.int slop), some (.ref l), k5, k6, k7, some (.ref pf), some (.int fx), some (.int fy), some (.ref lo), some (.int x), some (.int y), some (.int (fx * fx + fy * fy)), some (.int (x * x + y * y)), k16, k17, k18, k19] ∧ Same H6 H', ?_, ?_⟩
      · refine ⟨_, rfl, _, rfl, _, rfl, (by show 2 ≤ sizeLine; decide), ?_⟩
        (intro tt tt0; generalize hh_ : upd _ tt _ = H7; have htt := upd_is hh_; have s7 := same_is hh_ tt0; clear hh_)
        refine ⟨pf, tt, fx, fy, x, y, rfl, SqT.of (s7 _ _ hpfy), SqT.of htt, bfx, bfy, bx, bY, ?_⟩
        refine ⟨_, rfl, _, _, rfl, rfl, .inr ⟨by decide, by decide⟩, _, rfl, _, _, rfl, rfl, .inr ⟨by decide, by decide⟩, _, _, rfl, rfl, _, rfl, ?_⟩
        have sp : spreadB fx fy x y = (decide ((fx * fx + fy * fy) * 25 < (x * x + y * y) * 16) || decide ((x * x + y * y) * 25 < (fx * fx + fy * fy) * 16)) := by
          unfold spreadB
          rw [Int.mul_comm 25, Int.mul_comm 16, Int.mul_comm 25, Int.mul_comm 16]
        refine ite2 (fun p => ?_) (fun p => ?_)
        · have p' : decide ((fx * fx + fy * fy) * 25 < (x * x + y * y) * 16) = true := p
          rw [sp, p', Bool.true_or]
          refine ⟨rfl, _, rfl, iteF ?_⟩
          exact ⟨rfl, sy.trans s7⟩
        · have p' : decide ((fx * fx + fy * fy) * 25 < (x * x + y * y) * 16) = false := Bool.eq_false_iff.mpr p
          rw [sp, p', Bool.false_or]
          refine ⟨_, rfl, _, _, rfl, rfl, .inr ⟨by decide, by decide⟩, _, rfl, _, _, rfl, rfl, .inr ⟨by decide, by decide⟩, _, _, rfl, rfl, ?_⟩
          refine ⟨rfl, _, rfl, ?_⟩
          refine ite2 (fun q => absurd q (by simp)) (fun _ => ?_)
          exact ⟨rfl, sy.trans s7⟩
      · rintro σ' H7 ⟨rfl, s7⟩
        have hF := SqT.of (K := K) (s7 _ _ hpf6)
        refine ⟨_, rfl, pf, _, 0, _, rfl, rfl, hF, at0_2, _, rfl, _, _, rfl, rfl, bfx.mul, _, rfl, pf, _, 1, _, rfl, rfl, hF, at1_2, _, rfl, _, _, rfl, rfl, bfy.mul, _, _, rfl, rfl, ?_⟩
        refine ⟨_, rfl, _, rfl, _, rfl, (by show 2 ≤ sizeLine; decide), ?_⟩
        (intro tt tt0; generalize hh_ : upd _ tt _ = H8; have htt := upd_is hh_; have s8 := same_is hh_ tt0; clear hh_)
        have hF8 := SqT.of (K := K) ((s7.trans s8) _ _ hpf6)
        refine ⟨pf, tt, fx, fy, x, y, rfl, hF8, SqT.of htt, bfx, bfy, bx, bY, ?_⟩
        refine ⟨_, rfl, _, rfl, _, _, rfl, rfl, _, _, rfl, _, rfl, pf, _, 0, _, rfl, rfl, hF8, at0_2, _, rfl, _, _, rfl, rfl, bfx.mul, _, rfl, pf, _, 1, _, rfl, rfl, hF8, at1_2, _, rfl, _, _, rfl, rfl, bfy.mul, _, _, rfl, rfl, _, _, rfl, rfl, ?_⟩
        have e1 : ∀ z : Int, (if 0 - z > z then 0 - z else z) = absI z := fun z => by
          unfold absI
          split <;> split <;> omega
        dsimp only
        rw [e1]
        unfold turnedB
        refine ⟨rfl, _, rfl, ?_⟩
        refine ite2 (fun q => absurd q (by simp)) (fun _ => ?_)
        exact ⟨_, _, _, _, _, rfl, s7.trans s8⟩
    rintro σ H7 ⟨k12, k13, k14, k15, k16, rfl, s7⟩
    have T7 := T6.same s7
    clear hpf6 hl6 hps6 s7 T6
    refine ⟨_, rfl, t, c, _, rfl, T7, by omega, fun l7 s0 u r H8 l70 hl7 hz hlen huw T8 f8 => ?_⟩
    refine ⟨_, rfl, l7, _, rfl, .inl (SqL.of hl7), ?_⟩
    (intro l8 l80; generalize hh_ : upd _ l8 _ = H9; have hl8 := upd_is hh_; have s9 := same_is hh_ l80; clear hh_)
    refine ⟨_, rfl, l7, s0, u, r, rfl, ⟨SqL.of (s9 _ _ hl7), fun z q => ⟨s9 _ _ (hz z q).1, (hz z q).2⟩, hlen⟩, huw, fun v1 Ha sa t1 => ?_⟩
    refine ⟨_, rfl, l8, s0, u, r, rfl, ⟨SqL.of (sa _ _ hl8), fun z q => ⟨sa _ _ (s9 _ _ (hz z q).1), (hz z q).2⟩, hlen⟩, huw, fun v2 Hb sb t2 => ?_⟩
    have pl := told_plain (flingD s0 u (s0 :: r ++ [u]))
    have t1' : Told Hb v1 (flingD s0 u (s0 :: r ++ [u])) := by
      unfold Told at t1 ⊢
      split at t1
      · next q =>
        rw [if_pos q]
        obtain ⟨z, rfl, hz'⟩ := t1
        exact ⟨z, rfl, sb _ _ hz'⟩
      · next q =>
        rw [if_neg q]
        exact t1
    refine ⟨_, _, t1'.dp, t2.dp, pl, pl, (by rw [Nat.min_self]; exact told_depth _), _, rfl, ?_⟩
    rw [SeqAt.eqv_refl_plain _ pl]
    refine iteF ?_
    have zb : ∀ z ∈ s0 :: r ++ [u], TcAt Hb z := fun z q => sb _ _ (sa _ _ (s9 _ _ (hz z q).1))
    have pl2 : PyData.plain (.list ((s0 :: r ++ [u]).map tcD)) = true := tcs_plain _
    have dp2 : PyData.depth (.list ((s0 :: r ++ [u]).map tcD)) ≤ 64 := by
      show PyData.depthAll _ + 1 ≤ 64
      have := tcs_depth (s0 :: r ++ [u])
      omega
    refine ⟨_, rfl, _, rfl, _, _, .lst (SqL.of (sb _ _ (sa _ _ (s9 _ _ hl7)))) (tcs_dp zb), .lst (SqL.of (sb _ _ (sa _ _ hl8))) (tcs_dp zb), pl2, pl2, (by rw [Nat.min_self]; exact dp2), _, rfl, ?_⟩
    rw [SeqAt.eqv_refl_plain _ pl2]
    refine iteF ?_
    exact ⟨_, rfl, rfl, ((T8.same s9).same (sa.trans sb)).mono (by omega)⟩
  · rintro σ Hx ⟨ks, rfl, lks, Tx⟩
    exact k Hx
end
end SG
namespace SG
open PySem PySem.Spec PyProof.Rows L2
theorem all_mk {l : PySem.W.OpenLaw} {w : World} {K : PySem.W.Frag} {h : Heap} {mg : Str → Option Value} {fa f1 f2 f3 f4 f5 f6 f7 f8 f9 f10 f11 f12 : Addr} (X : K.In h) (G : h.Ns mainGlobals mg) (hfa : mg "law" = some (.ref fa)) {od1 an1 od2 an2 od3 an3 od4 an4 od5 an5 od6 an6 od7 an7 od8 an8 od9 an9 od10 an10 od11 an11 od12 an12 : Option Addr} {sl1 sl2 sl3 sl4 sl5 sl6 sl7 sl8 sl9 sl10 sl11 sl12 : Array (Option Value)} {oc1 kV1 dc1 pm1 cd1 ct1 oc2 kV2 dc2 pm2 cd2 ct2 oc3 kV3 dc3 pm3 cd3 ct3 oc4 kV4 dc4 pm4 cd4 ct4 oc5 kV5 dc5 pm5 cd5 ct5 oc6 kV6 dc6 pm6 cd6 ct6 oc7 kV7 dc7 pm7 cd7 ct7 oc8 kV8 dc8 pm8 cd8 ct8 oc9 kV9 dc9 pm9 cd9 ct9 oc10 kV10 dc10 pm10 cd10 ct10 oc11 kV11 dc11 pm11 cd11 ct11 oc12 kV12 dc12 pm12 cd12 ct12 : Value} {tFLING_TIME tFLING_SLOP : Tok}
    (a1 : PySem.W.nsIn K mainGlobals "is_beyond" = some (some (.ref f1)))
    (l1 : K.lookup f1 = some ⟨oc1, od1, .func (PySem.W.fnOf "is_beyond" "is_beyond" (defArgs sis_beyond) (defBody sis_beyond) (defScope sis_beyond) .none kV1 dc1 pm1 an1 cd1 ct1), sl1⟩)
    (c1 : PySem.W.codeIn K cd1 "is_beyond" = true)
    (k1 : PySem.W.keepIn K (.ref f1) = true)
    (a2 : PySem.W.nsIn K mainGlobals "is_spread" = some (some (.ref f2)))
    (l2 : K.lookup f2 = some ⟨oc2, od2, .func (PySem.W.fnOf "is_spread" "is_spread" (defArgs sis_spread) (defBody sis_spread) (defScope sis_spread) .none kV2 dc2 pm2 an2 cd2 ct2), sl2⟩)
    (c2 : PySem.W.codeIn K cd2 "is_spread" = true)
    (k2 : PySem.W.keepIn K (.ref f2) = true)
    (a3 : PySem.W.nsIn K mainGlobals "is_turned" = some (some (.ref f3)))
    (l3 : K.lookup f3 = some ⟨oc3, od3, .func (PySem.W.fnOf "is_turned" "is_turned" (defArgs sis_turned) (defBody sis_turned) (defScope sis_turned) .none kV3 dc3 pm3 an3 cd3 ct3), sl3⟩)
    (c3 : PySem.W.codeIn K cd3 "is_turned" = true)
    (k3 : PySem.W.keepIn K (.ref f3) = true)
    (a4 : PySem.W.nsIn K mainGlobals "flung" = some (some (.ref f4)))
    (l4 : K.lookup f4 = some ⟨oc4, od4, .func (PySem.W.fnOf "flung" "flung" (defArgs sflung) (defBody sflung) (defScope sflung) .none kV4 dc4 pm4 an4 cd4 ct4), sl4⟩)
    (c4 : PySem.W.codeIn K cd4 "flung" = true)
    (k4 : PySem.W.keepIn K (.ref f4) = true)
    (a5 : PySem.W.nsIn K mainGlobals "_square" = some (some (.ref f5)))
    (l5 : K.lookup f5 = some ⟨oc5, od5, .func (PySem.W.fnOf "_square" "_square" (defArgs s_square) (defBody s_square) (defScope s_square) .none kV5 dc5 pm5 an5 cd5 ct5), sl5⟩)
    (c5 : PySem.W.codeIn K cd5 "_square" = true)
    (k5 : PySem.W.keepIn K (.ref f5) = true)
    (a6 : PySem.W.nsIn K mainGlobals "_law_tape" = some (some (.ref f6)))
    (l6 : K.lookup f6 = some ⟨oc6, od6, .func (PySem.W.fnOf "_law_tape" "_law_tape" (defArgs s_law_tape) (defBody s_law_tape) (defScope s_law_tape) .none kV6 dc6 pm6 an6 cd6 ct6), sl6⟩)
    (c6 : PySem.W.codeIn K cd6 "_law_tape" = true)
    (k6 : PySem.W.keepIn K (.ref f6) = true)
    (a7 : PySem.W.nsIn K mainGlobals "_law_draw" = some (some (.ref f7)))
    (l7 : K.lookup f7 = some ⟨oc7, od7, .func (PySem.W.fnOf "_law_draw" "_law_draw" (defArgs s_law_draw) (defBody s_law_draw) (defScope s_law_draw) .none kV7 dc7 pm7 an7 cd7 ct7), sl7⟩)
    (c7 : PySem.W.codeIn K cd7 "_law_draw" = true)
    (k7 : PySem.W.keepIn K (.ref f7) = true)
    (a8 : PySem.W.nsIn K mainGlobals "_law_near" = some (some (.ref f8)))
    (l8 : K.lookup f8 = some ⟨oc8, od8, .func (PySem.W.fnOf "_law_near" "_law_near" (defArgs s_law_near) (defBody s_law_near) (defScope s_law_near) .none kV8 dc8 pm8 an8 cd8 ct8), sl8⟩)
    (c8 : PySem.W.codeIn K cd8 "_law_near" = true)
    (k8 : PySem.W.keepIn K (.ref f8) = true)
    (a9 : PySem.W.nsIn K mainGlobals "_law_two" = some (some (.ref f9)))
    (l9 : K.lookup f9 = some ⟨oc9, od9, .func (PySem.W.fnOf "_law_two" "_law_two" (defArgs s_law_two) (defBody s_law_two) (defScope s_law_two) .none kV9 dc9 pm9 an9 cd9 ct9), sl9⟩)
    (c9 : PySem.W.codeIn K cd9 "_law_two" = true)
    (k9 : PySem.W.keepIn K (.ref f9) = true)
    (a10 : PySem.W.nsIn K mainGlobals "_law_flung" = some (some (.ref f10)))
    (l10 : K.lookup f10 = some ⟨oc10, od10, .func (PySem.W.fnOf "_law_flung" "_law_flung" (defArgs s_law_flung) (defBody s_law_flung) (defScope s_law_flung) .none kV10 dc10 pm10 an10 cd10 ct10), sl10⟩)
    (c10 : PySem.W.codeIn K cd10 "_law_flung" = true)
    (k10 : PySem.W.keepIn K (.ref f10) = true)
    (a11 : PySem.W.nsIn K mainGlobals "_law_stroke" = some (some (.ref f11)))
    (l11 : K.lookup f11 = some ⟨oc11, od11, .func (PySem.W.fnOf "_law_stroke" "_law_stroke" (defArgs s_law_stroke) (defBody s_law_stroke) (defScope s_law_stroke) .none kV11 dc11 pm11 an11 cd11 ct11), sl11⟩)
    (c11 : PySem.W.codeIn K cd11 "_law_stroke" = true)
    (k11 : PySem.W.keepIn K (.ref f11) = true)
    (a12 : PySem.W.nsIn K mainGlobals "law" = some (some (.ref f12)))
    (l12 : K.lookup f12 = some ⟨oc12, od12, .func (PySem.W.fnOf "law" "law" (defArgs slaw) (defBody slaw) (defScope slaw) .none kV12 dc12 pm12 an12 cd12 ct12), sl12⟩)
    (c12 : PySem.W.codeIn K cd12 "law" = true)
    (k12 : PySem.W.keepIn K (.ref f12) = true)
    (zabs : PySem.W.nsIn K mainGlobals "abs" = some none)
    (zlen : PySem.W.nsIn K mainGlobals "len" = some none)
    (zlist : PySem.W.nsIn K mainGlobals "list" = some none)
    (zmax : PySem.W.nsIn K mainGlobals "max" = some none)
    (zrange : PySem.W.nsIn K mainGlobals "range" = some none)
    (yFLING_TIME : PySem.W.nsIn K mainGlobals "FLING_TIME" = some (some (.int 100 tFLING_TIME)))
    (yFLING_SLOP : PySem.W.nsIn K mainGlobals "FLING_SLOP" = some (some (.int 50 tFLING_SLOP)))
    : ∃ fd : FuncData, (∀ (s : Shared) (v : Value), BindsTo s fd ⟨[v], []⟩ [("_law_script", v)]) ∧ ∀ base : Heap, K.In base → base.Ns mainGlobals mg → FnOk l.prog w K mg base CX0 3 fa fd ["_law_script"] (spLaw K) := by
  have e := hfa.symm.trans (PySem.W.mg_of X G a12)
  cases e
  have T : Txt K mg := ⟨PySem.W.mg_none_of X G zabs, PySem.W.mg_none_of X G zlen, PySem.W.mg_none_of X G zlist, PySem.W.mg_none_of X G zmax, PySem.W.mg_none_of X G zrange, ⟨_, PySem.W.mg_of X G yFLING_TIME⟩, ⟨_, PySem.W.mg_of X G yFLING_SLOP⟩⟩
  have F1 := fun_mk (st := sis_beyond) l1 c1 k1
  have Dis_beyond : Df K mg "is_beyond" sis_beyond ["way", "dx", "dy", "slop"] := ⟨⟨_, _, F1, PySem.W.mg_of X G a1, F1.binds (ps := ["way", "dx", "dy", "slop"]) fun _ _ _ _ _ _ us hl => match us, hl with | [_, _, _, _], _ => rfl⟩⟩
  have F2 := fun_mk (st := sis_spread) l2 c2 k2
  have Dis_spread : Df K mg "is_spread" sis_spread ["first", "other"] := ⟨⟨_, _, F2, PySem.W.mg_of X G a2, F2.binds (ps := ["first", "other"]) fun _ _ _ _ _ _ us hl => match us, hl with | [_, _], _ => rfl⟩⟩
  have F3 := fun_mk (st := sis_turned) l3 c3 k3
  have Dis_turned : Df K mg "is_turned" sis_turned ["first", "other"] := ⟨⟨_, _, F3, PySem.W.mg_of X G a3, F3.binds (ps := ["first", "other"]) fun _ _ _ _ _ _ us hl => match us, hl with | [_, _], _ => rfl⟩⟩
  have F4 := fun_mk (st := sflung) l4 c4 k4
  have Dflung : Df K mg "flung" sflung ["touches"] := ⟨⟨_, _, F4, PySem.W.mg_of X G a4, F4.binds (ps := ["touches"]) fun _ _ _ _ _ _ us hl => match us, hl with | [_], _ => rfl⟩⟩
  have F5 := fun_mk (st := s_square) l5 c5 k5
  have D_square : Df K mg "_square" s_square ["difference"] := ⟨⟨_, _, F5, PySem.W.mg_of X G a5, F5.binds (ps := ["difference"]) fun _ _ _ _ _ _ us hl => match us, hl with | [_], _ => rfl⟩⟩
  have F6 := fun_mk (st := s_law_tape) l6 c6 k6
  have D_law_tape : Df K mg "_law_tape" s_law_tape ["_law_script"] := ⟨⟨_, _, F6, PySem.W.mg_of X G a6, F6.binds (ps := ["_law_script"]) fun _ _ _ _ _ _ us hl => match us, hl with | [_], _ => rfl⟩⟩
  have F7 := fun_mk (st := s_law_draw) l7 c7 k7
  have D_law_draw : Df K mg "_law_draw" s_law_draw ["_law_tape_here", "_law_many"] := ⟨⟨_, _, F7, PySem.W.mg_of X G a7, F7.binds (ps := ["_law_tape_here", "_law_many"]) fun _ _ _ _ _ _ us hl => match us, hl with | [_, _], _ => rfl⟩⟩
  have F8 := fun_mk (st := s_law_near) l8 c8 k8
  have D_law_near : Df K mg "_law_near" s_law_near ["_law_tape_here", "_law_number"] := ⟨⟨_, _, F8, PySem.W.mg_of X G a8, F8.binds (ps := ["_law_tape_here", "_law_number"]) fun _ _ _ _ _ _ us hl => match us, hl with | [_, _], _ => rfl⟩⟩
  have F9 := fun_mk (st := s_law_two) l9 c9 k9
  have D_law_two : Df K mg "_law_two" s_law_two ["_law_tape_here"] := ⟨⟨_, _, F9, PySem.W.mg_of X G a9, F9.binds (ps := ["_law_tape_here"]) fun _ _ _ _ _ _ us hl => match us, hl with | [_], _ => rfl⟩⟩
  have F10 := fun_mk (st := s_law_flung) l10 c10 k10
  have D_law_flung : Df K mg "_law_flung" s_law_flung ["_law_touches"] := ⟨⟨_, _, F10, PySem.W.mg_of X G a10, F10.binds (ps := ["_law_touches"]) fun _ _ _ _ _ _ us hl => match us, hl with | [_], _ => rfl⟩⟩
  have F11 := fun_mk (st := s_law_stroke) l11 c11 k11
  have D_law_stroke : Df K mg "_law_stroke" s_law_stroke ["_law_tape_here"] := ⟨⟨_, _, F11, PySem.W.mg_of X G a11, F11.binds (ps := ["_law_tape_here"]) fun _ _ _ _ _ _ us hl => match us, hl with | [_], _ => rfl⟩⟩
  have F12 := fun_mk (st := slaw) l12 c12 k12
  refine ⟨PySem.W.fnOf "law" "law" (defArgs slaw) (defBody slaw) (defScope slaw) .none kV12 dc12 pm12 an12 cd12 ct12, fun s v => .of_eq rfl, fun base _ _ => ?_⟩
  have Flaw := F12
  have draw := ok_draw (P := l.prog) (w := w) (base := base) D_law_draw T
  have bey := ok_beyond (P := l.prog) (w := w) (base := base) Dis_beyond T
  have sq := ok_square (P := l.prog) (w := w) (base := base) D_square T
  exact ok_law Flaw T (ok_tape D_law_tape T) draw (ok_near D_law_near T draw) (ok_two D_law_two T draw) (ok_stroke D_law_stroke T draw) bey (ok_spread Dis_spread T sq) (ok_turned Dis_turned T) (ok_flung Dflung T bey) (ok_own D_law_flung T)
theorem walk {l : PySem.W.OpenLaw} {q : Program} {loose : List Str} {XP : (Str → Option Value) → Heap → Prop} {YP : World → Heap → Prop} {d : DefRec} {K : Params → PySem.W.Frag} (hn : l.most = some 63) (hdf : d.params.defaults = [])
    (hY : ∀ (w : World) (h : Heap), YP w h → (K w.params).In h)
    (F : ∀ (w : World) (mg : Str → Option Value) (fa : Addr) (h : Heap), (K w.params).In h → h.Ns mainGlobals mg → mg d.name = some (.ref fa) →
      ∃ fd : FuncData, (∀ (s : Shared) (u : Value), BindsTo s fd ⟨[u], []⟩ [("_law_script", u)]) ∧ ∀ base : Heap, (K w.params).In base → base.Ns mainGlobals mg → FnOk l.prog w (K w.params) mg base CX0 3 fa fd ["_law_script"] (spLaw (K w.params))) :
    PySem.W.WalkO q loose XP YP l.row.toRowW d [] (fun f vs => PySem.call f vs) :=
  L2.walk_of (n := 63) (k := 3) (x := "_law_script") (CX := fun _ => CX0) (sp := fun w => spLaw (K w.params)) hn (by decide) hdf ⟨rfl, by decide, by decide⟩ hY F (fun _ _ a ns hl _ hS => ⟨a, ns, rfl, hS, hl, fun _ => rfl⟩) fun _ _ _ _ _ z => z
end SG
open PySem PySem.W PyProof.Rows
set_option maxRecDepth 100000 in
set_option maxHeartbeats 0 in
theorem PySem.Challenge.cw_strokeguess_k08_measures_holds : PySem.Challenge.rw_strokeguess_k08_measures.Holds := by
  w_on; o_law; k_head; (case hw => w_witness2)
  k_fill
  refine SG.walk (l := PySem.Challenge.rw_strokeguess_k08_measures) rfl rfl (fun w h Y => PySem.W.kIn_of Y) ?F
  case F =>
    intro w mg fa h KX G hmg
    refine' SG.all_mk KX G hmg ?a1 ?l1 ?c1 ?k1 ?a2 ?l2 ?c2 ?k2 ?a3 ?l3 ?c3 ?k3 ?a4 ?l4 ?c4 ?k4 ?a5 ?l5 ?c5 ?k5 ?a6 ?l6 ?c6 ?k6 ?a7 ?l7 ?c7 ?k7 ?a8 ?l8 ?c8 ?k8 ?a9 ?l9 ?c9 ?k9 ?a10 ?l10 ?c10 ?k10 ?a11 ?l11 ?c11 ?k11 ?a12 ?l12 ?c12 ?k12 ?zabs ?zlen ?zlist ?zmax ?zrange ?yFLING_TIME ?yFLING_SLOP
    (case a1 => k_is)
    (case l1 => k_is)
    (case c1 => k_is)
    (case k1 => k_is)
    (case a2 => k_is)
    (case l2 => k_is)
    (case c2 => k_is)
    (case k2 => k_is)
    (case a3 => k_is)
    (case l3 => k_is)
    (case c3 => k_is)
    (case k3 => k_is)
    (case a4 => k_is)
    (case l4 => k_is)
    (case c4 => k_is)
    (case k4 => k_is)
    (case a5 => k_is)
    (case l5 => k_is)
    (case c5 => k_is)
    (case k5 => k_is)
    (case a6 => k_is)
    (case l6 => k_is)
    (case c6 => k_is)
    (case k6 => k_is)
    (case a7 => k_is)
    (case l7 => k_is)
    (case c7 => k_is)
    (case k7 => k_is)
    (case a8 => k_is)
    (case l8 => k_is)
    (case c8 => k_is)
    (case k8 => k_is)
    (case a9 => k_is)
    (case l9 => k_is)
    (case c9 => k_is)
    (case k9 => k_is)
    (case a10 => k_is)
    (case l10 => k_is)
    (case c10 => k_is)
    (case k10 => k_is)
    (case a11 => k_is)
    (case l11 => k_is)
    (case c11 => k_is)
    (case k11 => k_is)
    (case a12 => k_is)
    (case l12 => k_is)
    (case c12 => k_is)
    (case k12 => k_is)
    (case zabs => k_is)
    (case zlen => k_is)
    (case zlist => k_is)
    (case zmax => k_is)
    (case zrange => k_is)
    (case yFLING_TIME => k_is)
    (case yFLING_SLOP => k_is)
