import PyProof.Rows.All
import Wide.All
import OpenK.AllK
import Wide.FinOn
import KE.RegKCallOwn
import PyProof.InstNe
import HandS.ForMost
import HandS.OwnEq
import HandS.Evl
import HandS.IsInst
import HandS.FStr
import HandS.StrMore
import HandS.Defaults
import HandS.Wide
import HandS.Style
import PySem.Challenge.RW_overtaken_k04_rules_read
import HandS.Zip
import HandS.ClsMeth
import HandS.ExcInit
import HandS.ExcInitHot
import HandS.SuiteRaise
import HandS.RaiseFrom
import HandS.HotCalls
import HandS.ExcCtx
import HandS.WordsExc
import HandS.Exc
import HandS.ExcIs
import HandS.ExcField
import KE.KRevSl
import HandS.Replace
import KE.KStateDown
import Lean
import HandS.Head0
import HandS.Head1
import HandS.Head2
import HandS.HeadEnd
import HandS.HeadHook1
import HandS.HeadHook2
import HandS.HeadHook3
import HandS.HeadHook4
import HandS.HeadNt
set_option Elab.async false
set_option linter.all false
set_option maxRecDepth 100000
set_option maxHeartbeats 0
namespace Ov
open PySem PySem.Spec PyProof.Rows L2
/-! ### object's __ne__ over an own __eq__ -/
section
variable {M : Model} {prog : Program} {w : World} {A : Around} {E : Value → Shared → Prop} {s : Shared} {K : PySem.W.Frag} {x C f : Addr} {ox : Obj} {od : Option Obj}
theorem bound_ne {rest : List Value} {Q : Option Value → Shared → Prop} (kin : K.In s.heap) (J : PySem.W.InstAt s.heap x ox C od) (hn : PySem.W.findIn K (.ref C) "__ne__" = some (some (.builtin "object.__ne__")))
    (run : wpAny M A (call (.builtin "object.__ne__") (.ref x :: rest)) (fun r => Q (some r)) E s) : wpAny M A (callSpecialIfBound? (.ref x) "__ne__" rest) Q E s := by
  simp only [callSpecialIfBound?, bindSpecialIfBound?]
  refine wpAny_holding (wpAny_bind (wpAny_bind (wpAny_bind (J.type.here ((PySem.W.looks_findIn kin hn).here ?_)))))
  refine wpAny_bind (wpAny_askSetting (wpAny_ite ?_))
  have last : wpAny M A (call (.builtin "object.__ne__") ([.ref x] ++ rest) >>= fun r => pure (some r)) Q E s := wpAny_bind (wpAny_mono run (fun r s1 h1 => wpAny_pure h1) fun _ _ h1 => h1)
  split
  · exact wpAny_bind (wpAny_of_eq (F.cmp_object.ne.bind _) (wpAny_pure (by exact last)))
  · exact wpAny_tryCatch (wpAny_bind (wpAny_of_eq (F.cmp_object.ne.bind _) (wpAny_pure (by exact last))))
theorem objNe_run {y : Addr} {Q : Fin → Shared → Prop} (hu : A.units < cLine) (kin : K.In s.heap) (J : PySem.W.InstAt s.heap x ox C od) (hs : PySem.W.findIn K (.ref C) "__eq__" = some (some (.ref f))) (hf : PySem.W.isFn K (.ref f) = true)
    (run : wpAny (model prog w) A (call (.ref f) [.ref x, .ref y]) (fun v s1 => ∃ b, v = .bool b ∧ Q (.done (.ret (.bool (!b)))) s1) E s) : wpAny (model prog w) A (Builtin.«object.__ne__» ⟨[.ref x, .ref y], []⟩) Q E s := by
  unfold Builtin.«object.__ne__»
  refine wpAny_bind (m := slotArgs "__ne__" 1 _) (wpAny_pure ?_)
  refine wpAny_bind (m := cRoomFor _ _) (wpAny_cRoomFor hu ?_)
  refine wpAny_bind (m := callSpecialIfBound? (.ref x) (Str.ofString "__eq__") _) (PySem.W.ifBound_K kin J hs hf (wpAny_mono run (fun r s1 h1 => ?_) fun _ _ z => z))
  obtain ⟨b, rfl, q⟩ := h1
  exact wpAny_bind (wpAny_truthy_bool (wpAny_pure q))
end
section
variable {X : Cx} {CX : CXT} {k : Nat} {f C : Addr} {fd : FuncData} {ps : List Str} {sp : Sp} {E : XK}
/-- a def run somewhere below the body -/
theorem run_sub {A : Around} (F : FnOk X.prog X.w X.K X.mg X.base CX k f fd ps sp) (sb : Sub X k A) (hb : Binds X.K fd ps []) (hx : Passes CX X E) {pins : List (Addr × Obj)} {σ : L2.St} {H : Hp} {s : Shared} {vs : List V} {us : List Value} {Q : VK}
    (I : Inv X pins σ H s) (r : Vals vs us) (h : sp vs H Q E) : wpAny (model X.prog X.w) A (call (.ref f) us) (EP X pins σ Q) X.xe s := by
  have e0 : Env0 X.prog X.w X.K X.mg X.base A X.stack s H := by
    have e := I.env0
    exact ⟨by rw [sb.fr]; exact e.frames, e.mod, e.bs, e.bsz, e.funs, e.frf, e.hok, e.bare⟩
  have hl : (us ++ []).length = ps.length := by rw [List.append_nil, ← r.length]; exact F.len _ _ _ _ h
  refine wpAny_call (codeAny_mono (F.run A X.stack s H ⟨us, []⟩ us vs Q E sb.room e0 (by
    have := hb s us I.kIn hl
    simpa using this) r h) fun r s' hq => ?_)
  cases r with
  | error e => exact hx pins σ H s e s' I hq
  | ok fl =>
    cases fl with
    | ret u => exact I.after hq
    | next => exact False.elim hq
    | brk => exact False.elim hq
    | cont => exact False.elim hq
theorem sub0 (hr : Room k X.A) : Sub X k X.A := ⟨hr, rfl⟩
theorem sub1 (hr : Room (k + 1) X.A) : Sub X k X.A.in1 := Sub.in1 ⟨hr, rfl⟩
theorem sub2 (hr : Room (k + 2) X.A) : Sub X k X.A.in1.in1 := Sub.in1 (Sub.in1 (n := k + 1) ⟨hr, rfl⟩)

/-- x == y of two instances of the class at C by its own __eq__ -/
def rEqI (C : Addr) (sp : Sp) (E : XK) : R2 := fun x y H Q => ∃ a b dx dy fs gs, x = .ref a ∧ y = .ref b ∧ H a = some (.ins C dx fs) ∧ H b = some (.ins C dy gs) ∧ sp [x, y] H (fun v H' => ∃ b, v = .bl b ∧ Q (.bl b) H') E
theorem op_eqI (F : FnOk X.prog X.w X.K X.mg X.base CX k f fd ps sp) (hr : Room k X.A) (hs : PySem.W.findIn X.K (.ref C) "__eq__" = some (some (.ref f))) (hf : PySem.W.isFn X.K (.ref f) = true) (hb : Binds X.K fd ps []) (hx : Passes CX X E) :
    OpR X (compareOp .Eq) (rEqI C sp E) := by
  intro pins s σ H x y v u Q I rx ry h
  obtain ⟨a, b, dx, dy, fs, gs, rfl, rfl, ha, hb', hq⟩ := h
  cases rx
  cases ry
  obtain ⟨mA, J, _⟩ := ins_get I.hok ha
  obtain ⟨mB, J', _⟩ := ins_get I.hok hb'
  obtain ⟨od, J, _⟩ := J.look
  obtain ⟨od', J', _⟩ := J'.look
  obtain ⟨m, hF⟩ := I.fr
  show wpAny (model X.prog X.w) X.A (richCompare .Eq (.ref a) (.ref b)) _ _ s
  refine PySem.W.cmp_K (op := .Eq) (tb := .ref C) hr.units0 hF I.ok.mod.kin J J'.type (by simp [PySem.W.notFirst]) hs hf ?_
  refine wpAny_mono (run_sub F (sub0 hr) hb hx I (vs := [.ref a, .ref b]) (us := [.ref a, .ref b]) (.cons rfl (.cons rfl .nil)) hq) (fun v s' hv => ?_) fun _ _ z => z
  obtain ⟨z, H', I', rz, c, rfl, q⟩ := hv
  cases rz
  exact ⟨.bl c, H', I', rfl, q⟩

/-- str(x) by the class's own __str__ -/
def rStrI (C : Addr) (sp : Sp) (E : XK) : List V → Hp → VK → Prop := fun xs H Q => ∃ a dx fs, xs = [.ref a] ∧ H a = some (.ins C dx fs) ∧ sp [.ref a] H (fun v H' => ∃ z, v = .str z ∧ Q (.str z) H') E
theorem call_strI (F : FnOk X.prog X.w X.K X.mg X.base CX k f fd ps sp) (hr : Room (k + 2) X.A) (hs : PySem.W.findIn X.K (.ref C) "__str__" = some (some (.ref f))) (hf : PySem.W.isFn X.K (.ref f) = true) (hb : Binds X.K fd ps []) (hx : Passes CX X E) :
    CallR X (.type "str") (rStrI C sp E) := by
  intro pins s σ H xs us Q I r h
  obtain ⟨a, dx, fs, rfl, ha, hq⟩ := h
  obtain ⟨u, rfl, rx⟩ := vals1 r
  cases rx
  obtain ⟨mA, J, _⟩ := ins_get I.hok ha
  obtain ⟨od, J, _⟩ := J.look
  refine PySem.W.kso_call (sub2 hr).room.units0 I.kIn J hs hf ?_
  refine wpAny_mono (run_sub F (sub2 hr) hb hx I (vs := [.ref a]) (us := [.ref a]) (.cons rfl .nil) hq) (fun v s' hv => ?_) fun _ _ z => z
  obtain ⟨z, H', I', rz, c, rfl, q⟩ := hv
  obtain ⟨t, rfl⟩ := rz
  exact ⟨.str c, H', I', ⟨t, rfl⟩, q⟩
/-- x != y of two instances of the class at C, by its own __eq__ and object's __ne__ -/
def rNeI (C : Addr) (sp : Sp) (E : XK) : R2 := fun x y H Q => ∃ a b dx dy fs gs, x = .ref a ∧ y = .ref b ∧ H a = some (.ins C dx fs) ∧ H b = some (.ins C dy gs) ∧ sp [x, y] H (fun v H' => ∃ b, v = .bl b ∧ Q (.bl (!b)) H') E
theorem op_neI (F0 : FnOk X.prog X.w X.K X.mg X.base CX k f fd ps sp) (hr : Room (k + 1) X.A) (hs : PySem.W.findIn X.K (.ref C) "__eq__" = some (some (.ref f))) (hn : PySem.W.findIn X.K (.ref C) "__ne__" = some (some (.builtin "object.__ne__")))
    (hm : PySem.W.mroIn X.K C (.type "object") = some true) (hf : PySem.W.isFn X.K (.ref f) = true) (hb : Binds X.K fd ps []) (hx : Passes CX X E) :
    OpR X (compareOp .NotEq) (rNeI C sp E) := by
  intro pins s σ H x y v u Q I rx ry h
  obtain ⟨a, b, dx, dy, fs, gs, rfl, rfl, ha, hb', hq⟩ := h
  cases rx
  cases ry
  obtain ⟨mA, J, _⟩ := ins_get I.hok ha
  obtain ⟨mB, J', _⟩ := ins_get I.hok hb'
  obtain ⟨od, J, _⟩ := J.look
  obtain ⟨od', J', _⟩ := J'.look
  obtain ⟨m, hF⟩ := I.fr
  have hu := hr.units
  show wpAny (model X.prog X.w) X.A (richCompare .NotEq (.ref a) (.ref b)) _ _ s
  unfold richCompare
  simp only [oneThing_ref]
  refine wpAny_holding (wpAny_bind (wpAny_cRoomFor hr.units0 ?_))
  rw [cmpInfo_NotEq]
  dsimp only
  refine wpAny_bind (J.type.here (wpAny_bind (J'.type.here ?_)))
  rw [show (Value.ref C != Value.ref C) = false from by simp]
  simp only [Bool.false_eq_true, if_false]
  refine wpAny_bind (wpAny_pure ?_)
  simp only [Bool.false_eq_true, if_false]
  simp only [tryCompare]
  refine wpAny_bind (wpAny_bind (bound_ne I.kIn J hn (wpAny_call (codeAny_call_builtin F.cmp_object.ne.plain F.cmpEntry_ne (PySem.W.check_slot F.cmpKind_ne F.cmpSplit_ne (J.type.andThen (PySem.W.looks_mroIn I.kIn hm)) (F.cmpArgs_ne _ _) ?_)))))
  refine objNe_run (by show X.A.units + 1 < cLine; omega) I.kIn J hs hf (wpAny_mono (run_sub F0 (sub1 hr) hb hx I (vs := [.ref a, .ref b]) (us := [.ref a, .ref b]) (.cons rfl (.cons rfl .nil)) hq) (fun v s' hv => ?_) fun _ _ z => z)
  obtain ⟨z, H', I', rz, c, rfl, q⟩ := hv
  cases rz
  exact ⟨c, rfl, wpAny_pure (wpAny_pure ⟨.bl (!c), H', I', rfl, q⟩)⟩
/-- x[i] of an instance of the class at C, by its own __getitem__ -/
def rIxI (C : Addr) (sp : Sp) (E : XK) : R2 := fun x y H Q => ∃ a dx fs, x = .ref a ∧ H a = some (.ins C dx fs) ∧ sp [x, y] H Q E
theorem pe_ixI {e i : Expr} {pos : Pos} {ta tb : TE} (F0 : FnOk X.prog X.w X.K X.mg X.base CX k f fd ps sp) (hr : Room (k + 1) X.A) (hs : PySem.W.findIn X.K (.ref C) "__getitem__" = some (some (.ref f))) (hfn : PySem.W.fnIn X.K f = true) (hf : PySem.W.isFn X.K (.ref f) = true)
    (hb : Binds X.K fd ps []) (hx : Passes CX X E) (he : PE X e ta) (hi : PE X i tb) (hsl : ∀ (a : Addr) (v : Value), subscripted i true (.ref a) v = runValue (.builtin "lifetime.subscript" ⟨[.ref a, v], []⟩) := by intro _ _; with_unfolding_all rfl) :
    PE X (.Subscript e i pos) (tOp (rIxI C sp E) ta tb) := by
  refine ⟨fun pins s σ H Q I h => ?_⟩
  refine Subscript_ (binT he hi I h fun v u s2 x y H2 I2 rx ry q => ?_)
  obtain ⟨a, dx, fs, rfl, ha, hq⟩ := q
  cases rx
  obtain ⟨mA, J, _⟩ := ins_get I2.hok ha
  obtain ⟨od, J, _⟩ := J.look
  obtain ⟨m, hF⟩ := I2.fr
  exact PySem.W.sub_K hF I2.ok.mod.kin J hs hfn hf (run_sub F0 (sub1 hr) hb hx I2 (vs := [.ref a, y]) (us := [.ref a, u]) (.cons rfl (.cons ry .nil)) hq) (hsl a u)
end
/-! ### what is walked is a list or a tuple -/
section
variable {X : Cx}
theorem pi_alt {tg it : Expr} {w1 w2 : TI} (h1 : PI X tg it w1) (h2 : PI X tg it w2) : PI X tg it (fun σ H R => w1 σ H R ∨ w2 σ H R) :=
  ⟨fun pins s σ H R I h => h.elim (h1.run pins s σ H R I) (h2.run pins s σ H R I)⟩
def iBoth (K : PySem.W.Frag) (te : TE) : TI := fun σ H R => iList K te σ H R ∨ iTup K te σ H R
theorem pi_both {tg e : Expr} {te : TE} (he : PE X e te) : PI X tg e (iBoth X.K te) := pi_alt (pi_list he) (pi_tup he)
end
section
open Evl
variable {K : PySem.W.Frag} {σ : L2.St} {H : Hp} {te tl : TE} {D : Ends}
theorem given_all (n : Nat) (v : Nat → V) : given n (fun _ => true) v = (List.range n).map v := by
  unfold given
  rw [List.filter_eq_self.mpr fun _ _ => rfl]
theorem et_yes : EvT tYes σ H true := fun H1 _ _ q => q H1 (Ex.refl H1)
theorem el_lcT {a : Addr} {xs : List V} {j : Nat} {vs : List Nat} (v : Nat → V) (h : Ev tl σ H (.ref a)) (hx : SqT K H a xs) (hz : xs.length ≤ 40000) (hw : ∀ x, wipe ((wipe σ vs).set j (some x)) vs = wipe σ vs)
    (he : ∀ (i : Nat) (x : V) H1, Ex H H1 → xs[i]? = some x → Ev te ((wipe σ vs).set j (some x)) H1 (v i)) : EvL (tLc (iTup K tl) (gName j) tYes te vs) σ H ((List.range xs.length).map v) := fun H0 e Q q => h H0 e _ fun H1 e1 => ⟨a, rfl, ⟨xs, ex_t (e.trans e1) hx⟩, fun L hL =>
  lc_tup (xs := xs) (Cw H1 (fun _ => true) v L) ⟨hL, Ex.new hL, upd_same⟩ (fun i H' _ p => ex_t ((e.trans e1).trans p.2.1) hx)
    (fun i x H' hi p => ⟨hw x, cw_turn p (by have := (List.getElem?_eq_some_iff.mp hi).1; omega) et_yes (fun _ => he i x H1 (e.trans e1) hi)⟩)
    (fun H' p => q L H' (fresh_back e1 p.1) (e1.trans p.2.1) (by rw [← given_all]; exact p.2.2))⟩
theorem el_lcB {a : Addr} {xs : List V} {j : Nat} {vs : List Nat} (v : Nat → V) (h : Ev tl σ H (.ref a)) (hx : SqL K H a xs ∨ SqT K H a xs) (hz : xs.length ≤ 40000) (hw : ∀ x, wipe ((wipe σ vs).set j (some x)) vs = wipe σ vs)
    (he : ∀ (i : Nat) (x : V) H1, Ex H H1 → xs[i]? = some x → Ev te ((wipe σ vs).set j (some x)) H1 (v i)) : EvL (tLc (iBoth K tl) (gName j) tYes te vs) σ H ((List.range xs.length).map v) := fun H0 e Q q => by
  rcases hx with hx | hx
  · refine .inl (el_lcL (f := fun _ => true) (v := v) h hx hz hw (fun _ _ _ _ _ => et_yes) (fun i x H1 e1 hi _ => he i x H1 e1 hi) H0 e Q fun p H2 h1 h2 h3 => q p H2 h1 h2 ?_)
    rw [given_all] at h3
    exact h3
  · exact .inr (el_lcT v h hx hz hw he H0 e Q q)
theorem range_map {α : Type} (xs : List V) (g : V → α) (v : Nat → α) (h : ∀ i x, xs[i]? = some x → v i = g x) : (List.range xs.length).map v = xs.map g := by
  refine List.ext_getElem? fun i => ?_
  rw [List.getElem?_map, List.getElem?_map]
  by_cases hi : i < xs.length
  · rw [List.getElem?_range hi, List.getElem?_eq_getElem hi]
    exact congrArg some (h i _ (List.getElem?_eq_getElem hi))
  · rw [List.getElem?_eq_none (by rw [List.length_range]; omega), List.getElem?_eq_none (by omega)]
    rfl
end
section
open Evl
variable {P : Program} {w : World} {K : PySem.W.Frag} {mg : Str → Option Value} {base : Heap} {σ : L2.St} {H : Hp} {te : TE}
/-- a def with defaults that raises nothing -/
theorem FunD_ok0 {x qual : Str} {params : Arguments} {body : List Stmt} {scope : Scope} {dvs : List V} {kws : List (Str × V)} {f : Addr} {fd : FuncData} {N ps : List Str} {k : Nat} {sp : Sp} (F : FunD K x qual params body scope dvs kws f fd) (S : FnScope N ps scope)
    (len : ∀ vs H Q E, sp vs H Q E → vs.length = ps.length)
    (hbody : ∀ (cdv : Value) (A : Around) (outer : List Env) (s : Shared) (H : Hp) (vs : List V) (Q : VK) (E : XK), Room k (A.deeper (envOfC qual scope s.heap.objs.size f cdv)) → sp vs H Q E →
      ∃ t, PSs (cxOf CX0 P w K mg base N qual scope f cdv A outer s H E).nox body t ∧ t { nx := fun _ H' => Q .non H', rt := Q } (start N vs) H) : FnOk P w K mg base CX0 (k + 1) f fd ps sp :=
  F.ok S len fun cdv A outer s H vs Q E hr hsp => by
    obtain ⟨t, h, q⟩ := hbody cdv A outer s H vs Q E hr hsp
    exact ⟨t, h.nox, q⟩
theorem ev_all {bs : List Bool} (h : EvL te σ H (bs.map V.bl)) : Ev (tCB (rAll K) (tCons te tNil)) σ H (.bl (bs.all id)) := fun H1 e _ q =>
  h H1 e _ fun p H2 _ e2 hp => ⟨p, bs, rfl, sq_of hp, q H2 e2⟩
/-- a promise of one value, as an evaluation -/
theorem ev_call {sp : Sp} {ta : TA} {vs : List V} {v : V} (ha : EvA ta σ H vs) (h : ∀ H1, Ex H H1 → ∀ Q : VK, (∀ H2, Ex H1 H2 → Q v H2) → sp vs H1 Q E0) : Ev (tCall sp [] E0 ta) σ H v := fun H1 e Q q =>
  ha H1 e _ fun H2 e2 => by
    rw [List.append_nil]
    exact h H2 (e.trans e2) Q fun H3 e3 => q H3 (e2.trans e3)
theorem all_true (n : Nat) : (List.replicate n true).all id = true := by
  rw [List.all_eq_true]
  intro x hx
  exact (List.mem_replicate.mp hx).2
theorem range_true (n : Nat) : (List.range n).map (fun _ => V.bl true) = (List.replicate n true).map V.bl := by
  rw [List.map_const', List.length_range, List.map_replicate]
end
/-- tuple(x) of a list or a tuple: some tuple of the same items -/
def rTupAny (K : PySem.W.Frag) : List V → Hp → VK → Prop := fun xs H Q => ∃ p ys, xs = [.ref p] ∧ (SqL K H p ys ∨ SqT K H p ys) ∧ ∀ a H', Evl.Ex H H' → SqT K H' a ys → Q (.ref a) H'
theorem call_tuple_any {X : Cx} : CallR X (.type "tuple") (rTupAny X.K) := fun pins s σ H xs us Q I r h => by
  obtain ⟨p, ys, e, h1, h2⟩ := h
  refine call_tuple_of pins s σ H xs us Q I r ⟨p, ys, e, ?_⟩
  rcases h1 with h1 | h1
  · exact .inl ⟨h1, fun l hl => h2 l _ (Evl.Ex.new hl) (Evl.st_of upd_same)⟩
  · exact .inr ⟨h1, h2 p H (Evl.Ex.refl H) h1⟩
/-! ### tuples of texts compared -/
section
open Evl
theorem dp_strs {K : PySem.W.Frag} {H : Hp} : ∀ l : List Str, DpAll K H (l.map V.str) (l.map PyData.str)
  | [] => .nil
  | n :: r => .cons (.str n) (dp_strs r)
/-- texts of plain signs -/
def Plain (l : List Str) : Prop := ∀ x ∈ l, PyData.canLay0 (.str x) = true
theorem canLay_strs : ∀ l : List Str, Plain l → PyData.canLayAll0 (l.map PyData.str) = true
  | [], _ => rfl
  | n :: r, h => by
    show (PyData.canLay0 (.str n) && PyData.canLayAll0 (r.map PyData.str)) = true
    rw [canLay_strs r fun x hx => h x (List.mem_cons_of_mem _ hx), h n (List.mem_cons_self ..)]
    rfl
theorem depth_strs : ∀ l : List Str, PyData.depthAll (l.map PyData.str) = 0
  | [] => rfl
  | n :: r => by
    show max (PyData.depth (.str n)) (PyData.depthAll (r.map PyData.str)) = 0
    rw [depth_strs r]
    rfl
theorem shaped_strsT (l : List Str) (ok : Plain l) : SeqAt.shaped (.tuple (l.map PyData.str)) = true := by
  show (PyData.canLay0 (.tuple (l.map PyData.str)) && decide ((PyData.tuple (l.map PyData.str)).depth ≤ 64)) = true
  have h1 : PyData.canLay0 (.tuple (l.map PyData.str)) = true := canLay_strs l ok
  have h2 : (PyData.tuple (l.map PyData.str)).depth = 0 + 1 := by
    show PyData.depthAll (l.map PyData.str) + 1 = 0 + 1
    rw [depth_strs]
  rw [h1, h2]
  rfl
theorem shaped_strsL (l : List Str) (ok : Plain l) : SeqAt.shaped (.list (l.map PyData.str)) = true := by
  show (PyData.canLay0 (.list (l.map PyData.str)) && decide ((PyData.list (l.map PyData.str)).depth ≤ 64)) = true
  have h1 : PyData.canLay0 (.list (l.map PyData.str)) = true := canLay_strs l ok
  have h2 : (PyData.list (l.map PyData.str)).depth = 0 + 1 := by
    show PyData.depthAll (l.map PyData.str) + 1 = 0 + 1
    rw [depth_strs]
  rw [h1, h2]
  rfl
theorem eqvAll_strs : ∀ l m : List Str, PyData.eqvAll (l.map PyData.str) (m.map PyData.str) = decide (l = m)
  | [], [] => rfl
  | [], _ :: _ => rfl
  | _ :: _, [] => rfl
  | x :: l, y :: m => by
    show (x == y && PyData.eqvAll (l.map PyData.str) (m.map PyData.str)) = decide (x :: l = y :: m)
    rw [eqvAll_strs l m]
    by_cases h : x = y
    · subst h
      by_cases h2 : l = m
      · subst h2
        simp
      · simp [h2]
    · simp [h]
theorem eqv_strsT (l m : List Str) : PyData.eqv (.tuple (l.map PyData.str)) (.tuple (m.map PyData.str)) = decide (l = m) := eqvAll_strs l m
theorem eqv_strsL (l m : List Str) : PyData.eqv (.list (l.map PyData.str)) (.list (m.map PyData.str)) = decide (l = m) := eqvAll_strs l m
theorem rv_eqT {K : PySem.W.Frag} {H : Hp} {a b : Addr} {l m : List Str} (ol : Plain l) (om : Plain m) (ha : SqT K H a (l.map V.str)) (hb : SqT K H b (m.map V.str)) : RV (rEqD K) (.ref a) (.ref b) H (.bl (decide (l = m))) := fun H1 e _ q =>
  ⟨_, _, .tup (ex_t e ha) (dp_strs l), .tup (ex_t e hb) (dp_strs m), shaped_strsT l ol, shaped_strsT m om, by rw [eqv_strsT]; exact q H1 (Ex.refl H1)⟩
theorem rv_neT {K : PySem.W.Frag} {H : Hp} {a b : Addr} {l m : List Str} (ol : Plain l) (om : Plain m) (ha : SqT K H a (l.map V.str)) (hb : SqT K H b (m.map V.str)) : RV (rNeD K) (.ref a) (.ref b) H (.bl (!decide (l = m))) := fun H1 e _ q =>
  ⟨_, _, .tup (ex_t e ha) (dp_strs l), .tup (ex_t e hb) (dp_strs m), shaped_strsT l ol, shaped_strsT m om, by rw [eqv_strsT]; exact q H1 (Ex.refl H1)⟩
theorem ev_fld {K : PySem.W.Frag} {σ : L2.St} {H : Hp} {ta : TE} {a C dx : Addr} {fs : List (Str × V)} {f : Str} {v : V} (ha : Ev ta σ H (.ref a)) (ho : H a = some (.ins C dx fs)) (hc : Cls K C) (hn : NoAttr K C f) (hl : fs.lookup f = some v) :
    Ev (tFld K ta f) σ H v := fun H1 e _ q => ha H1 e _ fun H2 e2 => ⟨a, C, dx, fs, v, rfl, e2 _ _ (e _ _ ho), hc, hn, hl, q H2 e2⟩
theorem ev_isi {K : PySem.W.Frag} {σ : L2.St} {H : Hp} {ta : TA} {x c : V} {t u : Value} {b : Bool} (h : EvA ta σ H [x, c]) (k : ClsV c u) (ty : ∀ H1, Ex H H1 → TyX K H1 x t) (e : PySem.W.kitOne K t u = some b) : Ev (tCB (rIsi K) ta) σ H (.bl b) := fun H1 e1 _ q =>
  h H1 e1 _ fun H2 e2 => ⟨x, c, t, u, b, rfl, k, ty H2 (e1.trans e2), e, q H2 e2⟩
end
section
open Evl
variable {K : PySem.W.Frag} {σ : L2.St} {H : Hp} {ta tb to te : TE}
theorem ev_adds {x y : Str} (ha : Ev ta σ H (.str x)) (hb : Ev tb σ H (.str y)) (hz : x.length + y.length ≤ sizeLine) : Ev (tOp (fun x y H Q => ∃ i j, x = V.str i ∧ y = V.str j ∧ i.length + j.length ≤ sizeLine ∧ Q (V.str (i ++ j)) H) ta tb) σ H (.str (x ++ y)) :=
  ev_op ha hb fun H1 _ _ q => ⟨x, y, rfl, rfl, hz, q H1 (Ex.refl H1)⟩
theorem ev_join {x : Str} {a : Addr} {l : List Str} (ho : Ev to σ H (.str x)) (he : Ev te σ H (.ref a)) (hl : SqL K H a (l.map V.str) ∨ SqT K H a (l.map V.str)) (hz : (l.map (·.length)).sum + l.length * x.length ≤ 16777216) :
    Ev (tM1 (fun x xs H Q => ∃ a p, ∃ ys : List Str, x = .str a ∧ xs = [.ref p] ∧ (SqL K H p (ys.map V.str) ∨ SqT K H p (ys.map V.str)) ∧ (ys.map (·.length)).sum + ys.length * a.length ≤ 16777216 ∧ Q (.str (Txt.join a ys)) H) to te) σ H (.str (Str.join x l)) := fun H1 e Q q => by
  refine ho H1 e _ fun H2 e2 => ⟨⟨x, rfl⟩, he H2 (e.trans e2) _ fun H3 e3 => ⟨x, a, l, rfl, rfl, hl.imp (ex_l ((e.trans e2).trans e3)) (ex_t ((e.trans e2).trans e3)), hz, ?_⟩⟩
  rw [TL.join_eq]
  exact q H3 (e2.trans e3)
theorem ev_ixT {p : Addr} {xs : List V} {j : Nat} {v : V} (ha : Ev ta σ H (.ref p)) (hb : Ev tb σ H (.int (j : Int))) (hx : SqT K H p xs) (hj : xs[j]? = some v) : Ev (tOp (rIxT K) ta tb) σ H v := ev_op ha hb (rv_ixT hx (atI_nat hj))
end
/-! ### sorted of a list or a tuple of texts -/
section
variable {X : Cx}
def rSortedB (K : PySem.W.Frag) : List V → Hp → VK → Prop := fun vs H Q => ∃ (a : Addr) (xs : List Str), vs = [V.ref a] ∧ (SqL K H a (xs.map V.str) ∨ SqT K H a (xs.map V.str)) ∧ xs.length < 64 ∧ ∀ (ys : List Str) (p : Addr), ys.Perm xs → sortedS ys = true → H p = none → Q (.ref p) (upd H p (.lst (ys.map V.str)))
theorem cr_sortedB : CallR X (.builtin "sorted") (rSortedB X.K) := by
  intro pins s σ H vs us Q I r h
  obtain ⟨a, xs, rfl, hs, h64, q⟩ := h
  rw [Vals.ref1 r]
  obtain ⟨its, T, o, n, rv, hT, ho, hc, hd⟩ : ∃ (its : List Value) (T : String) (o : Obj) (n : Nat), Vals (xs.map V.str) its ∧ (T = "list" ∨ T = "tuple") ∧ s.heap.get? a = some o ∧ o.cls = .type T ∧ o.data = .seq its.toArray n := by
    rcases hs with hs | hs
    · obtain ⟨its, r', pl, _⟩ := I.list hs
      obtain ⟨o, ho, hc, n, hd⟩ := pl.isList
      exact ⟨its, "list", o, n, r', .inl rfl, ho, hc, hd⟩
    · obtain ⟨its, r', ⟨o, ho, hc, n, hd⟩, _⟩ := I.tuple hs
      exact ⟨its, "tuple", o, n, r', .inr rfl, ho, hc, hd⟩
  have hl : its.length = xs.length := by
    have := rv.length
    rw [List.length_map] at this
    exact this.symm
  have hS := rv.strs
  refine Calls.call_function_entry PyProof.Rows.kind_sorted PyProof.Rows.plain_sorted PyProof.Rows.entry_sorted (PyProof.Rows.args_sorted1 _) ?_
  unfold Builtin.«sorted»
  refine wpAny_bind (m := checkCount "sorted" 1 1 _) (wpAny_pure ?_)
  refine wpAny_bind (wpAny_collect_seq a hT ho hc hd (fun h' hk => ?_) (by rw [List.size_toArray, hl, sizeLine_eq]; omega))
  have I1 : Inv X pins σ H { s with heap := h' } := I.kept (t' := s.toks) hk
  show wpAny _ _ _ _ _ { s with heap := h' }
  have eT : its.toArray.toList = its := by simp
  rw [eT]
  refine wpAny_bind (wpAny_newList ?_ (by rw [hl, sizeLine_eq]; omega))
  have hoL : (h'.push (seqObj "list" its.toArray 0)).get? h'.objs.size = some (seqObj "list" its.toArray 0) := Heap.get?_push_size _ rfl
  show wpAny _ _ _ _ _ { s with heap := h'.push (seqObj "list" its.toArray 0) }
  refine wpAny_bind (wpAny_holding (wpAny_call_entry PyProof.Rows.slot_list_sort ⟨_, hoL, rfl⟩ PyProof.Rows.entry_list_sort
    (list_sort_treeK strKind_oneLt (s := { s with heap := h'.push (seqObj "list" its.toArray 0) }) hoL hS.keysOf (fun v₁ v₂ rest e => keyKind_strs (by rw [← e]; exact hS)) (by rw [hl]; exact h64) fun st' hp hs => ⟨_, rfl, ?_⟩)
    (PyProof.Rows.args_list_sort _)))
  obtain ⟨ys, g1, g2, g3⟩ := sorted_out_str hS hp hs
  obtain ⟨e', he'⟩ := PyProof.Rows.sortedHeap_at (vs := its) (out := (arrOf st').map (·.2)) hoL
  have hlen : (ys.map V.str).length ≤ sizeLine := by
    rw [List.length_map, g2.length_eq]
    exact Nat.le_trans (Nat.le_of_lt h64) (by decide)
  refine wpAny_pure ⟨_, rfl, .ref h'.objs.size, upd H h'.objs.size (.lst (ys.map V.str)), I1.laid (t' := s.toks) (fun b u e => ?_) (Nat.le_refl _)
    (show ObjOk X.prog X.w _ _ _ (.lst (ys.map V.str)) from ⟨hlen, ((arrOf st').map (·.2)).toList, e', vals_of_strs g1, by rw [Array.toArray_toList]; exact he'⟩), rfl, q ys _ g2 g3 (I1.hok.fresh (Nat.le_refl _))⟩
  have hb : b < h'.objs.size := Heap.lt_size e
  rw [PyProof.Rows.sortedHeap_old (Nat.ne_of_lt hb) (by rw [size_push']; exact Nat.lt_succ_of_lt hb)]
  exact Heap.get?_push_of_some _ e
end
end Ov

namespace Ov
open PySem PySem.Spec PyProof.Rows L2
open Evl (pss_cut tCut)

/-! ### the text by places -/
def topS (i : Nat) : Stmt := PySem.Challenge.pw_overtaken_k04_rules_read.main.body.getD i (.Pass ⟨0, 0, 0, 0⟩)
abbrev sDeal : Stmt := topS 20
theorem scDeal : FnScope ["_law_script", "_law_base", "_law_cell", "_law_cells", "_law_mixed_here"] ["_law_script", "_law_base"] (defScope sDeal) := ⟨rfl, rfl, rfl, by decide +kernel, rfl, by decide +kernel, by decide +kernel⟩
abbrev sDraw : Stmt := topS 21
theorem scDraw : FnScope ["_law_deal_here", "_law_many", "_law_left"] ["_law_deal_here", "_law_many"] (defScope sDraw) := ⟨rfl, rfl, rfl, by decide +kernel, rfl, by decide +kernel, by decide +kernel⟩

/-! ### heaps: all but two places stays -/
def Kp (a b : Addr) (H H' : Hp) : Prop := ∀ x o, x ≠ a → x ≠ b → H x = some o → H' x = some o
theorem Kp.refl (a b : Addr) (H : Hp) : Kp a b H H := fun _ _ _ _ h => h
theorem Kp.trans {a b : Addr} {H H1 H2 : Hp} (x : Kp a b H H1) (y : Kp a b H1 H2) : Kp a b H H2 := fun c o h1 h2 h => y c o h1 h2 (x c o h1 h2 h)
theorem Kp.at_a {a b : Addr} {H : Hp} {o : HO} : Kp a b H (upd H a o) := fun c u h1 _ h => by rw [upd_ne h1]; exact h
theorem Kp.at_b {a b : Addr} {H : Hp} {o : HO} : Kp a b H (upd H b o) := fun c u _ h2 h => by rw [upd_ne h2]; exact h
theorem Kp.new {a b : Addr} {H : Hp} {p : Addr} {o : HO} (h : H p = none) : Kp a b H (upd H p o) := fun c u _ _ e => by rw [upd_ne (ne_of_none e h)]; exact e
theorem Kp.same {a b : Addr} {H H' : Hp} (h : Same H H') : Kp a b H H' := fun c u _ _ e => h c u e

/-! ### a deal: its great cells, its mixed number -/
structure Deal (H : Hp) (a b : Addr) : Prop where
  ex : ∃ (ns : List Int) (m : Int), H a = some (.lst [.ref b, .int m]) ∧ H b = some (.lst (ns.map V.int)) ∧ ns.length ≤ 63 ∧ 0 ≤ m ∧ m < 2147483647
theorem Deal.ne {H : Hp} {a b : Addr} (D : Deal H a b) : a ≠ b := by
  obtain ⟨ns, m, h1, h2, _⟩ := D.ex
  refine ne_of h1 h2 fun z => ?_
  cases ns with
  | nil => cases z
  | cons n r => cases z
theorem Deal.is {H : Hp} {a b : Addr} (D : Deal H a b) : (H a ≠ none) ∧ (H b ≠ none) := by
  obtain ⟨ns, m, h1, h2, _⟩ := D.ex
  exact ⟨by rw [h1]; exact fun z => (by cases z), by rw [h2]; exact fun z => (by cases z)⟩
theorem Deal.nea {H : Hp} {a b p : Addr} (D : Deal H a b) (h : H p = none) : p ≠ a := fun z => D.is.1 (by rw [← z]; exact h)
theorem Deal.neb {H : Hp} {a b p : Addr} (D : Deal H a b) (h : H p = none) : p ≠ b := fun z => D.is.2 (by rw [← z]; exact h)
theorem Deal.new {H : Hp} {a b p : Addr} {o : HO} (D : Deal H a b) (h : H p = none) : Deal (upd H p o) a b := by
  have na := D.nea h
  have nb := D.neb h
  obtain ⟨ns, m, h1, h2, r⟩ := D.ex
  exact ⟨ns, m, by rw [upd_ne na.symm]; exact h1, by rw [upd_ne nb.symm]; exact h2, r⟩
theorem Deal.keep {H H' : Hp} {a b : Addr} (D : Deal H a b) (s : Same H H') : Deal H' a b := by
  obtain ⟨ns, m, h1, h2, r⟩ := D.ex
  exact ⟨ns, m, s _ _ h1, s _ _ h2, r⟩
/-- a new object behind a drawing is new before it -/
theorem Kp.none {H H' : Hp} {a b p : Addr} (k : Kp a b H H') (D : Deal H' a b) (h : H' p = none) : H p = none := by
  cases e : H p with
  | none => rfl
  | some o =>
    have q := k p o (D.nea h) (D.neb h) e
    rw [h] at q
    cases q

theorem same_upd {H : Hp} {p : Addr} {o : HO} (h : H p = none) : Same H (upd H p o) := fun b x e => by
  rw [upd_ne (ne_of_none e h)]
  exact e
/-- a place that wasn't tracked may be written again -/
theorem _root_.L2.Same.put {H H' : Hp} {p : Addr} {o : HO} (s : Same H H') (h : H p = none) : Same H (upd H' p o) := fun b x e => by
  rw [upd_ne (ne_of_none e h)]
  exact s b x e
theorem get_ints {ns : List Int} {i : Nat} {x : V} (h : (ns.map V.int)[i]? = some x) : ∃ n, x = .int n := by
  rw [List.getElem?_map] at h
  cases e : ns[i]? with
  | none =>
    rw [e] at h
    cases h
  | some n =>
    rw [e] at h
    exact ⟨n, (Option.some.inj h).symm⟩
theorem cut_ints (ns : List Int) (lo hi : Option Int) : ∃ cs : List Int, cutV (ns.map V.int) lo hi = cs.map V.int ∧ cs.length ≤ ns.length := by
  refine ⟨(ns.drop (HT.sIx ns.length 0 lo)).take (HT.sIx ns.length ns.length hi - HT.sIx ns.length 0 lo), ?_, ?_⟩
  · unfold cutV
    rw [List.length_map, ← List.map_drop, ← List.map_take]
  · rw [List.length_take, List.length_drop]
    omega
theorem fmod_lt {x k : Int} (h : 0 < k) : 0 ≤ x.fmod k ∧ x.fmod k < k := by
  rw [Int.fmod_eq_emod_of_nonneg x (Int.le_of_lt h)]
  exact ⟨Int.emod_nonneg x (by omega), Int.emod_lt_of_pos x h⟩

def spDraw : Sp := fun vs H Q _ => ∃ (a b : Addr) (k : Int), vs = [.ref a, .int k] ∧ Deal H a b ∧ 0 < k ∧ k < 1000000 ∧
  ∀ r H', 0 ≤ r → r < k → Kp a b H H' → Deal H' a b → Q (.int r) H'

section
variable {P : Program} {w : World} {K : PySem.W.Frag} {mg : Str → Option Value} {base : Heap}
theorem dp_ints {K : PySem.W.Frag} {H : Hp} : ∀ ns : List Int, DpAll K H (ns.map V.int) (ns.map PyData.int)
  | [] => .nil
  | n :: r => .cons (.int n) (dp_ints r)
theorem canLay_ints : ∀ ns : List Int, PyData.canLayAll0 (ns.map PyData.int) = true
  | [] => rfl
  | n :: r => by
    show (PyData.canLay0 (.int n) && PyData.canLayAll0 (r.map PyData.int)) = true
    rw [canLay_ints r]
    rfl
theorem depth_ints : ∀ ns : List Int, PyData.depthAll (ns.map PyData.int) = 0
  | [] => rfl
  | n :: r => by
    show max (PyData.depth (.int n)) (PyData.depthAll (r.map PyData.int)) = 0
    rw [depth_ints r]
    rfl
theorem shaped_ints (ns : List Int) : SeqAt.shaped (.list (ns.map PyData.int)) = true := by
  show (PyData.canLay0 (.list (ns.map PyData.int)) && decide ((PyData.list (ns.map PyData.int)).depth ≤ 64)) = true
  have h1 : PyData.canLay0 (.list (ns.map PyData.int)) = true := canLay_ints ns
  have h2 : (PyData.list (ns.map PyData.int)).depth = 0 + 1 := by
    show PyData.depthAll (ns.map PyData.int) + 1 = 0 + 1
    rw [depth_ints]
  rw [h1, h2]
  rfl
theorem eqv_nil (ns : List Int) : PyData.eqv (.list (ns.map PyData.int)) (.list []) = ns.isEmpty := by
  cases ns with
  | nil => rfl
  | cons n r => rfl
theorem atI_lastInt (ns : List Int) (n : Int) : atI ((ns ++ [n]).map V.int) (-1) = some (.int n) := by
  rw [List.map_append]
  exact atI_last _ _
theorem ok_draw {f : Addr} {fd : FuncData} (F : Fun K "_law_draw" "_law_draw" sDraw f fd) (nInt : mg "int" = none) : FnOk P w K mg base CX0 1 f fd ["_law_deal_here", "_law_many"] spDraw := by
  refine F.ok scDraw (fun vs H Q E h => ?_) (fun cdv A outer s H vs Q E hr h => ?_)
  · obtain ⟨a, b, k, rfl, _⟩ := h
    rfl
  · obtain ⟨a, b, k, rfl, D, k0, k1, q⟩ := h
    refine ⟨_, pss_cut (ps_while PassesOwn.never (PW.pt (pw_and (pt_cmpR (op_neD hr.units) (pe_ix ix_list (pv 0) pe_int (fun _ _ => rfl)) (pe_lst pa_nil) (nomark _)) (pw_and1 (pt_cmpR op_eq (pe_ix ix_list (pe_ix ix_list (pv 0) pe_int (fun _ _ => rfl)) (pe_un un_neg pe_int) (fun _ _ => rfl)) pe_int (nomark _))))) (pss_one (ps_expr (pe_bm0 PySem.F.plainAttrs_list PySem.F.slot_list_pop PySem.F.type_list_pop mt_pop (pe_ix ix_list (pv 0) pe_int (fun _ _ => rfl))))))
      (pss_cons (ps_if (pt_cmpR (op_neD hr.units) (pe_ix ix_list (pv 0) pe_int (fun _ _ => rfl)) (pe_lst pa_nil) (nomark _)) (pss_cons (ps_set (i := 2) scDraw.nd rfl (.inl rfl) (pe_bm0 PySem.F.plainAttrs_list PySem.F.slot_list_pop PySem.F.type_list_pop mt_pop (pe_ix ix_list (pv 0) pe_int (fun _ _ => rfl))))
      (pss_cons (ps_expr (pe_bm PySem.F.plainAttrs_list PySem.F.slot_list_append PySem.F.type_list_append mt_append (pe_ix ix_list (pv 0) pe_int (fun _ _ => rfl)) (pa_cons (pe_op op_fdivN (pv 2) (pv 1)) pa_nil)))
      (pss_one (ps_ret (pe_op op_modN (pe_callTy call_int1 (by rfl) nInt (by decide +kernel) (pa_cons (pv 2) pa_nil)) (pv 1)))))) pss_nil)
      (pss_cons (ps_asg (pe_op op_modN (pe_callTy call_int1 (by rfl) nInt (by decide +kernel) (pa_cons (pe_op op_add (pe_op op_mul (pe_ix ix_list (pv 0) pe_int (fun _ _ => rfl)) pe_int) pe_int) pa_nil)) pe_int) (pg_sub (pv 0) pe_int set_list))
      (pss_one (ps_ret (pe_op op_modN (pe_callTy call_int1 (by rfl) nInt (by decide +kernel) (pa_cons (pe_op op_fdivN (pe_ix ix_list (pv 0) pe_int (fun _ _ => rfl)) pe_int) pa_nil)) (pv 1)))))), ?_⟩
    refine ⟨fun σ H' => σ = [some (.ref a), some (.int k), none] ∧ Kp a b H H' ∧ Deal H' a b, ?_, ?_⟩
    -- the while: zeros at the end are dropped
    · refine ⟨fun m σ H' => ∃ (ns : List Int) (mm : Int), σ = [some (.ref a), some (.int k), none] ∧ m = ns.length ∧ Kp a b H H' ∧ H' a = some (.lst [.ref b, .int mm]) ∧ H' b = some (.lst (ns.map V.int)) ∧ ns.length ≤ 63 ∧ 0 ≤ mm ∧ mm < 2147483647,
        ?_, ?_⟩
      · obtain ⟨ns, mm, h1, h2, h3, h4, h5⟩ := D.ex
        exact ⟨ns.length, ns, mm, rfl, rfl, Kp.refl _ _ _, h1, h2, h3, h4, h5⟩
      · rintro m σ H1 ⟨ns, mm, rfl, rfl, kp, h1, h2, h3, h4, h5⟩
        refine ⟨_, rfl, _, _, _, _, rfl, rfl, SqL.of h1, rfl, Nat.zero_le _, fun p np => ?_⟩
        have nb : b ≠ p := ne_of_none h2 np
        have na : a ≠ p := ne_of_none h1 np
        refine ⟨_, .list [], .lst (SqL.of (by rw [upd_ne nb]; exact h2)) (dp_ints ns), .lst (SqL.of upd_same) .nil, shaped_ints ns, shaped_ints [], _, rfl, ?_⟩
        rw [eqv_nil]
        have kp2 : Kp a b H (upd H1 p (.lst [])) := kp.trans (Kp.new np)
        have a2 : (upd H1 p (.lst [])) a = some (.lst [.ref b, .int mm]) := by rw [upd_ne na]; exact h1
        have b2 : (upd H1 p (.lst [])) b = some (.lst (ns.map V.int)) := by rw [upd_ne nb]; exact h2
        rcases List.eq_nil_or_concat ns with rfl | ⟨ns', n, rfl⟩
        · exact iteF (iteF ⟨rfl, kp2, ⟨[], mm, a2, b2, h3, h4, h5⟩⟩)
        · rw [List.concat_eq_append] at b2 h3 ⊢
          rw [show (ns' ++ [n]).isEmpty = false by simp]
          refine iteT ?_
          refine ⟨_, rfl, _, _, _, _, rfl, rfl, SqL.of a2, rfl, 1, rfl, _, _, _, _, rfl, rfl, SqL.of b2, atI_lastInt ns' n, rfl, _, rfl, ?_⟩
          refine ite2 (fun _ => ?_) (fun _ => ?_)
          · refine ⟨fun σ H' => ∃ (mm : Int), σ = [some (.ref a), some (.int k), none] ∧ Kp a b H H' ∧ H' a = some (.lst [.ref b, .int mm]) ∧ H' b = some (.lst (ns'.map V.int)) ∧ ns'.length ≤ 63 ∧ 0 ≤ mm ∧ mm < 2147483647,
              fun σ' H' ⟨mm, e1, e2, e3, e4, e5, e6⟩ => ⟨ns'.length, by simp, ns', mm, e1, rfl, e2, e3, e4, e5, e6⟩, ?_⟩
            refine ⟨_, rfl, _, _, _, _, rfl, rfl, SqL.of a2, rfl, .inl ⟨rfl, _, SqL.of b2⟩, b, _, .int n, rfl, rfl, b2, ?_, ?_⟩
            · rw [List.map_append, List.length_append]
              show (List.map V.int ns' ++ [V.int n])[(List.map V.int ns').length + 1 - 1]? = some (V.int n)
              simp
            · refine ⟨mm, rfl, kp2.trans Kp.at_b, ?_, ?_, ?_, h4, h5⟩
              · rw [upd_ne D.ne]
                exact a2
              · rw [upd_same, List.map_append]
                show some (HO.lst (List.map V.int ns' ++ [V.int n]).dropLast) = _
                rw [List.dropLast_concat]
              · rw [List.length_append, List.length_singleton] at h3
                omega
          · exact ⟨rfl, kp2, ⟨ns' ++ [n], mm, a2, b2, h3, h4, h5⟩⟩
    · rintro σ H1 ⟨rfl, kp, D1⟩
      obtain ⟨ns, mm, h1, h2, h3, h4, h5⟩ := D1.ex
      -- if deal[0] != []
      refine ⟨_, rfl, _, _, _, _, rfl, rfl, SqL.of h1, rfl, Nat.zero_le _, fun p np => ?_⟩
      have nb : b ≠ p := ne_of_none h2 np
      have na : a ≠ p := ne_of_none h1 np
      refine ⟨_, .list [], .lst (SqL.of (by rw [upd_ne nb]; exact h2)) (dp_ints ns), .lst (SqL.of upd_same) .nil, shaped_ints ns, shaped_ints [], _, rfl, ?_⟩
      rw [eqv_nil]
      have kp2 : Kp a b H (upd H1 p (.lst [])) := kp.trans (Kp.new np)
      have a2 : (upd H1 p (.lst [])) a = some (.lst [.ref b, .int mm]) := by rw [upd_ne na]; exact h1
      have b2 : (upd H1 p (.lst [])) b = some (.lst (ns.map V.int)) := by rw [upd_ne nb]; exact h2
      rcases List.eq_nil_or_concat ns with rfl | ⟨ns', n, rfl⟩
      · refine iteF ?_
        -- deal[1] = int(deal[1] * 69621 + 40961) % 2147483647
        refine ⟨_, rfl, _, _, _, _, rfl, rfl, SqL.of a2, rfl, _, _, rfl, rfl, .inl (by omega), _, _, rfl, rfl, .inl ⟨_, rfl, _, _, rfl, rfl, (by show (2147483647 : Int) ≠ 0; decide), ?_⟩⟩
        refine ⟨_, rfl, a, _, 1, 1, rfl, rfl, a2, rfl, ?_⟩
        -- return int(deal[1] // 16) % many
        obtain ⟨m0, m1⟩ := fmod_lt (x := mm * 69621 + 40961) (k := 2147483647) (by decide)
        refine ⟨_, rfl, _, _, _, _, rfl, rfl, SqL.of upd_same, rfl, _, _, rfl, rfl, ⟨by show (16 : Int) ≠ 0; decide, by show (16 : Int).natAbs < 1073741824; decide⟩, .inl ⟨_, rfl, _, rfl, _, _, rfl, rfl, by omega, ?_⟩⟩
        obtain ⟨r0, r1⟩ := fmod_lt (x := ((mm * 69621 + 40961).fmod 2147483647).fdiv 16) k0
        exact q _ _ r0 r1 (kp2.trans Kp.at_a) ⟨[], _, upd_same, by rw [upd_ne D.ne.symm]; exact b2, h3, m0, m1⟩
      · rw [List.concat_eq_append] at b2 h3 ⊢
        rw [show (ns' ++ [n]).isEmpty = false by simp]
        refine iteT ?_
        refine ⟨_, rfl, _, _, _, _, rfl, rfl, SqL.of a2, rfl, .inl ⟨rfl, _, SqL.of b2⟩, b, _, .int n, rfl, rfl, b2, ?_, ?_⟩
        · rw [List.map_append, List.length_append]
          show (List.map V.int ns' ++ [V.int n])[(List.map V.int ns').length + 1 - 1]? = some (V.int n)
          simp
        · have b3 : upd (upd H1 p (.lst [])) b (.lst (List.map V.int (ns' ++ [n])).dropLast) = upd (upd H1 p (.lst [])) b (.lst (ns'.map V.int)) := by
            rw [List.map_append]
            show upd _ b (.lst (List.map V.int ns' ++ [V.int n]).dropLast) = _
            rw [List.dropLast_concat]
          rw [b3]
          have a3 : (upd (upd H1 p (.lst [])) b (.lst (ns'.map V.int))) a = some (.lst [.ref b, .int mm]) := by rw [upd_ne D.ne]; exact a2
          refine ⟨_, rfl, _, _, _, _, rfl, rfl, SqL.of a3, rfl, .inl ⟨rfl, _, SqL.of upd_same⟩, _, rfl, _, rfl, _, _, rfl, rfl, ⟨by omega, by omega⟩, b, _, _, rfl, rfl, upd_same, ?_, ?_⟩
          · rw [List.length_map]
            rw [List.length_append, List.length_singleton] at h3
            exact small1000 (by omega)
          · refine ⟨_, rfl, .inl ⟨_, rfl, _, rfl, _, _, rfl, rfl, by omega, ?_⟩⟩
            obtain ⟨r0, r1⟩ := fmod_lt (x := n) k0
            refine q _ _ r0 r1 ((kp2.trans Kp.at_b).trans Kp.at_b) ⟨ns' ++ [n.fdiv k], mm, ?_, ?_, ?_, h4, h5⟩
            · rw [upd_ne D.ne]
              exact a3
            · rw [upd_same, List.map_append]
              rfl
            · rw [List.length_append] at h3 ⊢
              exact h3

/-! ### _law_deal -/
structure TxB (mg : Str → Option Value) : Prop where
  n_int : mg "int" = none
  n_abs : mg "abs" = none
  n_len : mg "len" = none
  n_range : mg "range" = none
  n_max : mg "max" = none
  n_min : mg "min" = none
  n_list : mg "list" = none
  n_tuple : mg "tuple" = none
def spDeal (K : PySem.W.Frag) : Sp := fun vs H Q _ => ∃ (s : Addr) (ns : List Int) (k : Nat), vs = [.ref s, .int (k : Int)] ∧ SqL K H s (ns.map V.int) ∧ ns.length ≤ 63 ∧ k ≤ 60 ∧
  ∀ (a b : Addr) (H' : Hp), Same H H' → H a = none → H b = none → Deal H' a b → Q (.ref a) H'
theorem ok_deal {f : Addr} {fd : FuncData} (F : Fun K "_law_deal" "_law_deal" sDeal f fd) (T : TxB mg) : FnOk P w K mg base CX0 1 f fd ["_law_script", "_law_base"] (spDeal K) := by
  refine F.ok scDeal (fun vs H Q E h => ?_) (fun cdv A outer s H vs Q E hr h => ?_)
  · obtain ⟨a, ns, k, rfl, _⟩ := h
    rfl
  · obtain ⟨sa, ns, k, rfl, hS, hlen, hk, q⟩ := h
    refine ⟨_, pss_cons (ps_setLc (i := 3) (own := [("_law_cell", 2)]) (g := gName 2) (tt := tYes) rfl scDeal.nd rfl rfl (sw_true rfl rfl rfl (by decide +kernel)) (pi_list (pe_slice sl_list (pv 0) (po_some (pv 1)) (po_some pe_int))) (blkOk_by (own := [("_law_cell", 2)]) (N := ["_law_script", "_law_base", "_law_cell", "_law_cells", "_law_mixed_here"]) (sc := defScope sDeal) (by decide +kernel)) (fun _ _ _ _ _ => (pg_name (i := 2) scDeal.nd rfl (Or.inl rfl))) (fun _ _ _ _ _ => pts_nil) (fun _ _ _ _ _ => (pe_callB call_abs (by rfl) T.n_abs (by decide +kernel) (pa_cons (pv 2) pa_nil))))
      (pss_cons (ps_set (i := 4) scDeal.nd rfl (.inl rfl) (pe_op op_add pe_int (pe_op op_mul pe_int (pv 1))))
      (pss_cut (ps_for PassesOwn.never rfl (pi_list (pv 3)) (pg_name (i := 2) scDeal.nd rfl (Or.inl rfl)) (pss_one (ps_set (i := 4) scDeal.nd rfl (.inl rfl) (pe_op op_modN (pe_callTy call_int1 (by rfl) T.n_int (by decide +kernel) (pa_cons (pe_op op_add (pe_op op_mul (pv 4) pe_int) (pe_op op_modN (pe_callTy call_int1 (by rfl) T.n_int (by decide +kernel) (pa_cons (pv 2) pa_nil)) pe_int)) pa_nil)) pe_int))))
      (pss_one (ps_ret (pe_lst (pa_cons (pe_revL (pe_lc (own := [("_law_cell", 2)]) (g := gName 2) rfl scDeal.nd (pi_list (pv 3)) (blkOk_by (own := [("_law_cell", 2)]) (N := ["_law_script", "_law_base", "_law_cell", "_law_cells", "_law_mixed_here"]) (sc := defScope sDeal) (by decide +kernel)) (fun _ _ _ _ _ => (pg_name (i := 2) scDeal.nd rfl (Or.inl rfl))) (fun _ _ _ _ _ => (pts_one (pt_cmpR op_ge (pv 2) (pe_op op_pow pe_int pe_int) (nomark _)))) (fun _ _ _ _ _ => (pv 2)))) (pa_cons (pv 4) pa_nil))))))), ?_⟩
    obtain ⟨cs, ec, lc⟩ := cut_ints ns (some (k : Int)) (some 63)
    refine ⟨_, rfl, _, rfl, _, rfl, _, rfl, sa, _, rfl, hS, fun p np => ⟨p, rfl, ⟨_, SqL.of upd_same⟩, fun L nL => ?_⟩⟩
    rw [ec] at nL ⊢
    have sp : Same H (upd H p (.lst (cs.map V.int))) := same_upd np
    refine lc_list (xs := cs.map V.int) (fun i H' => Same (upd H p (.lst (cs.map V.int))) H' ∧ ∃ ds : List Int, ds.length = i ∧ H' L = some (.lst (ds.map V.int)))
      ⟨same_upd nL, [], rfl, upd_same⟩ (fun i H' _ h => SqL.of (h.1 _ _ upd_same)) (fun i x H' hx h => ?_) (fun H1 h1 => ?_)
    · obtain ⟨n, rfl⟩ := get_ints hx
      obtain ⟨sm, ds, dl, hd⟩ := h
      refine ⟨rfl, _, rfl, n, rfl, _, hd, ?_, ?_, ds ++ [if n < 0 then -n else n], ?_, ?_⟩
      · have := (List.getElem?_eq_some_iff.mp hx).1
        rw [List.length_map] at this ⊢
        exact small1000 (by omega)
      · exact sm.put nL
      · rw [List.length_append, dl]
        rfl
      · rw [upd_same, List.map_append]
        rfl
    · obtain ⟨sm, ds, dl, hd⟩ := h1
      rw [List.length_map] at dl
      have sH : Same H H1 := sp.trans sm
      -- 16127 + 7919 * base
      refine ⟨_, rfl, _, _, rfl, rfl, .inl (by omega), _, _, rfl, rfl, ?_⟩
      refine ⟨fun σ H2 => ∃ (v : Option V) (m : Int), σ = [some (.ref sa), some (.int (k : Int)), v, some (.ref L), some (.int m)] ∧ 0 ≤ m ∧ m < 2147483647 ∧ H2 = H1, ?_, ?_⟩
      · refine ⟨.ref L, rfl, L, rfl, ⟨_, SqL.of hd⟩, for_list (K := K) (a := L) (xs := ds.map V.int) (fun i σ H2 => ∃ (v : Option V) (m : Int), σ = [some (.ref sa), some (.int (k : Int)), v, some (.ref L), some (.int m)] ∧ 0 ≤ m ∧ m < 2147483647 ∧ H2 = H1)
          ⟨_, _, rfl, by omega, by omega, rfl⟩ (fun i σ H2 _ ⟨_, _, _, _, _, e⟩ => by rw [e]; exact SqL.of hd) ?_ ?_⟩
        · rintro i x σ H2 hx ⟨v, m, rfl, m0, m1, rfl⟩
          obtain ⟨n, rfl⟩ := get_ints hx
          obtain ⟨r0, r1⟩ := fmod_lt (x := n) (k := 2147483629) (by decide)
          refine ⟨_, rfl, _, _, rfl, rfl, .inl (by omega), _, rfl, .inl ⟨_, rfl, _, _, rfl, rfl, (by show (2147483629 : Int) ≠ 0; decide), _, _, rfl, rfl, .inl ⟨_, rfl, _, _, rfl, rfl, (by show (2147483647 : Int) ≠ 0; decide), ?_⟩⟩⟩
          obtain ⟨t0, t1⟩ := fmod_lt (x := m * 48271 + n.fmod 2147483629) (k := 2147483647) (by decide)
          exact ⟨_, _, rfl, t0, t1, rfl⟩
        · rintro σ H2 ⟨v, m, rfl, m0, m1, rfl⟩
          exact ⟨_, _, rfl, m0, m1, rfl⟩
      · rintro σ H2 ⟨v, m, rfl, m0, m1, rfl⟩
        refine ⟨.ref L, rfl, L, rfl, ⟨_, SqL.of hd⟩, fun D nD => ?_⟩
        refine lc_list (xs := ds.map V.int) (fun i H' => Same H2 H' ∧ ∃ es : List Int, es.length ≤ i ∧ H' D = some (.lst (es.map V.int)))
          ⟨same_upd nD, [], Nat.le_refl _, upd_same⟩ (fun i H' _ h => SqL.of (h.1 _ _ hd)) (fun i x H' hx h => ?_) (fun H3 h3 => ?_)
        · obtain ⟨n, rfl⟩ := get_ints hx
          obtain ⟨sm3, es, el, he⟩ := h
          have hi := (List.getElem?_eq_some_iff.mp hx).1
          rw [List.length_map] at hi
          refine ⟨rfl, _, rfl, _, _, rfl, rfl, ⟨by decide, by decide, by decide⟩, _, _, rfl, rfl, _, rfl, ite2 (fun _ => ?_) (fun _ => ?_)⟩
          · refine ⟨_, rfl, _, he, ?_, sm3.put nD, es ++ [n], ?_, ?_⟩
            · rw [List.length_map]
              exact small1000 (by omega)
            · rw [List.length_append]
              exact Nat.succ_le_succ el
            · rw [upd_same, List.map_append]
              rfl
          · exact ⟨sm3, es, by omega, he⟩
        · obtain ⟨sm3, es, el, he⟩ := h3
          rw [List.length_map] at el
          have s3 : Same H H3 := sH.trans sm3
          refine ⟨D, _, rfl, SqL.of he, fun b nb => ⟨_, rfl, (by show 2 ≤ sizeLine; decide), fun a na => ?_⟩⟩
          have sb : Same H (upd H3 b (.lst (es.map V.int).reverse)) := s3.trans (same_upd nb)
          have nab : b ≠ a := fun z => by
            rw [← z, upd_same] at na
            cases na
          refine q a b _ (sb.trans (same_upd na)) (sb.free na) (s3.free nb) ⟨es.reverse, m, upd_same, ?_, ?_, m0, m1⟩
          · rw [upd_ne nab, upd_same, List.map_reverse]
          · rw [List.length_reverse]
            omega
end
end Ov

namespace Ov
open PySem PySem.Spec PyProof.Rows L2
open Evl (pss_cut tCut)

/-- a def of the text: where it stands, its name, how its arguments bind -/
structure Df (K : PySem.W.Frag) (mg : Str → Option Value) (x : Str) (st : Stmt) (ps : List Str) (f : Addr) (fd : FuncData) : Prop where
  F : Fun K x x st f fd
  g : mg x = some (.ref f)
  b : Binds K fd ps []

/-! ### what stands apart from a deal -/
theorem Kp.put {a b : Addr} {H H' : Hp} {p : Addr} {o : HO} (k : Kp a b H H') (h : H p = Option.none) : Kp a b H (upd H' p o) := fun c u h1 h2 e => by
  rw [upd_ne (ne_of_none e h)]
  exact k c u h1 h2 e
theorem Kp.sqL {K : PySem.W.Frag} {a b : Addr} {H H' : Hp} {l : Addr} {xs : List V} (k : Kp a b H H') (h1 : l ≠ a) (h2 : l ≠ b) (h : SqL K H l xs) : SqL K H' l xs := by
  rcases h with (h | ⟨o, h⟩) | h
  · exact .inl (.inl (k _ _ h1 h2 h))
  · exact .inl (.inr ⟨o, k _ _ h1 h2 h⟩)
  · exact .inr h
theorem Kp.sqT {K : PySem.W.Frag} {a b : Addr} {H H' : Hp} {l : Addr} {xs : List V} (k : Kp a b H H') (h1 : l ≠ a) (h2 : l ≠ b) (h : SqT K H l xs) : SqT K H' l xs := by
  rcases h with (h | ⟨o, h⟩) | h
  · exact .inl (.inl (k _ _ h1 h2 h))
  · exact .inl (.inr ⟨o, k _ _ h1 h2 h⟩)
  · exact .inr h
theorem Deal.netup {H : Hp} {a b p : Addr} {xs : List V} (D : Deal H a b) (h : H p = some (.tup xs)) : p ≠ a ∧ p ≠ b := by
  obtain ⟨ns, m, h1, h2, _⟩ := D.ex
  exact ⟨ne_of h h1 (fun z => nomatch z), ne_of h h2 (fun z => nomatch z)⟩
theorem Deal.put {H : Hp} {a b p : Addr} {o : HO} (D : Deal H a b) (na : p ≠ a) (nb : p ≠ b) : Deal (upd H p o) a b := by
  obtain ⟨ns, m, h1, h2, r⟩ := D.ex
  exact ⟨ns, m, by rw [upd_ne na.symm]; exact h1, by rw [upd_ne nb.symm]; exact h2, r⟩

/-! ### rules as data -/
def kindsAll : List Str := ["ask", "day", "off", "stop", "answer"]
def testsL : List Str := ["whole", "own", "above whole", "above own", "level whole", "level own", "later whole", "later own"]
def testsOf (k : Str) : List Str := if k = "answer" then ["level"] else testsL
def deedsOf (k : Str) : List Str := if k = "answer" then ["count", "count", "drop"] else ["take", "take", "wipe"]
def testsNot (k : Str) : List Str := testsOf k ++ (testsOf k).map (("not " : Str) ++ ·)
structure RuleD where
  k : Str
  ts : List Str
  ds : List Str
structure RuleD.Ok (r : RuleD) : Prop where
  k : r.k ∈ kindsAll
  ts : ∀ t ∈ r.ts, t ∈ testsNot r.k
  ds : ∀ d ∈ r.ds, d ∈ deedsOf r.k
  nt : r.ts.length ≤ 4
  nd : r.ds.length ≤ 4
/-- a drawn rule: a tuple of its kind, tests, deeds -/
def RuleAt (H : Hp) (p : Addr) (r : RuleD) : Prop := ∃ t d : Addr, H p = some (.tup [.str r.k, .ref t, .ref d]) ∧ H t = some (.tup (r.ts.map V.str)) ∧ H d = some (.tup (r.ds.map V.str))
theorem RuleAt.same {H H' : Hp} {p : Addr} {r : RuleD} (h : RuleAt H p r) (s : Same H H') : RuleAt H' p r := by
  obtain ⟨t, d, h1, h2, h3⟩ := h
  exact ⟨t, d, s _ _ h1, s _ _ h2, s _ _ h3⟩
theorem RuleAt.kp {H H' : Hp} {a b p : Addr} {r : RuleD} (h : RuleAt H p r) (k : Kp a b H H') (D : Deal H a b) : RuleAt H' p r := by
  obtain ⟨t, d, h1, h2, h3⟩ := h
  have n1 := D.netup h1
  have n2 := D.netup h2
  have n3 := D.netup h3
  exact ⟨t, d, k _ _ n1.1 n1.2 h1, k _ _ n2.1 n2.2 h2, k _ _ n3.1 n3.2 h3⟩
theorem str_nil_app (y : Str) : (("" : Str) ++ y) = y := by
  have e : ("" : Str) = Str.empty := by decide +kernel
  rw [e]
  exact Str.empty_append y
theorem mem_len {l : List Str} (n : Nat) (h : ∀ x ∈ l, x.length ≤ n) {x : Str} (hx : x ∈ l) : x.length ≤ n := h x hx
theorem testsNot_len {k t : Str} (h : t ∈ testsNot k) : t.length ≤ 16 := by
  have h1 : ∀ t ∈ testsL ++ testsL.map (("not " : Str) ++ ·), t.length ≤ 16 := by decide +kernel
  have h2 : ∀ t ∈ (["level"] : List Str) ++ (["level"] : List Str).map (("not " : Str) ++ ·), t.length ≤ 16 := by decide +kernel
  unfold testsNot testsOf at h
  split at h
  · exact h2 t h
  · exact h1 t h
theorem deedsOf_len {k t : Str} (h : t ∈ deedsOf k) : t.length ≤ 16 := by
  have h1 : ∀ t ∈ (["count", "count", "drop"] : List Str), t.length ≤ 16 := by decide +kernel
  have h2 : ∀ t ∈ (["take", "take", "wipe"] : List Str), t.length ≤ 16 := by decide +kernel
  unfold deedsOf at h
  split at h
  · exact h1 t h
  · exact h2 t h
theorem testsOf_len {k t : Str} (h : t ∈ testsOf k) : t.length ≤ 16 := testsNot_len (List.mem_append_left _ h)
theorem kinds_len {k : Str} (h : k ∈ kindsAll) : k.length ≤ 16 := by
  have h1 : ∀ t ∈ kindsAll, t.length ≤ 16 := by decide +kernel
  exact h1 k h
theorem size_of {n : Nat} (h : n ≤ 100000) : n ≤ sizeLine := Nat.le_trans h (by decide)

def spPick (K : PySem.W.Frag) : Sp := fun vs H Q _ => ∃ (a b l : Addr) (xs : List V), vs = [.ref a, .ref l] ∧ Deal H a b ∧ l ≠ a ∧ l ≠ b ∧ (SqL K H l xs ∨ SqT K H l xs) ∧ 0 < xs.length ∧ xs.length < 1000000 ∧
  ∀ x H', x ∈ xs → Kp a b H H' → Deal H' a b → Q x H'
def spTestsOf : Sp := fun vs H Q _ => ∃ k : Str, vs = [.str k] ∧ ∀ l H', Same H H' → H l = none → H' l = some (.lst ((testsOf k).map V.str)) → Q (.ref l) H'
def spDeedsOf : Sp := fun vs H Q _ => ∃ k : Str, vs = [.str k] ∧ ∀ l H', Same H H' → H l = none → H' l = some (.lst ((deedsOf k).map V.str)) → Q (.ref l) H'
def spWideRule : Sp := fun vs H Q _ => ∃ (a b : Addr), vs = [.ref a] ∧ Deal H a b ∧ ∀ p (r : RuleD) H', r.Ok → Kp a b H H' → Deal H' a b → RuleAt H' p r → Q (.ref p) H'

section
variable {P : Program} {w : World} {K : PySem.W.Frag} {mg : Str → Option Value} {base : Heap}
abbrev sPick : Stmt := topS 22
theorem scPick : FnScope ["_law_deal_here", "_law_some"] ["_law_deal_here", "_law_some"] (defScope sPick) := ⟨rfl, rfl, rfl, by decide +kernel, rfl, by decide +kernel, by decide +kernel⟩
abbrev sTestsOf : Stmt := topS 24
theorem scTestsOf : FnScope ["_law_kind", "_law_found", "_law_word"] ["_law_kind"] (defScope sTestsOf) := ⟨rfl, rfl, rfl, by decide +kernel, rfl, by decide +kernel, by decide +kernel⟩
abbrev sDeedsOf : Stmt := topS 25
theorem scDeedsOf : FnScope ["_law_kind"] ["_law_kind"] (defScope sDeedsOf) := ⟨rfl, rfl, rfl, by decide +kernel, rfl, by decide +kernel, by decide +kernel⟩
abbrev sWideRule : Stmt := topS 32
theorem scWideRule : FnScope ["_law_deal_here", "_law_kind", "_law_found", "_law_done", "_law_turn"] ["_law_deal_here"] (defScope sWideRule) := ⟨rfl, rfl, rfl, by decide +kernel, rfl, by decide +kernel, by decide +kernel⟩
theorem ok_pick {f fDraw : Addr} {fd fdDraw : FuncData} (F : Fun K "_law_pick" "_law_pick" sPick f fd) (T : TxB mg) (D_draw : Df K mg "_law_draw" sDraw ["_law_deal_here", "_law_many"] fDraw fdDraw) :
    FnOk P w K mg base CX0 2 f fd ["_law_deal_here", "_law_some"] (spPick K) := by
  have G_draw : FnOk P w K mg base CX0 1 fDraw fdDraw ["_law_deal_here", "_law_many"] spDraw := ok_draw D_draw.F T.n_int
  refine F.ok scPick (fun vs H Q E h => ?_) (fun cdv A outer s H vs Q E hr h => ?_)
  · obtain ⟨a, b, l, xs, rfl, _⟩ := h
    rfl
  · obtain ⟨a, b, l, xs, rfl, D, na, nb, hS, h0, h1, q⟩ := h
    refine ⟨_, pss_one (ps_ret (pe_ix ix_seq (pv 1) (pe_call G_draw (hr.mono (by decide)) rfl D_draw.g D_draw.F.kp D_draw.b .nil pass0 (pa_cons (pv 0) (pa_cons (pe_callB call_len_seq (by rfl) T.n_len (by decide +kernel) (pa_cons (pv 1) pa_nil)) pa_nil))) (fun _ _ => rfl))), ?_⟩
    refine ⟨_, rfl, _, rfl, _, rfl, l, xs, rfl, hS, a, b, _, rfl, D, by omega, by omega, fun r H1 r0 r1 kp D1 => ?_⟩
    obtain ⟨i, rfl⟩ := Int.eq_ofNat_of_zero_le r0
    have hi : i < xs.length := by omega
    have e := List.getElem?_eq_getElem hi
    have m := List.getElem_mem hi
    rcases hS with hS | hS
    · exact .inl ⟨l, xs, _, _, rfl, rfl, kp.sqL na nb hS, atI_nat e, q _ _ m kp D1⟩
    · exact .inr (.inl ⟨l, xs, _, _, rfl, rfl, kp.sqT na nb hS, atI_nat e, q _ _ m kp D1⟩)
theorem ok_tests_of {f : Addr} {fd : FuncData} (F : Fun K "_law_tests_of" "_law_tests_of" sTestsOf f fd) : FnOk P w K mg base CX0 1 f fd ["_law_kind"] spTestsOf := by
  refine F.ok scTestsOf (fun vs H Q E h => ?_) (fun cdv A outer s H vs Q E hr h => ?_)
  · obtain ⟨k, rfl, _⟩ := h
    rfl
  · obtain ⟨k, rfl, q⟩ := h
    refine ⟨_, pss_cons (ps_if (pt_cmpR op_eq (pv 0) pe_str (nomark _)) (pss_one (ps_ret (pe_lst (pa_cons pe_str pa_nil)))) pss_nil)
      (pss_cons (ps_set (i := 1) scTestsOf.nd rfl (.inl rfl) (pe_lst (pa_cons pe_str (pa_cons pe_str pa_nil))))
      (pss_cut (ps_for PassesOwn.never rfl (pi_tup (pe_tup (pa_cons pe_str (pa_cons pe_str (pa_cons pe_str pa_nil))))) (pg_name (i := 2) scTestsOf.nd rfl (Or.inl rfl)) (pss_one (ps_expr (pe_bm PySem.F.plainAttrs_list PySem.F.slot_list_extend PySem.F.type_list_extend mt_extend (pv 1) (pa_cons (pe_lst (pa_cons (pe_op op_add_str (pv 2) pe_str) (pa_cons (pe_op op_add_str (pv 2) pe_str) pa_nil))) pa_nil)))))
      (pss_one (ps_ret (pv 1))))), ?_⟩
    refine ⟨_, rfl, rfl, _, rfl, ite2 (fun e => ?_) (fun e => ?_)⟩
    · refine ⟨by show 1 ≤ sizeLine; decide, fun p np => ?_⟩
      have ek : k = "answer" := by
        have := of_decide_eq_true e
        injection this
      refine q p _ (same_upd np) np ?_
      rw [upd_same, ek]
      rfl
    · refine ⟨by show 2 ≤ sizeLine; decide, fun l nl => ?_⟩
      have ek : ¬ k = "answer" := fun z => e (decide_eq_true (by rw [z]))
      have s1 : Same H (upd H l (.lst [.str "whole", .str "own"])) := same_upd nl
      refine ⟨fun σ H' => ∃ v, σ = [some (.str k), some (.ref l), v] ∧ Same H H' ∧ H' l = some (.lst (testsL.map V.str)), ?_, ?_⟩
      · refine ⟨by show 3 ≤ sizeLine; decide, fun t nt => ⟨t, rfl, ⟨_, SqT.of upd_same⟩, ?_⟩⟩
        have ntl : t ≠ l := fun z => by
          rw [z, upd_same] at nt
          cases nt
        refine for_tup (K := K) (a := t) (xs := [.str "above", .str "level", .str "later"]) (fun i σ H' => ∃ v, σ = [some (.str k), some (.ref l), v] ∧ Same H H' ∧ H' t = some (.tup [.str "above", .str "level", .str "later"]) ∧ H' l = some (.lst ((testsL.take (2 + 2 * i)).map V.str)))
          ⟨_, rfl, s1.trans (same_upd nt), upd_same, by rw [upd_ne ntl.symm, upd_same]; rfl⟩ (fun i σ H' _ ⟨_, _, _, e, _⟩ => SqT.of e) ?_ ?_
        · rintro i x σ H' hx ⟨v, rfl, sm, ht, hl⟩
          obtain ⟨y, rfl, ey⟩ : ∃ y : Str, x = .str y ∧ testsL.take (2 + 2 * i) ++ [y ++ " whole", y ++ " own"] = testsL.take (2 + 2 * (i + 1)) ∧ y.length ≤ 5 := by
            match i, hx with
            | 0, hx => exact ⟨_, (Option.some.inj hx).symm, by decide +kernel⟩
            | 1, hx => exact ⟨_, (Option.some.inj hx).symm, by decide +kernel⟩
            | 2, hx => exact ⟨_, (Option.some.inj hx).symm, by decide +kernel⟩
            | i + 3, hx => cases hx
          have hy : ∀ z : Str, z.length ≤ 6 → y.length + z.length ≤ sizeLine := fun z hz => size_of (by omega)
          refine ⟨_, rfl, .inl ⟨rfl, _, SqL.of hl⟩, _, rfl, _, _, rfl, rfl, hy _ (by decide +kernel), _, rfl, _, _, rfl, rfl, hy _ (by decide +kernel), by show 2 ≤ sizeLine; decide, fun m nm => ?_⟩
          have nml : l ≠ m := ne_of_none hl nm
          have nmt : t ≠ m := ne_of_none ht nm
          refine ⟨l, m, _, _, rfl, rfl, by rw [upd_ne nml]; exact hl, upd_same, ?_, ?_⟩
          · rw [List.length_map, List.length_take]
            show _ + 2 ≤ sizeLine
            have e8 : testsL.length = 8 := rfl
            exact size_of (by omega)
          · refine ⟨_, rfl, (sm.trans (same_upd nm)).put nl, ?_, ?_⟩
            · rw [upd_ne ntl, upd_ne nmt]
              exact ht
            · rw [upd_same, ← ey.1, List.map_append]
              rfl
        · rintro σ H' ⟨v, rfl, sm, ht, hl⟩
          exact ⟨_, rfl, sm, hl⟩
      · rintro σ H' ⟨v, rfl, sm, hl⟩
        refine ⟨_, rfl, q l H' sm nl ?_⟩
        rw [hl]
        unfold testsOf
        rw [if_neg ek]
theorem ok_deeds_of {f : Addr} {fd : FuncData} (F : Fun K "_law_deeds_of" "_law_deeds_of" sDeedsOf f fd) : FnOk P w K mg base CX0 1 f fd ["_law_kind"] spDeedsOf := by
  refine F.ok scDeedsOf (fun vs H Q E h => ?_) (fun cdv A outer s H vs Q E hr h => ?_)
  · obtain ⟨k, rfl, _⟩ := h
    rfl
  · obtain ⟨k, rfl, q⟩ := h
    refine ⟨_, pss_one (ps_ret (pe_ifExp (pt_cmpR op_eq (pv 0) pe_str (nomark _)) (pe_lst (pa_cons pe_str (pa_cons pe_str (pa_cons pe_str pa_nil)))) (pe_lst (pa_cons pe_str (pa_cons pe_str (pa_cons pe_str pa_nil)))))), ?_⟩
    refine ⟨_, rfl, rfl, _, rfl, ite2 (fun e => ?_) (fun e => ?_)⟩
    · refine ⟨by show 3 ≤ sizeLine; decide, fun p np => ?_⟩
      have ek : k = "answer" := by
        have := of_decide_eq_true e
        injection this
      refine q p _ (same_upd np) np ?_
      rw [upd_same, ek]
      rfl
    · refine ⟨by show 3 ≤ sizeLine; decide, fun p np => ?_⟩
      have ek : ¬ k = "answer" := fun z => e (decide_eq_true (by rw [z]))
      refine q p _ (same_upd np) np ?_
      rw [upd_same]
      unfold deedsOf
      rw [if_neg ek]
      rfl
theorem ok_wide_rule {f fDraw fPick fTests fDeeds : Addr} {fd fdDraw fdPick fdTests fdDeeds : FuncData} (F : Fun K "_law_wide_rule" "_law_wide_rule" sWideRule f fd) (T : TxB mg)
    (D_draw : Df K mg "_law_draw" sDraw ["_law_deal_here", "_law_many"] fDraw fdDraw) (D_pick : Df K mg "_law_pick" sPick ["_law_deal_here", "_law_some"] fPick fdPick)
    (D_tests_of : Df K mg "_law_tests_of" sTestsOf ["_law_kind"] fTests fdTests) (D_deeds_of : Df K mg "_law_deeds_of" sDeedsOf ["_law_kind"] fDeeds fdDeeds) : FnOk P w K mg base CX0 3 f fd ["_law_deal_here"] spWideRule := by
  have G_draw : FnOk P w K mg base CX0 1 fDraw fdDraw ["_law_deal_here", "_law_many"] spDraw := ok_draw D_draw.F T.n_int
  have G_pick : FnOk P w K mg base CX0 2 fPick fdPick ["_law_deal_here", "_law_some"] (spPick K) := ok_pick D_pick.F T D_draw
  have G_tests_of : FnOk P w K mg base CX0 1 fTests fdTests ["_law_kind"] spTestsOf := ok_tests_of D_tests_of.F
  have G_deeds_of : FnOk P w K mg base CX0 1 fDeeds fdDeeds ["_law_kind"] spDeedsOf := ok_deeds_of D_deeds_of.F
  refine F.ok scWideRule (fun vs H Q E h => ?_) (fun cdv A outer s H vs Q E hr h => ?_)
  · obtain ⟨a, b, rfl, _⟩ := h
    rfl
  · obtain ⟨a, b, rfl, D, q⟩ := h
    refine ⟨_, pss_cons (ps_set (i := 1) scWideRule.nd rfl (.inl rfl) (pe_call G_pick (hr.mono (by decide)) rfl D_pick.g D_pick.F.kp D_pick.b .nil pass0 (pa_cons (pv 0) (pa_cons (pe_lst (pa_cons pe_str (pa_cons pe_str (pa_cons pe_str (pa_cons pe_str (pa_cons pe_str pa_nil)))))) pa_nil))))
      (pss_cons (ps_par (i := 2) (j := 3) (by rfl) scWideRule.nd rfl rfl (by decide) rfl rfl (pa_cons (pe_lst pa_nil) (pa_cons (pe_lst pa_nil) pa_nil)) (by rfl))
      (pss_cut (ps_for PassesOwn.never rfl (pi_range1 rfl T.n_range (pa_cons (pe_call G_draw (hr.mono (by decide)) rfl D_draw.g D_draw.F.kp D_draw.b .nil pass0 (pa_cons (pv 0) (pa_cons pe_int pa_nil))) pa_nil)) (pg_name (i := 4) scWideRule.nd rfl (Or.inl rfl)) (pss_one (ps_expr (pe_bm PySem.F.plainAttrs_list PySem.F.slot_list_append PySem.F.type_list_append mt_append (pv 2) (pa_cons (pe_op op_add_str (pe_call G_pick (hr.mono (by decide)) rfl D_pick.g D_pick.F.kp D_pick.b .nil pass0 (pa_cons (pv 0) (pa_cons (pe_lst (pa_cons pe_str (pa_cons pe_str pa_nil))) pa_nil))) (pe_call G_pick (hr.mono (by decide)) rfl D_pick.g D_pick.F.kp D_pick.b .nil pass0 (pa_cons (pv 0) (pa_cons (pe_call G_tests_of (hr.mono (by decide)) rfl D_tests_of.g D_tests_of.F.kp D_tests_of.b .nil pass0 (pa_cons (pv 1) pa_nil)) pa_nil)))) pa_nil)))))
      (pss_cut (ps_for PassesOwn.never rfl (pi_range1 rfl T.n_range (pa_cons (pe_call G_draw (hr.mono (by decide)) rfl D_draw.g D_draw.F.kp D_draw.b .nil pass0 (pa_cons (pv 0) (pa_cons pe_int pa_nil))) pa_nil)) (pg_name (i := 4) scWideRule.nd rfl (Or.inl rfl)) (pss_one (ps_expr (pe_bm PySem.F.plainAttrs_list PySem.F.slot_list_append PySem.F.type_list_append mt_append (pv 3) (pa_cons (pe_call G_pick (hr.mono (by decide)) rfl D_pick.g D_pick.F.kp D_pick.b .nil pass0 (pa_cons (pv 0) (pa_cons (pe_call G_deeds_of (hr.mono (by decide)) rfl D_deeds_of.g D_deeds_of.F.kp D_deeds_of.b .nil pass0 (pa_cons (pv 1) pa_nil)) pa_nil))) pa_nil)))))
      (pss_one (ps_ret (pe_tup (pa_cons (pv 1) (pa_cons (pe_callTy call_tuple_of (by rfl) T.n_tuple (by decide +kernel) (pa_cons (pv 2) pa_nil)) (pa_cons (pe_callTy call_tuple_of (by rfl) T.n_tuple (by decide +kernel) (pa_cons (pv 3) pa_nil)) pa_nil))))))))), ?_⟩
    refine ⟨_, rfl, by show 5 ≤ sizeLine; decide, fun l nl => ⟨a, b, l, _, rfl, D.new nl, D.nea nl, D.neb nl, .inl (SqL.of upd_same), by decide, by decide, fun x H1 hx kp1 D1 => ?_⟩⟩
    obtain ⟨kd, rfl, hk⟩ : ∃ kd : Str, x = .str kd ∧ kd ∈ kindsAll := by
      have h2 : x ∈ kindsAll.map V.str := hx
      obtain ⟨kd, h3, h4⟩ := List.mem_map.mp h2
      exact ⟨kd, h4.symm, h3⟩
    have k1 : Kp a b H H1 := (Kp.new nl).trans kp1
    -- found, done = [], []
    refine ⟨Nat.zero_le _, fun F1 nF => ⟨Nat.zero_le _, fun G1 nG => ⟨_, _, rfl, ?_⟩⟩⟩
    have nG1 : H1 G1 = none := (same_upd nF).free nG
    have nGF : G1 ≠ F1 := fun z => by
      rw [z, upd_same] at nG
      cases nG
    have k2 : Kp a b H (upd (upd H1 F1 (.lst [])) G1 (.lst [])) := (k1.trans (Kp.new nF)).trans (Kp.new nG)
    have D2 : Deal (upd (upd H1 F1 (.lst [])) G1 (.lst [])) a b := (D1.new nF).new nG
    have zF : H F1 = none := k1.none D1 nF
    have zG : H G1 = none := k1.none D1 nG1
    have Fa := D1.nea nF
    have Fb := D1.neb nF
    have Ga := D1.nea nG1
    have Gb := D1.neb nG1
    -- the tests
    refine ⟨fun σ H' => ∃ (v : Option V) (ts : List Str), σ = [some (.ref a), some (.str kd), some (.ref F1), some (.ref G1), v] ∧ Kp a b H H' ∧ Deal H' a b ∧ H' F1 = some (.lst (ts.map V.str)) ∧ H' G1 = some (.lst []) ∧ (∀ t ∈ ts, t ∈ testsNot kd) ∧ ts.length ≤ 4, ?_, ?_⟩
    · refine ⟨_, rfl, a, b, 5, rfl, D2, by decide, by decide, fun r H2 r0 r1 kp2 D3 => ⟨r, rfl, by omega, by omega, ?_⟩⟩
      refine for_range (lo := 0) (n := r.toNat) (fun i σ H' => ∃ (v : Option V) (ts : List Str), σ = [some (.ref a), some (.str kd), some (.ref F1), some (.ref G1), v] ∧ Kp a b H H' ∧ Deal H' a b ∧ H' F1 = some (.lst (ts.map V.str)) ∧ H' G1 = some (.lst []) ∧ (∀ t ∈ ts, t ∈ testsNot kd) ∧ ts.length = i)
        ⟨_, [], rfl, k2.trans kp2, D3, kp2 _ _ Fa Fb (by rw [upd_ne nGF.symm]; exact upd_same), kp2 _ _ Ga Gb upd_same, fun t ht => absurd ht List.not_mem_nil, rfl⟩ ?_ ?_
      · rintro i σ H3 hi ⟨v, ts, rfl, k3, D3, hF, hG, hts, hlen⟩
        refine ⟨_, rfl, .inl ⟨rfl, _, SqL.of hF⟩, _, rfl, by show 2 ≤ sizeLine; decide, fun l1 n1 => ⟨a, b, l1, _, rfl, D3.new n1, D3.nea n1, D3.neb n1, .inl (SqL.of upd_same), by decide, by decide, fun x H4 hx kp4 D4 => ?_⟩⟩
        obtain ⟨x', rfl, hx'⟩ : ∃ z : Str, x = .str z ∧ z ∈ (["", "not "] : List Str) := by
          have h2 : x ∈ (["", "not "] : List Str).map V.str := hx
          obtain ⟨z, h3, h4⟩ := List.mem_map.mp h2
          exact ⟨z, h4.symm, h3⟩
        refine ⟨_, rfl, _, rfl, kd, rfl, fun l2 H5 s5 n5 h5 => ?_⟩
        have t0 : 0 < (testsOf kd).length ∧ (testsOf kd).length < 1000000 := by
          unfold testsOf
          split
          · decide
          · decide
        refine ⟨a, b, l2, _, rfl, D4.keep s5, D4.nea n5, D4.neb n5, .inl (SqL.of h5), by rw [List.length_map]; exact t0.1, by rw [List.length_map]; exact t0.2, fun y H6 hy kp6 D6 => ?_⟩
        obtain ⟨y', hy', rfl⟩ := List.mem_map.mp hy
        have m : x' ++ y' ∈ testsNot kd := by
          unfold testsNot
          rcases List.mem_cons.mp hx' with e | hx'
          · rw [e]
            refine List.mem_append_left _ ?_
            have e2 : (("" : Str) ++ y') = y' := str_nil_app y'
            rw [e2]
            exact hy'
          · rw [List.mem_singleton.mp hx']
            exact List.mem_append_right _ (List.mem_map_of_mem hy')
        have kk : Kp a b H3 H6 := (((Kp.new n1).trans kp4).trans (Kp.same s5)).trans kp6
        have lx : x'.length ≤ 4 := by
          have h0 : ∀ z ∈ (["", "not "] : List Str), z.length ≤ 4 := by decide +kernel
          exact h0 _ hx'
        have ly := testsOf_len hy'
        refine ⟨_, _, rfl, rfl, size_of (by omega), F1, _, _, rfl, rfl, kk _ _ Fa Fb hF, ?_, ?_⟩
        · rw [List.length_map]
          exact small1000 (by omega)
        · refine ⟨_, ts ++ [x' ++ y'], rfl, (k3.trans kk).put zF, D6.put Fa Fb, ?_, ?_, ?_, ?_⟩
          · rw [upd_same, List.map_append]
            rfl
          · rw [upd_ne nGF]
            exact kk _ _ Ga Gb hG
          · intro t ht
            rcases List.mem_append.mp ht with ht | ht
            · exact hts t ht
            · rw [List.mem_singleton.mp ht]
              exact m
          · rw [List.length_append, hlen]
            rfl
      · rintro σ H3 ⟨v, ts, rfl, k3, D3, hF, hG, hts, hlen⟩
        exact ⟨v, ts, rfl, k3, D3, hF, hG, hts, by omega⟩
    · rintro σ H2 ⟨v, ts, rfl, k2, D2, hF, hG, hts, hlen⟩
      -- the deeds
      refine ⟨fun σ H' => ∃ (v : Option V) (ds : List Str), σ = [some (.ref a), some (.str kd), some (.ref F1), some (.ref G1), v] ∧ Kp a b H H' ∧ Deal H' a b ∧ H' F1 = some (.lst (ts.map V.str)) ∧ H' G1 = some (.lst (ds.map V.str)) ∧ (∀ t ∈ ds, t ∈ deedsOf kd) ∧ ds.length ≤ 4, ?_, ?_⟩
      · refine ⟨_, rfl, a, b, 5, rfl, D2, by decide, by decide, fun r H3 r0 r1 kp2 D3 => ⟨r, rfl, by omega, by omega, ?_⟩⟩
        refine for_range (lo := 0) (n := r.toNat) (fun i σ H' => ∃ (v : Option V) (ds : List Str), σ = [some (.ref a), some (.str kd), some (.ref F1), some (.ref G1), v] ∧ Kp a b H H' ∧ Deal H' a b ∧ H' F1 = some (.lst (ts.map V.str)) ∧ H' G1 = some (.lst (ds.map V.str)) ∧ (∀ t ∈ ds, t ∈ deedsOf kd) ∧ ds.length = i)
          ⟨_, [], rfl, k2.trans kp2, D3, kp2 _ _ Fa Fb hF, kp2 _ _ Ga Gb hG, fun t ht => absurd ht List.not_mem_nil, rfl⟩ ?_ ?_
        · rintro i σ H3 hi ⟨v, ds, rfl, k3, D3, hF, hG, hds, hl⟩
          refine ⟨_, rfl, .inl ⟨rfl, _, SqL.of hG⟩, _, rfl, _, rfl, kd, rfl, fun l2 H5 s5 n5 h5 => ?_⟩
          have t0 : 0 < (deedsOf kd).length ∧ (deedsOf kd).length < 1000000 := by
            unfold deedsOf
            split
            · decide
            · decide
          refine ⟨a, b, l2, _, rfl, D3.keep s5, D3.nea n5, D3.neb n5, .inl (SqL.of h5), by rw [List.length_map]; exact t0.1, by rw [List.length_map]; exact t0.2, fun y H6 hy kp6 D6 => ?_⟩
          obtain ⟨y', hy', rfl⟩ := List.mem_map.mp hy
          have kk : Kp a b H3 H6 := (Kp.same s5).trans kp6
          refine ⟨G1, _, _, rfl, rfl, kk _ _ Ga Gb hG, ?_, ?_⟩
          · rw [List.length_map]
            exact small1000 (by omega)
          · refine ⟨_, ds ++ [y'], rfl, (k3.trans kk).put zG, D6.put Ga Gb, ?_, ?_, ?_, ?_⟩
            · rw [upd_ne nGF.symm]
              exact kk _ _ Fa Fb hF
            · rw [upd_same, List.map_append]
              rfl
            · intro t ht
              rcases List.mem_append.mp ht with ht | ht
              · exact hds t ht
              · rw [List.mem_singleton.mp ht]
                exact hy'
            · rw [List.length_append, hl]
              rfl
        · rintro σ H3 ⟨v, ds, rfl, k3, D3, hF, hG, hds, hl⟩
          exact ⟨v, ds, rfl, k3, D3, hF, hG, hds, by omega⟩
      · rintro σ H3 ⟨v, ds, rfl, k3, D3, hF, hG, hds, hl⟩
        -- (kind, tuple(found), tuple(done))
        refine ⟨_, rfl, _, rfl, F1, _, rfl, .inl ⟨SqL.of hF, fun t nt => ⟨_, rfl, G1, _, rfl, .inl ⟨SqL.of (by rw [upd_ne (ne_of_none hG nt)]; exact hG), fun d nd => ⟨by show 3 ≤ sizeLine; decide, fun p np => ?_⟩⟩⟩⟩⟩
        have s1 := same_upd (o := HO.tup (ts.map V.str)) nt
        have s2 := same_upd (o := HO.tup (ds.map V.str)) nd
        have s3 := same_upd (o := HO.tup [V.str kd, .ref t, .ref d]) np
        refine q p ⟨kd, ts, ds⟩ _ ⟨hk, hts, hds, hlen, hl⟩ (((k3.trans (Kp.same s1)).trans (Kp.same s2)).trans (Kp.same s3)) (((D3.keep s1).keep s2).keep s3) ⟨t, d, upd_same, s3 _ _ (s2 _ _ upd_same), s3 _ _ upd_same⟩
end
end Ov

namespace Ov
open PySem PySem.Spec PyProof.Rows L2
open Evl (pss_cut tCut Ex Ev EvT EvL EvA EvU)

/-! ### what the text has at its top -/
structure TxR (K : PySem.W.Frag) (mg : Str → Option Value) (a_LETTERS a_LETTER_TESTS a_LETTER_DEEDS a_ANSWER_TESTS a_ANSWER_DEEDS CR : Addr) (tA tN : Tok) : Prop extends TxB mg where
  g_LETTERS : mg "LETTERS" = some (.ref a_LETTERS)
  s_LETTERS : ∀ H, SqT K H a_LETTERS ((["ask", "day", "off", "stop"] : List Str).map V.str)
  g_ANSWER : mg "ANSWER" = some (.str "answer" tA)
  g_NOT : mg "NOT" = some (.str "not " tN)
  g_LETTER_TESTS : mg "LETTER_TESTS" = some (.ref a_LETTER_TESTS)
  s_LETTER_TESTS : ∀ H, SqT K H a_LETTER_TESTS (testsL.map V.str)
  g_LETTER_DEEDS : mg "LETTER_DEEDS" = some (.ref a_LETTER_DEEDS)
  s_LETTER_DEEDS : ∀ H, SqT K H a_LETTER_DEEDS ((["take", "wipe"] : List Str).map V.str)
  g_ANSWER_TESTS : mg "ANSWER_TESTS" = some (.ref a_ANSWER_TESTS)
  s_ANSWER_TESTS : ∀ H, SqT K H a_ANSWER_TESTS ((["level"] : List Str).map V.str)
  g_ANSWER_DEEDS : mg "ANSWER_DEEDS" = some (.ref a_ANSWER_DEEDS)
  s_ANSWER_DEEDS : ∀ H, SqT K H a_ANSWER_DEEDS ((["count", "drop"] : List Str).map V.str)
  g_Rule : mg "Rule" = some (.ref CR)
  n_isinstance : mg "isinstance" = none
  n_str : mg "str" = none
  n_all : mg "all" = none
  cl : Cls K CR
  nK : NoAttr K CR "kind"
  nT : NoAttr K CR "tests"
  nD : NoAttr K CR "deeds"
  ci : PySem.W.findIn K (.ref CR) "__class__" = some (some (.builtin "object.__class__"))
  cs : PySem.W.specialIn K (.builtin "object.__class__") "__get__" = some (some (.builtin "getset_descriptor.__get__"))
  ct : PySem.W.takesIn K (.builtin "object.__class__") = some true
  co : PySem.W.mroIn K CR (.type "object") = some true

/-! ### a value's membership among texts -/
theorem inV_strs (k : Str) : ∀ l : List Str, inV (.str k) (l.map V.str) = decide (k ∈ l)
  | [] => rfl
  | x :: r => by
    have ih := inV_strs k r
    unfold inV at ih ⊢
    rw [List.map_cons, List.any_cons, ih]
    show (x == k || decide (k ∈ r)) = decide (k ∈ x :: r)
    by_cases h : x = k
    · rw [h]
      simp
    · have h2 : ¬ k = x := fun z => h z.symm
      simp [h, h2]
theorem flat_strs (l : List Str) : (l.map V.str).all flatV = true := by
  rw [List.all_eq_true]
  intro x hx
  obtain ⟨y, _, rfl⟩ := List.mem_map.mp hx
  rfl
theorem strs_at {l : List Str} {i : Nat} {x : V} (h : (l.map V.str)[i]? = some x) : ∃ y, x = .str y ∧ l[i]? = some y := by
  rw [List.getElem?_map] at h
  cases e : l[i]? with
  | none =>
    rw [e] at h
    cases h
  | some y =>
    rw [e] at h
    exact ⟨y, (Option.some.inj h).symm, rfl⟩
theorem ex_same {H H' : Hp} (h : Ex H H') : Same H H' := fun b o e => h b o e
theorem tyx_list {K : PySem.W.Frag} {H : Hp} {a : Addr} {xs : List V} (h : SqL K H a xs) : TyX K H (.ref a) (.type "list") := by
  rcases h with (h | ⟨o, h⟩) | ⟨o, its, n, h, c, _⟩
  · exact .base (.lst h)
  · exact .base (.frz h)
  · exact .kList h c
theorem tyx_tuple {K : PySem.W.Frag} {H : Hp} {a : Addr} {xs : List V} (h : SqT K H a xs) : TyX K H (.ref a) (.type "tuple") := by
  rcases h with (h | ⟨o, h⟩) | ⟨o, its, n, h, c, _⟩
  · exact .base (.tup h)
  · exact .fTuple h
  · exact .kTuple h c

/-! ### promises -/
def spIsSeq (K : PySem.W.Frag) : Sp := fun vs H Q _ => ∃ (a : Addr) (xs : List V), vs = [.ref a] ∧ (SqL K H a xs ∨ SqT K H a xs) ∧ ∀ H', Ex H H' → Q (.bl true) H'
def spIsKind : Sp := fun vs H Q _ => ∃ k : Str, vs = [.str k] ∧ Q (.bl (decide (k ∈ kindsAll))) H
def spIsTest : Sp := fun vs H Q _ => ∃ k t : Str, vs = [.str k, .str t] ∧ k ∈ kindsAll ∧ t ∈ testsNot k ∧ Q (.bl true) H
def spIsDeed : Sp := fun vs H Q _ => ∃ k t : Str, vs = [.str k, .str t] ∧ k ∈ kindsAll ∧ t ∈ deedsOf k ∧ Q (.bl true) H
/-- a rule's fields -/
def rf (k : Str) (t d : Addr) : List (Str × V) := putF "deeds" (.ref d) (putF "tests" (.ref t) (putF "kind" (.str k) []))
/-- at p a Rule of the class at C -/
def RuleObj (K : PySem.W.Frag) (C : Addr) (H : Hp) (p : Addr) (r : RuleD) : Prop := ∃ (dx t d : Addr), H p = some (.ins C dx (rf r.k t d)) ∧ SqT K H t (r.ts.map V.str) ∧ SqT K H d (r.ds.map V.str)
theorem RuleObj.ex {K : PySem.W.Frag} {C : Addr} {H H' : Hp} {p : Addr} {r : RuleD} (h : RuleObj K C H p r) (e : Ex H H') : RuleObj K C H' p r := by
  obtain ⟨dx, t, d, h1, h2, h3⟩ := h
  exact ⟨dx, t, d, e _ _ h1, Evl.ex_t e h2, Evl.ex_t e h3⟩
/-- its parts are good (the lengths are bounded far above what is drawn) -/
structure RuleD.Good (r : RuleD) : Prop where
  k : r.k ∈ kindsAll
  ts : ∀ t ∈ r.ts, t ∈ testsNot r.k
  ds : ∀ d ∈ r.ds, d ∈ deedsOf r.k
  nt : r.ts.length ≤ 1000
  nd : r.ds.length ≤ 1000
theorem RuleD.Good.pt {r : RuleD} (g : r.Good) : Plain r.ts := fun t ht => by
  have h1 : ∀ t ∈ testsL ++ testsL.map (("not " : Str) ++ ·), PyData.canLay0 (.str t) = true := by decide +kernel
  have h2 : ∀ t ∈ (["level"] : List Str) ++ (["level"] : List Str).map (("not " : Str) ++ ·), PyData.canLay0 (.str t) = true := by decide +kernel
  have h := g.ts t ht
  unfold testsNot testsOf at h
  split at h
  · exact h2 t h
  · exact h1 t h
theorem RuleD.Good.pd {r : RuleD} (g : r.Good) : Plain r.ds := fun t ht => by
  have h1 : ∀ t ∈ (["count", "count", "drop"] : List Str), PyData.canLay0 (.str t) = true := by decide +kernel
  have h2 : ∀ t ∈ (["take", "take", "wipe"] : List Str), PyData.canLay0 (.str t) = true := by decide +kernel
  have h := g.ds t ht
  unfold deedsOf at h
  split at h
  · exact h1 t h
  · exact h2 t h
theorem RuleD.Ok.good {r : RuleD} (h : r.Ok) : r.Good := ⟨h.k, h.ts, h.ds, Nat.le_trans h.nt (by decide), Nat.le_trans h.nd (by decide)⟩
def spRuleInit (K : PySem.W.Frag) (C : Addr) : Sp := fun vs H Q _ => ∃ (p t d dx : Addr) (r : RuleD), vs = [.ref p, .str r.k, .ref t, .ref d] ∧ H p = some (.ins C dx []) ∧ (SqL K H t (r.ts.map V.str) ∨ SqT K H t (r.ts.map V.str)) ∧ (SqL K H d (r.ds.map V.str) ∨ SqT K H d (r.ds.map V.str)) ∧ r.Good ∧
  ∀ H', (∀ b o, b ≠ p → H b = some o → H' b = some o) → RuleObj K C H' p r → Q .non H'

section
variable {P : Program} {w : World} {K : PySem.W.Frag} {mg : Str → Option Value} {base : Heap} {a_LETTERS a_LETTER_TESTS a_LETTER_DEEDS a_ANSWER_TESTS a_ANSWER_DEEDS CR : Addr} {tA tN : Tok}
abbrev sIsSequence : Stmt := topS 5
theorem scIsSequence : FnScope ["value"] ["value"] (defScope sIsSequence) := ⟨rfl, rfl, rfl, by decide +kernel, rfl, by decide +kernel, by decide +kernel⟩
abbrev sIsKind : Stmt := topS 14
theorem scIsKind : FnScope ["value"] ["value"] (defScope sIsKind) := ⟨rfl, rfl, rfl, by decide +kernel, rfl, by decide +kernel, by decide +kernel⟩
abbrev sIsTest : Stmt := topS 15
theorem scIsTest : FnScope ["kind", "value", "known"] ["kind", "value"] (defScope sIsTest) := ⟨rfl, rfl, rfl, by decide +kernel, rfl, by decide +kernel, by decide +kernel⟩
abbrev sIsDeed : Stmt := topS 16
theorem scIsDeed : FnScope ["kind", "value", "known"] ["kind", "value"] (defScope sIsDeed) := ⟨rfl, rfl, rfl, by decide +kernel, rfl, by decide +kernel, by decide +kernel⟩
abbrev sRuleInit : Stmt := inClass (topS 18) 0
theorem scRuleInit : FnScope ["self", "kind", "tests", "deeds", "deed", "test"] ["self", "kind", "tests", "deeds"] (defScope sRuleInit) := ⟨rfl, rfl, rfl, by decide +kernel, rfl, by decide +kernel, by decide +kernel⟩
theorem ok_is_sequence {f : Addr} {fd : FuncData} (F : Fun K "is_sequence" "is_sequence" sIsSequence f fd) (T : TxR K mg a_LETTERS a_LETTER_TESTS a_LETTER_DEEDS a_ANSWER_TESTS a_ANSWER_DEEDS CR tA tN) : FnOk P w K mg base CX0 1 f fd ["value"] (spIsSeq K) := by
  refine F.ok scIsSequence (fun vs H Q E h => ?_) (fun cdv A outer s H vs Q E hr h => ?_)
  · obtain ⟨a, xs, rfl, _⟩ := h
    rfl
  · obtain ⟨a, xs, rfl, hS, q⟩ := h
    refine ⟨_, pss_one (ps_ret (pe_callB call_isiT (by rfl) T.n_isinstance (by decide +kernel) (pa_cons (pv 0) (pa_cons (pe_tup (pa_cons (pe_bltn (v := .ty "list") (by rfl) T.n_list (by decide +kernel) rfl) (pa_cons (pe_bltn (v := .ty "tuple") (by rfl) T.n_tuple (by decide +kernel) rfl) pa_nil))) pa_nil)))), ?_⟩
    refine ⟨_, rfl, by show 2 ≤ sizeLine; decide, fun p np => ?_⟩
    have e1 : Ex H (upd H p (.tup [.ty "list", .ty "tuple"])) := Ex.new np
    rcases hS with hS | hS
    · exact ⟨_, p, _, _, [.type "list", .type "tuple"], true, rfl, upd_same, .cons (.ty _) (.cons (.ty _) .nil), tyx_list (Evl.ex_l e1 hS), kitAny_cons (kit_ty (r := true) (by decide +kernel)) (fun z => nomatch z) (fun _ => rfl), q _ e1⟩
    · exact ⟨_, p, _, _, [.type "list", .type "tuple"], true, rfl, upd_same, .cons (.ty _) (.cons (.ty _) .nil), tyx_tuple (Evl.ex_t e1 hS), kitAny_cons (kit_ty (r := false) (by decide +kernel)) (fun _ => kitAny_cons (kit_ty (r := true) (by decide +kernel)) (fun z => nomatch z) (fun _ => rfl)) (fun z => nomatch z), q _ e1⟩
theorem ok_is_kind {f : Addr} {fd : FuncData} (F : Fun K "is_kind" "is_kind" sIsKind f fd) (T : TxR K mg a_LETTERS a_LETTER_TESTS a_LETTER_DEEDS a_ANSWER_TESTS a_ANSWER_DEEDS CR tA tN) : FnOk P w K mg base CX0 1 f fd ["value"] spIsKind := by
  refine F.ok scIsKind (fun vs H Q E h => ?_) (fun cdv A outer s H vs Q E hr h => ?_)
  · obtain ⟨k, rfl, _⟩ := h
    rfl
  · obtain ⟨k, rfl, q⟩ := h
    refine ⟨_, pss_one (ps_ret (pe_or (pe_cmpR op_in_seq (pv 0) (pe_glob (v := .ref a_LETTERS) rfl T.g_LETTERS rfl) (by rfl)) (pe_one (pe_cmpR op_eq (pv 0) (pe_glob (v := .str "answer") rfl T.g_ANSWER ⟨_, rfl⟩) (nomark _))))), ?_⟩
    refine ⟨_, rfl, _, _, rfl, .inr (T.s_LETTERS _), rfl, flat_strs _, _, rfl, ?_⟩
    rw [inV_strs]
    refine ite2 (fun e => ?_) (fun e => ?_)
    · have h1 : k ∈ (["ask", "day", "off", "stop"] : List Str) := of_decide_eq_true e
      have h2 : k ∈ kindsAll := List.mem_append_left (["answer"] : List Str) h1
      rw [decide_eq_true h2] at q
      exact q
    · refine ⟨_, rfl, rfl, ?_⟩
      have h1 : ¬ k ∈ (["ask", "day", "off", "stop"] : List Str) := fun z => e (decide_eq_true z)
      have h2 : decide (V.str k = V.str "answer") = decide (k ∈ kindsAll) := by
        by_cases hk : k = "answer"
        · rw [hk]
          decide +kernel
        · rw [decide_eq_false (fun z => hk (V.str.inj z)), decide_eq_false]
          intro z
          rcases List.mem_append.mp (show k ∈ (["ask", "day", "off", "stop"] : List Str) ++ (["answer"] : List Str) from z) with z | z
          · exact h1 z
          · exact hk (List.mem_singleton.mp z)
      rw [h2]
      exact q
theorem ok_is_test {f : Addr} {fd : FuncData} (F : Fun K "is_test" "is_test" sIsTest f fd) (T : TxR K mg a_LETTERS a_LETTER_TESTS a_LETTER_DEEDS a_ANSWER_TESTS a_ANSWER_DEEDS CR tA tN) : FnOk P w K mg base CX0 1 f fd ["kind", "value"] spIsTest := by
  refine F.ok scIsTest (fun vs H Q E h => ?_) (fun cdv A outer s H vs Q E hr h => ?_)
  · obtain ⟨k, t, rfl, _⟩ := h
    rfl
  · obtain ⟨k, t, rfl, hk, ht, q⟩ := h
    refine ⟨_, pss_cons (ps_set (i := 2) scIsTest.nd rfl (.inl rfl) (pe_ifExp (pt_cmpR op_eq (pv 0) (pe_glob (v := .str "answer") rfl T.g_ANSWER ⟨_, rfl⟩) (nomark _)) (pe_glob (v := .ref a_ANSWER_TESTS) rfl T.g_ANSWER_TESTS rfl) (pe_glob (v := .ref a_LETTER_TESTS) rfl T.g_LETTER_TESTS rfl)))
      (pss_one (ps_ret (pe_and (pe_callB call_isi (by rfl) T.n_isinstance (by decide +kernel) (pa_cons (pv 1) (pa_cons (pe_bltn (v := .ty "str") (by rfl) T.n_str (by decide +kernel) rfl) pa_nil))) (pe_one (pe_cmpR op_in_seq (pe_bm PySem.F.plainAttrs_str PySem.F.slot_str_removeprefix PySem.F.type_str_removeprefix mt_removeprefix (pv 1) (pa_cons (pe_glob (v := .str "not ") rfl T.g_NOT ⟨_, rfl⟩) pa_nil)) (pv 2) (by rfl)))))), ?_⟩
    have lt := testsNot_len ht
    have h1 : ∀ t ∈ testsL ++ testsL.map (("not " : Str) ++ ·), Txt.removeprefix t "not " ∈ testsL := by decide +kernel
    have h2 : ∀ t ∈ (["level"] : List Str) ++ (["level"] : List Str).map (("not " : Str) ++ ·), Txt.removeprefix t "not " ∈ (["level"] : List Str) := by decide +kernel
    refine ⟨_, rfl, rfl, _, rfl, ite2 (fun e => ?_) (fun e => ?_)⟩
    · have ek : k = "answer" := V.str.inj (of_decide_eq_true e)
      have ht2 : Txt.removeprefix t "not " ∈ (["level"] : List Str) := h2 t (by
        unfold testsNot testsOf at ht
        rw [if_pos ek] at ht
        exact ht)
      refine ⟨_, rfl, _, _, _, _, true, rfl, .ty _, .base (.str _), kit_ty (by decide +kernel), _, rfl, iteT ?_⟩
      refine ⟨_, rfl, rfl, _, _, rfl, rfl, size_of (by omega), _, rfl, _, _, rfl, .inr (T.s_ANSWER_TESTS _), rfl, flat_strs _, ?_⟩
      rw [inV_strs, decide_eq_true ht2]
      exact q
    · have ek : ¬ k = "answer" := fun z => e (decide_eq_true (by rw [z]))
      have ht2 : Txt.removeprefix t "not " ∈ testsL := h1 t (by
        unfold testsNot testsOf at ht
        rw [if_neg ek] at ht
        exact ht)
      refine ⟨_, rfl, _, _, _, _, true, rfl, .ty _, .base (.str _), kit_ty (by decide +kernel), _, rfl, iteT ?_⟩
      refine ⟨_, rfl, rfl, _, _, rfl, rfl, size_of (by omega), _, rfl, _, _, rfl, .inr (T.s_LETTER_TESTS _), rfl, flat_strs _, ?_⟩
      rw [inV_strs, decide_eq_true ht2]
      exact q
theorem ok_is_deed {f : Addr} {fd : FuncData} (F : Fun K "is_deed" "is_deed" sIsDeed f fd) (T : TxR K mg a_LETTERS a_LETTER_TESTS a_LETTER_DEEDS a_ANSWER_TESTS a_ANSWER_DEEDS CR tA tN) : FnOk P w K mg base CX0 1 f fd ["kind", "value"] spIsDeed := by
  refine F.ok scIsDeed (fun vs H Q E h => ?_) (fun cdv A outer s H vs Q E hr h => ?_)
  · obtain ⟨k, t, rfl, _⟩ := h
    rfl
  · obtain ⟨k, t, rfl, hk, ht, q⟩ := h
    refine ⟨_, pss_cons (ps_set (i := 2) scIsDeed.nd rfl (.inl rfl) (pe_ifExp (pt_cmpR op_eq (pv 0) (pe_glob (v := .str "answer") rfl T.g_ANSWER ⟨_, rfl⟩) (nomark _)) (pe_glob (v := .ref a_ANSWER_DEEDS) rfl T.g_ANSWER_DEEDS rfl) (pe_glob (v := .ref a_LETTER_DEEDS) rfl T.g_LETTER_DEEDS rfl)))
      (pss_one (ps_ret (pe_cmpR op_in_seq (pv 1) (pv 2) (by rfl)))), ?_⟩
    have h1 : ∀ t ∈ (["take", "take", "wipe"] : List Str), t ∈ (["take", "wipe"] : List Str) := by decide +kernel
    have h2 : ∀ t ∈ (["count", "count", "drop"] : List Str), t ∈ (["count", "drop"] : List Str) := by decide +kernel
    refine ⟨_, rfl, rfl, _, rfl, ite2 (fun e => ?_) (fun e => ?_)⟩
    · have ek : k = "answer" := V.str.inj (of_decide_eq_true e)
      have ht2 : t ∈ (["count", "drop"] : List Str) := h2 t (by
        unfold deedsOf at ht
        rw [if_pos ek] at ht
        exact ht)
      refine ⟨_, rfl, _, rfl, _, _, rfl, .inr (T.s_ANSWER_DEEDS _), rfl, flat_strs _, ?_⟩
      rw [inV_strs, decide_eq_true ht2]
      exact q
    · have ek : ¬ k = "answer" := fun z => e (decide_eq_true (by rw [z]))
      have ht2 : t ∈ (["take", "wipe"] : List Str) := h1 t (by
        unfold deedsOf at ht
        rw [if_neg ek] at ht
        exact ht)
      refine ⟨_, rfl, _, rfl, _, _, rfl, .inr (T.s_LETTER_DEEDS _), rfl, flat_strs _, ?_⟩
      rw [inV_strs, decide_eq_true ht2]
      exact q
theorem ok_rule_init {f fSeq fKind fTest fDeed : Addr} {fd fdSeq fdKind fdTest fdDeed : FuncData} {dvs : List V} {kws : List (Str × V)} (F : FunD K "__init__" "Rule.__init__" (defArgs sRuleInit) (defBody sRuleInit) (defScope sRuleInit) dvs kws f fd) (T : TxR K mg a_LETTERS a_LETTER_TESTS a_LETTER_DEEDS a_ANSWER_TESTS a_ANSWER_DEEDS CR tA tN)
    (D_is_sequence : Df K mg "is_sequence" sIsSequence ["value"] fSeq fdSeq) (D_is_kind : Df K mg "is_kind" sIsKind ["value"] fKind fdKind) (D_is_test : Df K mg "is_test" sIsTest ["kind", "value"] fTest fdTest) (D_is_deed : Df K mg "is_deed" sIsDeed ["kind", "value"] fDeed fdDeed) :
    FnOk P w K mg base CX0 2 f fd ["self", "kind", "tests", "deeds"] (spRuleInit K CR) := by
  have G_is_sequence : FnOk P w K mg base CX0 1 fSeq fdSeq ["value"] (spIsSeq K) := ok_is_sequence D_is_sequence.F T
  have G_is_kind : FnOk P w K mg base CX0 1 fKind fdKind ["value"] spIsKind := ok_is_kind D_is_kind.F T
  have G_is_test : FnOk P w K mg base CX0 1 fTest fdTest ["kind", "value"] spIsTest := ok_is_test D_is_test.F T
  have G_is_deed : FnOk P w K mg base CX0 1 fDeed fdDeed ["kind", "value"] spIsDeed := ok_is_deed D_is_deed.F T
  refine FunD_ok0 F scRuleInit (fun vs H Q E h => ?_) (fun cdv A outer s H vs Q E hr h => ?_)
  · obtain ⟨p, t, d, dx, r, rfl, _⟩ := h
    rfl
  · obtain ⟨p, t, d, dx, r, rfl, hp, hT, hD, G, q⟩ := h
    refine ⟨_, pss_cons (ps_if (pt_not (pt_val (pe_call G_is_kind (hr.mono (by decide)) rfl D_is_kind.g D_is_kind.F.kp D_is_kind.b .nil pass0 (pa_cons (pv 1) pa_nil)))) (pss_one ps_never) pss_nil)
      (pss_cons (ps_if (PW.pt (pw_or (pt_not (pt_val (pe_call G_is_sequence (hr.mono (by decide)) rfl D_is_sequence.g D_is_sequence.F.kp D_is_sequence.b .nil pass0 (pa_cons (pv 2) pa_nil)))) (pw_or1 (pt_not (pt_val (pe_callB (cr_all rfl) (by rfl) T.n_all (by decide +kernel) (pa_cons (pe_lc (own := [("test", 5)]) (g := gName 5) (tt := tYes) rfl scRuleInit.nd (pi_both (pv 2)) (blkOk_by (own := [("test", 5)]) (N := ["self", "kind", "tests", "deeds", "deed", "test"]) (sc := defScope sRuleInit) (by decide +kernel)) (fun _ _ _ _ _ => (pg_name (i := 5) scRuleInit.nd rfl (Or.inl rfl))) (fun _ _ _ _ _ => pts_nil) (fun _ _ _ _ _ => (pe_call G_is_test (hr.mono (by decide)) rfl D_is_test.g D_is_test.F.kp D_is_test.b .nil pass0 (pa_cons (pv 1) (pa_cons (pv 5) pa_nil))))) pa_nil))))))) (pss_one ps_never) pss_nil)
      (pss_cons (ps_if (PW.pt (pw_or (pt_not (pt_val (pe_call G_is_sequence (hr.mono (by decide)) rfl D_is_sequence.g D_is_sequence.F.kp D_is_sequence.b .nil pass0 (pa_cons (pv 3) pa_nil)))) (pw_or1 (pt_not (pt_val (pe_callB (cr_all rfl) (by rfl) T.n_all (by decide +kernel) (pa_cons (pe_lc (own := [("deed", 4)]) (g := gName 4) (tt := tYes) rfl scRuleInit.nd (pi_both (pv 3)) (blkOk_by (own := [("deed", 4)]) (N := ["self", "kind", "tests", "deeds", "deed", "test"]) (sc := defScope sRuleInit) (by decide +kernel)) (fun _ _ _ _ _ => (pg_name (i := 4) scRuleInit.nd rfl (Or.inl rfl))) (fun _ _ _ _ _ => pts_nil) (fun _ _ _ _ _ => (pe_call G_is_deed (hr.mono (by decide)) rfl D_is_deed.g D_is_deed.F.kp D_is_deed.b .nil pass0 (pa_cons (pv 1) (pa_cons (pv 4) pa_nil))))) pa_nil))))))) (pss_one ps_never) pss_nil)
      (pss_cons (ps_fld (pv 0) (pv 1) rfl)
      (pss_cons (ps_fld (pv 0) (pe_callTy call_tuple_any (by rfl) T.n_tuple (by decide +kernel) (pa_cons (pv 2) pa_nil)) rfl)
      (pss_one (ps_fld (pv 0) (pe_callTy call_tuple_any (by rfl) T.n_tuple (by decide +kernel) (pa_cons (pv 3) pa_nil)) rfl)))))), ?_⟩
    refine ⟨_, rfl, _, rfl, _, rfl, ?_⟩
    rw [decide_eq_true G.k]
    refine iteF ?_
    have lT : (r.ts.map V.str).length ≤ 40000 := by rw [List.length_map]; exact Nat.le_trans G.nt (by decide)
    have lD : (r.ds.map V.str).length ≤ 40000 := by rw [List.length_map]; exact Nat.le_trans G.nd (by decide)
    have exB : ∀ {H H' : Hp} {a : Addr} {xs : List V}, Ex H H' → (SqL K H a xs ∨ SqT K H a xs) → (SqL K H' a xs ∨ SqT K H' a xs) := fun e h => h.imp (Evl.ex_l e) (Evl.ex_t e)
    refine Evl.q_when (b := false) (Evl.et_is (Evl.et_or (Evl.et_not (Evl.et_B (ev_call (v := .bl true) (Evl.ea_cons (Evl.ev_var rfl) Evl.ea_nil) fun H1 e1 Q1 q1 => ⟨t, _, rfl, exB e1 hT, fun H2 e2 => q1 H2 e2⟩)))
      (fun _ => Evl.et_not (Evl.et_B (ev_all (bs := List.replicate (r.ts.map V.str).length true) ?_)))) (by rw [all_true]; rfl)) (fun z => nomatch z) (fun _ H1 e1 => ?_)
    · rw [← range_true]
      refine el_lcB (fun _ => .bl true) (Evl.ev_var rfl) hT lT (fun x => rfl) (fun i x H2 e2 hi => ?_)
      obtain ⟨y, rfl, hy⟩ := strs_at hi
      exact ev_call (Evl.ea_cons (Evl.ev_var rfl) (Evl.ea_cons (Evl.ev_var rfl) Evl.ea_nil)) fun H3 e3 Q3 q3 => ⟨r.k, y, rfl, G.k, G.ts y (List.mem_of_getElem? hy), q3 H3 (Ex.refl _)⟩
    refine Evl.q_when (b := false) (Evl.et_is (Evl.et_or (Evl.et_not (Evl.et_B (ev_call (v := .bl true) (Evl.ea_cons (Evl.ev_var rfl) Evl.ea_nil) fun H2 e2 Q1 q1 => ⟨d, _, rfl, exB (e1.trans e2) hD, fun H3 e3 => q1 H3 e3⟩)))
      (fun _ => Evl.et_not (Evl.et_B (ev_all (bs := List.replicate (r.ds.map V.str).length true) ?_)))) (by rw [all_true]; rfl)) (fun z => nomatch z) (fun _ H2 e2 => ?_)
    · rw [← range_true]
      refine el_lcB (fun _ => .bl true) (Evl.ev_var rfl) (exB e1 hD) lD (fun x => rfl) (fun i x H2 e2 hi => ?_)
      obtain ⟨y, rfl, hy⟩ := strs_at hi
      exact ev_call (Evl.ea_cons (Evl.ev_var rfl) (Evl.ea_cons (Evl.ev_var rfl) Evl.ea_nil)) fun H3 e3 Q3 q3 => ⟨r.k, y, rfl, G.k, G.ds y (List.mem_of_getElem? hy), q3 H3 (Ex.refl _)⟩
    -- the fields
    have e12 := e1.trans e2
    have ntp : ∀ {H' : Hp} {a : Addr} {xs : List V} {fs : List (Str × V)}, H' p = some (.ins CR dx fs) → SqT K H' a xs → ∀ o, SqT K (upd H' p o) a xs := by
      intro H' a xs fs hp' h o
      rcases h with (h | ⟨u, h⟩) | h
      · exact .inl (.inl (by rw [upd_ne (ne_of h hp' (fun z => nomatch z))]; exact h))
      · exact .inl (.inr ⟨u, by rw [upd_ne (ne_of h hp' (fun z => nomatch z))]; exact h⟩)
      · exact .inr h
    have ntl : ∀ {H' : Hp} {a : Addr} {xs : List V} {fs : List (Str × V)}, H' p = some (.ins CR dx fs) → SqL K H' a xs → ∀ o, SqL K (upd H' p o) a xs := by
      intro H' a xs fs hp' h o
      rcases h with (h | ⟨u, h⟩) | h
      · exact .inl (.inl (by rw [upd_ne (ne_of h hp' (fun z => nomatch z))]; exact h))
      · exact .inl (.inr ⟨u, by rw [upd_ne (ne_of h hp' (fun z => nomatch z))]; exact h⟩)
      · exact .inr h
    have hp2 := e12 _ _ hp
    refine ⟨_, rfl, _, rfl, p, CR, dx, _, rfl, hp2, T.cl, T.nK, (by show 0 < 1000; decide), ?_⟩
    have hT2 := (exB e12 hT).imp (fun h => ntl hp2 h (.ins CR dx (putF "kind" (.str r.k) []))) (fun h => ntp hp2 h (.ins CR dx (putF "kind" (.str r.k) [])))
    have hD2 := (exB e12 hD).imp (fun h => ntl hp2 h (.ins CR dx (putF "kind" (.str r.k) []))) (fun h => ntp hp2 h (.ins CR dx (putF "kind" (.str r.k) [])))
    refine ⟨_, rfl, t, _, rfl, hT2, fun t2 H3 e3 s3 => ?_⟩
    have hp3 := e3 _ _ upd_same
    refine ⟨_, rfl, p, CR, dx, _, rfl, hp3, T.cl, T.nT, (by show 1 < 1000; decide), ?_⟩
    have hD3 := (exB e3 hD2).imp (fun h => ntl hp3 h (.ins CR dx (putF "tests" (.ref t2) (putF "kind" (.str r.k) [])))) (fun h => ntp hp3 h (.ins CR dx (putF "tests" (.ref t2) (putF "kind" (.str r.k) []))))
    have s3' := ntp hp3 s3 (.ins CR dx (putF "tests" (.ref t2) (putF "kind" (.str r.k) [])))
    refine ⟨_, rfl, d, _, rfl, hD3, fun d2 H4 e4 s4 => ?_⟩
    have hp4 := e4 _ _ upd_same
    refine ⟨_, rfl, p, CR, dx, _, rfl, hp4, T.cl, T.nD, (by show 2 < 1000; decide), ?_⟩
    refine q _ (fun b o hb hh => ?_) ⟨dx, t2, d2, upd_same, ntp hp4 (Evl.ex_t e4 s3') _, ntp hp4 s4 _⟩
    rw [upd_ne hb]
    refine e4 _ _ ?_
    rw [upd_ne hb]
    refine e3 _ _ ?_
    rw [upd_ne hb]
    exact e12 _ _ hh
/-! ### rules as texts, rules compared -/
theorem rf_k (k : Str) (t d : Addr) : (rf k t d).lookup ("kind" : Str) = some (.str k) := by
  unfold rf
  rw [lookup_putF, if_neg (by decide +kernel), lookup_putF, if_neg (by decide +kernel), lookup_putF, if_pos rfl]
theorem rf_t (k : Str) (t d : Addr) : (rf k t d).lookup ("tests" : Str) = some (.ref t) := by
  unfold rf
  rw [lookup_putF, if_neg (by decide +kernel), lookup_putF, if_pos rfl]
theorem rf_d (k : Str) (t d : Addr) : (rf k t d).lookup ("deeds" : Str) = some (.ref d) := by
  unfold rf
  rw [lookup_putF, if_pos rfl]
theorem sum_small : ∀ (l : List Str) (n : Nat), (∀ x ∈ l, x.length ≤ n) → (l.map (·.length)).sum ≤ l.length * n
  | [], _, _ => Nat.zero_le _
  | x :: r, n, h => by
    have ih := sum_small r n fun y hy => h y (List.mem_cons_of_mem _ hy)
    have hx := h x (List.mem_cons_self ..)
    rw [List.map_cons, List.sum_cons, List.length_cons, Nat.succ_mul]
    omega
theorem join_len (sep : Str) : ∀ l : List Str, (Str.join sep l).length ≤ (l.map (·.length)).sum + l.length * sep.length
  | [] => Nat.zero_le _
  | [x] => by
    show x.length ≤ ([x].map (·.length)).sum + 1 * sep.length
    rw [List.map_cons, List.sum_cons]
    omega
  | x :: y :: r => by
    have ih := join_len sep (y :: r)
    show (x ++ sep ++ Str.join sep (y :: r)).length ≤ _
    rw [Str.length_append, Str.length_append, List.map_cons, List.sum_cons, List.length_cons, Nat.succ_mul]
    omega
theorem join_small {sep : Str} {l : List Str} (h : ∀ x ∈ l, x.length ≤ 16) (hs : sep.length ≤ 6) (hl : l.length ≤ 1000) : (l.map (·.length)).sum + l.length * sep.length ≤ 16777216 ∧ (Str.join sep l).length ≤ 30000 := by
  have h1 := sum_small l 16 h
  have h2 := join_len sep l
  have h3 : l.length * 16 ≤ 1000 * 16 := Nat.mul_le_mul_right _ hl
  have h4 : l.length * sep.length ≤ 1000 * 6 := Nat.mul_le_mul hl hs
  omega
def tText (ts : List Str) : Str := if ts = [] then "" else (" if " : Str) ++ Str.join " and " ts
def dText (ds : List Str) : Str := if ds = [] then "" else (" do " : Str) ++ Str.join " then " ds
def ruleText (r : RuleD) : Str := ("on " : Str) ++ r.k ++ tText r.ts ++ dText r.ds
theorem rule_text_eq (r : RuleD) : Str.join " " ((("on " : Str) ++ r.k) :: ((if r.ts = [] then [] else [("if " : Str) ++ Str.join " and " r.ts]) ++ (if r.ds = [] then [] else [("do " : Str) ++ Str.join " then " r.ds]))) = ruleText r := by
  have e1 : ∀ z : Str, (" " : Str) ++ (("if " : Str) ++ z) = (" if " : Str) ++ z := fun z => by
    rw [← Str.append_assoc]
    have : (" " : Str) ++ ("if " : Str) = (" if " : Str) := by decide +kernel
    rw [this]
  have e2 : ∀ z : Str, (" " : Str) ++ (("do " : Str) ++ z) = (" do " : Str) ++ z := fun z => by
    rw [← Str.append_assoc]
    have : (" " : Str) ++ ("do " : Str) = (" do " : Str) := by decide +kernel
    rw [this]
  have e0 : ("" : Str) = Str.empty := by decide +kernel
  unfold ruleText tText dText
  by_cases ht : r.ts = []
  · by_cases hd : r.ds = []
    · rw [if_pos ht, if_pos hd, if_pos ht, if_pos hd, e0, Str.append_empty, Str.append_empty]
      rfl
    · rw [if_pos ht, if_neg hd, if_pos ht, if_neg hd, e0, Str.append_empty]
      show ("on " : Str) ++ r.k ++ " " ++ (("do " : Str) ++ Str.join " then " r.ds) = _
      rw [Str.append_assoc, e2]
  · by_cases hd : r.ds = []
    · rw [if_neg ht, if_pos hd, if_neg ht, if_pos hd, e0, Str.append_empty]
      show ("on " : Str) ++ r.k ++ " " ++ (("if " : Str) ++ Str.join " and " r.ts) = _
      rw [Str.append_assoc, e1]
    · rw [if_neg ht, if_neg hd, if_neg ht, if_neg hd]
      show ("on " : Str) ++ r.k ++ " " ++ (("if " : Str) ++ Str.join " and " r.ts ++ " " ++ (("do " : Str) ++ Str.join " then " r.ds)) = _
      simp only [Str.append_assoc, e1, e2]
def spRuleEq (K : PySem.W.Frag) (C : Addr) : Sp := fun vs H Q _ => ∃ (p q : Addr) (r u : RuleD), vs = [.ref p, .ref q] ∧ RuleObj K C H p r ∧ RuleObj K C H q u ∧ r.Good ∧ u.Good ∧ ∀ H', Ex H H' → Q (.bl (decide (r.k = u.k) && (decide (r.ts = u.ts) && decide (r.ds = u.ds)))) H'
def spRuleStr (K : PySem.W.Frag) (C : Addr) : Sp := fun vs H Q _ => ∃ (p : Addr) (r : RuleD), vs = [.ref p] ∧ RuleObj K C H p r ∧ r.Good ∧ ∀ H', Ex H H' → Q (.str (ruleText r)) H'
abbrev sRuleEq : Stmt := inClass (topS 18) 2
theorem scRuleEq : FnScope ["self", "other"] ["self", "other"] (defScope sRuleEq) := ⟨rfl, rfl, rfl, by decide +kernel, rfl, by decide +kernel, by decide +kernel⟩
abbrev sRuleStr : Stmt := inClass (topS 18) 3
theorem scRuleStr : FnScope ["self", "parts"] ["self"] (defScope sRuleStr) := ⟨rfl, rfl, rfl, by decide +kernel, rfl, by decide +kernel, by decide +kernel⟩
theorem ok_rule_eq {f : Addr} {fd : FuncData} (F : Fun K "__eq__" "Rule.__eq__" sRuleEq f fd) (T : TxR K mg a_LETTERS a_LETTER_TESTS a_LETTER_DEEDS a_ANSWER_TESTS a_ANSWER_DEEDS CR tA tN) : FnOk P w K mg base CX0 1 f fd ["self", "other"] (spRuleEq K CR) := by
  refine F.ok scRuleEq (fun vs H Q E h => ?_) (fun cdv A outer s H vs Q E hr h => ?_)
  · obtain ⟨p, q, r, u, rfl, _⟩ := h
    rfl
  · obtain ⟨p, q, r, u, rfl, ⟨dx, t, d, hp, ht, hd⟩, ⟨dx2, t2, d2, hp2, ht2, hd2⟩, G, G2, k⟩ := h
    refine ⟨_, pss_one (ps_ret (pe_and (pe_callB call_isi (by rfl) T.n_isinstance (by decide +kernel) (pa_cons (pv 1) (pa_cons (pe_glob (v := .ref CR) rfl T.g_Rule rfl) pa_nil))) (pe_and (pe_cmpR op_eq (pe_fld (pv 0) rfl) (pe_fld (pv 1) rfl) (nomark _)) (pe_and (pe_cmpR (op_eqD hr.units) (pe_fld (pv 0) rfl) (pe_fld (pv 1) rfl) (nomark _)) (pe_one (pe_cmpR (op_eqD hr.units) (pe_fld (pv 0) rfl) (pe_fld (pv 1) rfl) (nomark _))))))), ?_⟩
    refine Evl.s_ret (v := .bl (true && (decide (r.k = u.k) && (decide (r.ts = u.ts) && decide (r.ds = u.ds))))) ?_ fun H2 e2 => k H2 e2
    refine Evl.ev_andV (ev_isi (Evl.ea_cons (Evl.ev_var rfl) (Evl.ea_cons Evl.ev_c Evl.ea_nil)) (.own CR) (fun H1 e1 => .base (.ins (e1 _ _ hp2) T.cl T.ci T.cs T.ct T.co)) (by simp [PySem.W.kitOne])) (fun _ => ?_)
    refine Evl.ev_andV (Evl.ev_is (Evl.ev_op (ev_fld (Evl.ev_var rfl) hp T.cl T.nK (rf_k _ _ _)) (ev_fld (Evl.ev_var rfl) hp2 T.cl T.nK (rf_k _ _ _)) (Evl.rv_eq (x := .str r.k) (y := .str u.k) rfl)) (by simp)) (fun _ => ?_)
    refine Evl.ev_andV (Evl.ev_op (ev_fld (Evl.ev_var rfl) hp T.cl T.nT (rf_t _ _ _)) (ev_fld (Evl.ev_var rfl) hp2 T.cl T.nT (rf_t _ _ _)) (rv_eqT G.pt G2.pt ht ht2)) (fun _ => ?_)
    exact Evl.ev_op (ev_fld (Evl.ev_var rfl) hp T.cl T.nD (rf_d _ _ _)) (ev_fld (Evl.ev_var rfl) hp2 T.cl T.nD (rf_d _ _ _)) (rv_eqT G.pd G2.pd hd hd2)
theorem ok_rule_str {f : Addr} {fd : FuncData} (F : Fun K "__str__" "Rule.__str__" sRuleStr f fd) (T : TxR K mg a_LETTERS a_LETTER_TESTS a_LETTER_DEEDS a_ANSWER_TESTS a_ANSWER_DEEDS CR tA tN) : FnOk P w K mg base CX0 1 f fd ["self"] (spRuleStr K CR) := by
  refine F.ok scRuleStr (fun vs H Q E h => ?_) (fun cdv A outer s H vs Q E hr h => ?_)
  · obtain ⟨p, r, rfl, _⟩ := h
    rfl
  · obtain ⟨p, r, rfl, ⟨dx, t, d, hp, ht, hd⟩, G, k⟩ := h
    refine ⟨_, pss_cons (ps_set (i := 1) scRuleStr.nd rfl (.inl rfl) (pe_lst (pa_cons (pe_joined (.cons pe_str (.cons (pe_fmt (pe_fld (pv 0) rfl)) .nil))) pa_nil)))
      (pss_cut (ps_if (pt_truth (pe_fld (pv 0) rfl) (by intro _; rfl)) (pss_one (ps_expr (pe_bm PySem.F.plainAttrs_list PySem.F.slot_list_append PySem.F.type_list_append mt_append (pv 1) (pa_cons (pe_op op_add_str pe_str (pe_join pe_str (pe_fld (pv 0) rfl))) pa_nil)))) pss_nil)
      (pss_cut (ps_if (pt_truth (pe_fld (pv 0) rfl) (by intro _; rfl)) (pss_one (ps_expr (pe_bm PySem.F.plainAttrs_list PySem.F.slot_list_append PySem.F.type_list_append mt_append (pv 1) (pa_cons (pe_op op_add_str pe_str (pe_join pe_str (pe_fld (pv 0) rfl))) pa_nil)))) pss_nil)
      (pss_one (ps_ret (pe_join pe_str (pv 1)))))), ?_⟩
    have lk := kinds_len G.k
    refine ⟨_, rfl, by decide, ?_⟩
    refine ⟨_, rfl, p, CR, dx, _, _, rfl, hp, T.cl, T.nK, rf_k _ _ _, .inl ⟨r.k, rfl, size_of (by omega), r.k, rfl, ?_, ?_⟩⟩
    · show (Str.empty ++ Str.ofString "on " ++ r.k).length ≤ sizeLine
      rw [Str.length_append]
      have e3 : (Str.empty ++ Str.ofString "on ").length = 3 := by decide +kernel
      exact size_of (by omega)
    refine ⟨by show 1 ≤ sizeLine; decide, fun l nl => ?_⟩
    have eo : Str.empty ++ Str.ofString "on " ++ r.k = ("on " : Str) ++ r.k := by rw [Str.empty_append]
    rw [eo]
    -- the tests
    have e2 : Ex H (upd H l (.lst [.str (("on " : Str) ++ r.k)])) := Ex.new nl
    let pT : List Str := if r.ts = [] then [] else [("if " : Str) ++ Str.join " and " r.ts]
    let pD : List Str := if r.ds = [] then [] else [("do " : Str) ++ Str.join " then " r.ds]
    refine ⟨fun σ H2 => σ = [some (.ref p), some (.ref l)] ∧ Ex H H2 ∧ H2 l = some (.lst (((("on " : Str) ++ r.k) :: pT).map V.str)), ?_, ?_⟩
    · refine ⟨_, rfl, p, CR, dx, _, _, rfl, e2 _ _ hp, T.cl, T.nT, rf_t _ _ _, !(r.ts.map V.str).isEmpty, .inr (.inl ⟨_, Evl.ex_t e2 ht, rfl⟩), ?_⟩
      by_cases h0 : r.ts = []
      · have hpT : pT = [] := if_pos h0
        rw [h0, hpT]
        exact iteF ⟨rfl, e2, upd_same⟩
      · have hpT : pT = [("if " : Str) ++ Str.join " and " r.ts] := if_neg h0
        rw [show (!(r.ts.map V.str).isEmpty) = true by simp [h0], hpT]
        refine iteT ?_
        have lj := join_small (sep := " and ") (l := r.ts) (fun x hx => testsNot_len (G.ts x hx)) (by decide) G.nt
        refine ⟨_, rfl, .inl ⟨rfl, _, SqL.of upd_same⟩, ⟨_, rfl⟩, _, rfl, p, CR, dx, _, _, rfl, e2 _ _ hp, T.cl, T.nT, rf_t _ _ _, _, t, r.ts, rfl, rfl, .inr (Evl.ex_t e2 ht), lj.1, _, _, rfl, rfl, ?_, l, _, _, rfl, rfl, upd_same, by show 1 < sizeLine; decide, ?_⟩
        · rw [TL.join_eq]
          have e3 : (Str.ofString "if ").length = 3 := by decide +kernel
          exact size_of (by omega)
        · rw [TL.join_eq]
          exact ⟨rfl, e2.mut nl, upd_same⟩
    · rintro σ H2 ⟨rfl, e3, hl⟩
      refine ⟨fun σ H3 => σ = [some (.ref p), some (.ref l)] ∧ Ex H H3 ∧ H3 l = some (.lst (((("on " : Str) ++ r.k) :: (pT ++ pD)).map V.str)), ?_, ?_⟩
      · refine ⟨_, rfl, p, CR, dx, _, _, rfl, e3 _ _ hp, T.cl, T.nD, rf_d _ _ _, !(r.ds.map V.str).isEmpty, .inr (.inl ⟨_, Evl.ex_t e3 hd, rfl⟩), ?_⟩
        by_cases h0 : r.ds = []
        · have hpD : pD = [] := if_pos h0
          rw [h0, hpD, List.append_nil]
          exact iteF ⟨rfl, e3, hl⟩
        · have hpD : pD = [("do " : Str) ++ Str.join " then " r.ds] := if_neg h0
          rw [show (!(r.ds.map V.str).isEmpty) = true by simp [h0], hpD]
          refine iteT ?_
          have lj := join_small (sep := " then ") (l := r.ds) (fun x hx => deedsOf_len (G.ds x hx)) (by decide) G.nd
          have lpT : pT.length ≤ 1 := by
            show (if r.ts = [] then [] else [("if " : Str) ++ Str.join " and " r.ts]).length ≤ 1
            split
            · decide
            · exact Nat.le_refl _
          refine ⟨_, rfl, .inl ⟨rfl, _, SqL.of hl⟩, ⟨_, rfl⟩, _, rfl, p, CR, dx, _, _, rfl, e3 _ _ hp, T.cl, T.nD, rf_d _ _ _, _, d, r.ds, rfl, rfl, .inr (Evl.ex_t e3 hd), lj.1, _, _, rfl, rfl, ?_, l, _, _, rfl, rfl, hl, ?_, ?_⟩
          · rw [TL.join_eq]
            have e3 : (Str.ofString "do ").length = 3 := by decide +kernel
            exact size_of (by omega)
          · rw [List.length_map, List.length_cons]
            exact small1000 (by omega)
          · rw [TL.join_eq]
            refine ⟨rfl, e3.mut nl, ?_⟩
            rw [upd_same, List.map_cons, List.map_cons, List.map_append]
            rfl
      · rintro σ H3 ⟨rfl, e4, hl⟩
        refine ⟨⟨_, rfl⟩, _, rfl, _, l, _, rfl, rfl, .inl (SqL.of hl), ?_, ?_⟩
        · show ((((("on " : Str) ++ r.k) :: (pT ++ pD))).map (·.length)).sum + (((("on " : Str) ++ r.k) :: (pT ++ pD))).length * (Str.ofString " ").length ≤ 16777216
          have h1 : ∀ x ∈ ((("on " : Str) ++ r.k) :: (pT ++ pD)), x.length ≤ 40000 := by
            intro x hx
            rcases List.mem_cons.mp hx with rfl | hx
            · rw [Str.length_append]
              have e3 : (Str.ofString "on ").length = 3 := by decide +kernel
              omega
            · rcases List.mem_append.mp hx with hx | hx
              · have hx' : x ∈ (if r.ts = [] then [] else [("if " : Str) ++ Str.join " and " r.ts] : List Str) := hx
                split at hx'
                · cases hx'
                · rw [List.mem_singleton.mp hx', Str.length_append]
                  have lj := join_small (sep := " and ") (l := r.ts) (fun x hx => testsNot_len (G.ts x hx)) (by decide) G.nt
                  have e3 : (Str.ofString "if ").length = 3 := by decide +kernel
                  omega
              · have hx' : x ∈ (if r.ds = [] then [] else [("do " : Str) ++ Str.join " then " r.ds] : List Str) := hx
                split at hx'
                · cases hx'
                · rw [List.mem_singleton.mp hx', Str.length_append]
                  have lj := join_small (sep := " then ") (l := r.ds) (fun x hx => deedsOf_len (G.ds x hx)) (by decide) G.nd
                  have e3 : (Str.ofString "do ").length = 3 := by decide +kernel
                  omega
          have h2 := sum_small _ 40000 h1
          have h3 : (((("on " : Str) ++ r.k) :: (pT ++ pD))).length ≤ 3 := by
            have a1 : pT.length ≤ 1 := by
              show (if r.ts = [] then [] else [("if " : Str) ++ Str.join " and " r.ts] : List Str).length ≤ 1
              split
              · decide
              · exact Nat.le_refl _
            have a2 : pD.length ≤ 1 := by
              show (if r.ds = [] then [] else [("do " : Str) ++ Str.join " then " r.ds] : List Str).length ≤ 1
              split
              · decide
              · exact Nat.le_refl _
            rw [List.length_cons, List.length_append]
            omega
          have e1 : (Str.ofString " ").length = 1 := by decide +kernel
          rw [e1]
          omega
        · rw [TL.join_eq]
          have e : Str.join " " ((("on " : Str) ++ r.k) :: (pT ++ pD)) = ruleText r := rule_text_eq r
          rw [e]
          exact k H3 e4
/-! ### a drawn rule's text, by the law's own words -/
def spRuleText (K : PySem.W.Frag) : Sp := fun vs H Q _ => ∃ (p t d : Addr) (r : RuleD), vs = [.ref p] ∧ SqT K H p [.str r.k, .ref t, .ref d] ∧ SqT K H t (r.ts.map V.str) ∧ SqT K H d (r.ds.map V.str) ∧ r.Good ∧ ∀ H', Ex H H' → Q (.str (ruleText r)) H'
abbrev sRuleText : Stmt := topS 30
theorem scRuleText : FnScope ["_law_rule", "_law_text_here"] ["_law_rule"] (defScope sRuleText) := ⟨rfl, rfl, rfl, by decide +kernel, rfl, by decide +kernel, by decide +kernel⟩
theorem tText_len {ts : List Str} (h : ∀ x ∈ ts, x.length ≤ 16) (hl : ts.length ≤ 1000) : (tText ts).length ≤ 30010 := by
  unfold tText
  split
  · decide
  · have lj := join_small (sep := " and ") h (by decide) hl
    rw [Str.length_append]
    have e3 : (Str.ofString " if ").length = 4 := by decide +kernel
    omega
theorem dText_len {ds : List Str} (h : ∀ x ∈ ds, x.length ≤ 16) (hl : ds.length ≤ 1000) : (dText ds).length ≤ 30010 := by
  unfold dText
  split
  · decide
  · have lj := join_small (sep := " then ") h (by decide) hl
    rw [Str.length_append]
    have e3 : (Str.ofString " do ").length = 4 := by decide +kernel
    omega
theorem ok_rule_text {f : Addr} {fd : FuncData} (F : Fun K "_law_rule_text" "_law_rule_text" sRuleText f fd) : FnOk P w K mg base CX0 1 f fd ["_law_rule"] (spRuleText K) := by
  refine F.ok scRuleText (fun vs H Q E h => ?_) (fun cdv A outer s H vs Q E hr h => ?_)
  · obtain ⟨p, t, d, r, rfl, _⟩ := h
    rfl
  · obtain ⟨p, t, d, r, rfl, hp, ht, hd, G, k⟩ := h
    refine ⟨_, pss_cons (ps_set (i := 1) scRuleText.nd rfl (.inl rfl) (pe_op op_add_str (pe_op op_add_str pe_str (pe_ix ix_tup (pv 0) pe_int (fun _ _ => rfl))) (pe_ifExp (pt_cmpR (op_neD hr.units) (pe_ix ix_tup (pv 0) pe_int (fun _ _ => rfl)) (pe_tup pa_nil) (nomark _)) (pe_op op_add_str pe_str (pe_join pe_str (pe_ix ix_tup (pv 0) pe_int (fun _ _ => rfl)))) pe_str)))
      (pss_one (ps_ret (pe_op op_add_str (pv 1) (pe_ifExp (pt_cmpR (op_neD hr.units) (pe_ix ix_tup (pv 0) pe_int (fun _ _ => rfl)) (pe_tup pa_nil) (nomark _)) (pe_op op_add_str pe_str (pe_join pe_str (pe_ix ix_tup (pv 0) pe_int (fun _ _ => rfl)))) pe_str)))), ?_⟩
    have lk := kinds_len G.k
    have lt := tText_len (fun x hx => testsNot_len (G.ts x hx)) G.nt
    have ld := dText_len (fun x hx => deedsOf_len (G.ds x hx)) G.nd
    have jt := join_small (sep := " and ") (fun x hx => testsNot_len (G.ts x hx)) (by decide) G.nt
    have jd := join_small (sep := " then ") (fun x hx => deedsOf_len (G.ds x hx)) (by decide) G.nd
    have n3 : (Str.ofString "on ").length = 3 := by decide +kernel
    have n4 : (Str.ofString " if ").length = 4 := by decide +kernel
    have n5 : (Str.ofString " do ").length = 4 := by decide +kernel
    have no : Plain ([] : List Str) := fun x hx => nomatch hx
    refine Evl.q_asg (v := .str (("on " : Str) ++ r.k ++ tText r.ts)) ?_ fun H1 e1 => ?_
    · refine ev_adds (ev_adds Evl.ev_c (ev_ixT (j := 0) (Evl.ev_var rfl) Evl.ev_c hp rfl) (size_of (by omega))) ?_ (size_of (by rw [Str.length_append]; omega))
      refine Evl.ev_if (b := !decide (r.ts = [])) (Evl.et_test (Evl.ev_opU (ev_ixT (j := 1) (Evl.ev_var rfl) Evl.ev_c hp rfl) (Evl.eu_tup Evl.ea_nil (Nat.zero_le _)) fun q H2 hq e2 => rv_neT G.pt no (Evl.ex_t e2 ht) (Evl.st_of hq))) (fun hb => ?_) (fun hb => ?_)
      · have h0 : ¬ r.ts = [] := fun z => by
          rw [z] at hb
          cases hb
        unfold tText
        rw [if_neg h0]
        exact ev_adds Evl.ev_c (ev_join Evl.ev_c (ev_ixT (j := 1) (Evl.ev_var rfl) Evl.ev_c hp rfl) (.inr ht) jt.1) (size_of (by omega))
      · have h0 : r.ts = [] := by simpa using hb
        unfold tText
        rw [if_pos h0]
        exact Evl.ev_c
    · refine Evl.s_ret (v := .str (ruleText r)) ?_ fun H2 e2 => k H2 (e1.trans e2)
      refine ev_adds (Evl.ev_var rfl) ?_ (size_of (by rw [Str.length_append, Str.length_append]; omega))
      refine Evl.ev_if (b := !decide (r.ds = [])) (Evl.et_test (Evl.ev_opU (ev_ixT (j := 2) (Evl.ev_var rfl) Evl.ev_c (Evl.ex_t e1 hp) rfl) (Evl.eu_tup Evl.ea_nil (Nat.zero_le _)) fun q H2 hq e2 => rv_neT G.pd no (Evl.ex_t (e1.trans e2) hd) (Evl.st_of hq))) (fun hb => ?_) (fun hb => ?_)
      · have h0 : ¬ r.ds = [] := fun z => by
          rw [z] at hb
          cases hb
        unfold dText
        rw [if_neg h0]
        exact ev_adds Evl.ev_c (ev_join Evl.ev_c (ev_ixT (j := 2) (Evl.ev_var rfl) Evl.ev_c (Evl.ex_t e1 hp) rfl) (.inr (Evl.ex_t e1 hd)) jd.1) (size_of (by omega))
      · have h0 : r.ds = [] := by simpa using hb
        unfold dText
        rw [if_pos h0]
        exact Evl.ev_c
end
end Ov

namespace Ov
open PySem L2 TL
/-! ### texts are read back: no separator begins within what stands ahead of it -/
/-- nowhere in l do these three signs stand -/
def clean3 (s a b : Nat) : List Nat → Bool
  | [] => true
  | x :: r => !(pre [s, a, b] (x :: r)) && clean3 s a b r
theorem clean3_at {s a b : Nat} : ∀ {l : List Nat}, clean3 s a b l = true → ∀ i, pre [s, a, b] (l.drop i) = false
  | [], _, i => by
    rw [List.drop_nil]
    rfl
  | x :: r, h, 0 => by
    have h1 := (Bool.and_eq_true_iff.mp h).1
    simpa using h1
  | x :: r, h, i + 1 => clean3_at (l := r) (Bool.and_eq_true_iff.mp h).2 i
theorem pre3 {s a b : Nat} {l : List Nat} : pre [s, a, b] l = true ↔ ∃ r, l = s :: a :: b :: r := by
  unfold pre
  constructor
  · intro h
    have e : l.take 3 = [s, a, b] := eq_of_beq h
    exact ⟨l.drop 3, by rw [← List.take_append_drop 3 l, e]; simp⟩
  · rintro ⟨r, rfl⟩
    simp
/-- what begins with the separator's first sign may stand behind -/
theorem clean3_app {s a b : Nat} (ha : a ≠ s) (hb : b ≠ s) : ∀ {x y : List Nat}, clean3 s a b x = true → clean3 s a b y = true → (y = [] ∨ ∃ z, y = s :: z) → clean3 s a b (x ++ y) = true
  | [], y, _, hy, _ => hy
  | c :: x, y, hx, hy, h => by
    obtain ⟨h1, h2⟩ := Bool.and_eq_true_iff.mp hx
    have ih := clean3_app ha hb h2 hy h
    show (!(pre [s, a, b] (c :: (x ++ y))) && clean3 s a b (x ++ y)) = true
    rw [ih, Bool.and_true, Bool.not_eq_true']
    cases hp : pre [s, a, b] (c :: (x ++ y)) with
    | false => rfl
    | true =>
      exfalso
      obtain ⟨r, e⟩ := pre3.mp hp
      have h1' : pre [s, a, b] (c :: x) = false := by simpa using h1
      rcases h with rfl | ⟨z, rfl⟩
      · rw [List.append_nil] at hp
        rw [hp] at h1'
        cases h1'
      · match x, e with
        | [], e =>
          injection e with _ e
          injection e with e _
          exact ha e.symm
        | [d], e =>
          injection e with _ e
          injection e with _ e
          injection e with e _
          exact hb e.symm
        | d :: g :: x, e =>
          injection e with e1 e
          injection e with e2 e
          injection e with e3 e
          have : pre [s, a, b] (c :: d :: g :: x) = true := pre3.mpr ⟨x, by rw [e1, e2, e3]⟩
          rw [this] at h1'
          cases h1'
theorem pre_of3 {s a b : Nat} {S l : List Nat} (h : pre (s :: a :: b :: S) l = true) : pre [s, a, b] l = true := by
  unfold pre at h
  have e := eq_of_beq h
  have e2 : l = (s :: a :: b :: S) ++ l.drop (s :: a :: b :: S).length := by
    have q := (List.take_append_drop (s :: a :: b :: S).length l).symm
    rw [e] at q
    exact q
  exact pre3.mpr ⟨_, by rw [e2]; rfl⟩
/-- no separator begins within p, whatever stands behind it -/
theorem free3 {s a b : Nat} {S p rest : List Nat} (ha : a ≠ s) (hb : b ≠ s) (h : clean3 s a b p = true) : ∀ i, i < p.length → pre (s :: a :: b :: S) ((p ++ ((s :: a :: b :: S) ++ rest)).drop i) = false := by
  intro i hi
  cases hp : pre (s :: a :: b :: S) ((p ++ ((s :: a :: b :: S) ++ rest)).drop i) with
  | false => rfl
  | true =>
    exfalso
    obtain ⟨r, e⟩ := pre3.mp (pre_of3 hp)
    rw [List.drop_append_of_le_length (by omega)] at e
    have hc := clean3_at h i
    match hd : p.drop i, e with
    | [], _ =>
      have := congrArg List.length hd
      rw [List.length_drop, List.length_nil] at this
      omega
    | [c], e =>
      injection e with _ e
      injection e with e _
      exact ha e.symm
    | [c, d], e =>
      injection e with _ e
      injection e with _ e
      injection e with e _
      exact hb e.symm
    | c :: d :: g :: x, e =>
      injection e with e1 e
      injection e with e2 e
      injection e with e3 e
      rw [hd, pre3.mpr ⟨x, by rw [e1, e2, e3]⟩] at hc
      cases hc
theorem free3_end {s a b : Nat} {S p : List Nat} (h : clean3 s a b p = true) : ∀ i, i < p.length → pre (s :: a :: b :: S) (p.drop i) = false := by
  intro i _
  cases hp : pre (s :: a :: b :: S) (p.drop i) with
  | false => rfl
  | true =>
    have h1 := pre_of3 hp
    rw [clean3_at h i] at h1
    cases h1
theorem partition3 {y : Str} {s a b : Nat} {S : List Nat} (ey : tl y = s :: a :: b :: S) (ha : a ≠ s) (hb : b ≠ s) {x z : Str} (h : clean3 s a b (tl x) = true) : Txt.partition (x ++ y ++ z) y = (x, y, z) := by
  rw [partition_par _ y (by rw [ey]; simp), tl_append, tl_append, List.append_assoc, ey, par_part (by simp) (free3 ha hb h)]
  show ((⟨([] ++ tl x).toArray⟩ : Str), y, (⟨(tl z).toArray⟩ : Str)) = _
  rw [List.nil_append, mk_tl, mk_tl]
theorem partition3_none {y : Str} {s a b : Nat} {S : List Nat} (ey : tl y = s :: a :: b :: S) {x : Str} (h : clean3 s a b (tl x) = true) : Txt.partition x y = (x, Str.empty, Str.empty) := by
  rw [partition_par _ y (by rw [ey]; simp), ey, par_none (free3_end h)]
theorem spl_join3 {s a b : Nat} {S : List Nat} (ha : a ≠ s) (hb : b ≠ s) : ∀ {parts : List (List Nat)}, parts ≠ [] → (∀ p ∈ parts, clean3 s a b p = true) → spl (s :: a :: b :: S) 0 [] (joinL (s :: a :: b :: S) parts) = parts
  | [], h, _ => absurd rfl h
  | [p], _, hp => by
    show spl (s :: a :: b :: S) 0 [] p = [p]
    rw [spl_last (free3_end (hp p (List.mem_singleton.mpr rfl))), List.nil_append]
  | p :: q :: r, _, hp => by
    show spl (s :: a :: b :: S) 0 [] (p ++ (s :: a :: b :: S ++ joinL (s :: a :: b :: S) (q :: r))) = p :: q :: r
    rw [spl_part (by simp) (free3 ha hb (hp p (List.mem_cons_self ..))), List.nil_append, spl_join3 ha hb (by simp) fun z hz => hp z (List.mem_cons_of_mem _ hz)]
theorem split_join3 {y : Str} {s a b : Nat} {S : List Nat} (ey : tl y = s :: a :: b :: S) (ha : a ≠ s) (hb : b ≠ s) (hk : y.cps.all (· < 256) = true) {parts : List Str} (hne : parts ≠ []) (hp : ∀ p ∈ parts, clean3 s a b (tl p) = true) :
    Txt.split (Str.join y parts) y = parts := by
  refine map_tl_inj ?_
  rw [split_spl _ y (by rw [ey]; simp) (kind_ok hk), tl_join, ey]
  refine spl_join3 ha hb (fun e => hne (List.map_eq_nil_iff.mp e)) fun p h => ?_
  obtain ⟨z, hz, rfl⟩ := List.mem_map.mp h
  exact hp z hz
/-- a joined text behind a word, part by part -/
theorem join_clean {s a b : Nat} (ha : a ≠ s) (hb : b ≠ s) (hd sep : Str) {S1 S2 : List Nat} (e1 : tl hd = s :: S1) (e2 : tl sep = s :: S2) : ∀ (l : List Str), (∀ x ∈ l, clean3 s a b (tl (hd ++ x)) = true) → (∀ x ∈ l, clean3 s a b (tl (sep ++ x)) = true) → l ≠ [] →
    clean3 s a b (tl (hd ++ Str.join sep l)) = true
  | [], _, _, h => absurd rfl h
  | [x], h1, _, _ => h1 x (List.mem_singleton.mpr rfl)
  | x :: y :: r, h1, h2, _ => by
    show clean3 s a b (tl (hd ++ (x ++ sep ++ Str.join sep (y :: r)))) = true
    have e : hd ++ (x ++ sep ++ Str.join sep (y :: r)) = (hd ++ x) ++ (sep ++ Str.join sep (y :: r)) := by simp only [Str.append_assoc]
    rw [e, tl_append]
    refine clean3_app ha hb (h1 x (List.mem_cons_self ..)) (join_clean ha hb sep sep e2 e2 (y :: r) (fun z hz => h2 z (List.mem_cons_of_mem _ hz)) (fun z hz => h2 z (List.mem_cons_of_mem _ hz)) (by simp)) (.inr ⟨S2 ++ tl (Str.join sep (y :: r)), ?_⟩)
    rw [tl_append, e2]
    rfl

/-! ### a good rule's text -/
def allTests : List Str := testsL ++ testsL.map (("not " : Str) ++ ·) ++ (["level", "not level"] : List Str)
theorem tests_all {k t : Str} (h : t ∈ testsNot k) : t ∈ allTests := by
  have h2 : ∀ t ∈ (["level"] : List Str) ++ (["level"] : List Str).map (("not " : Str) ++ ·), t ∈ allTests := by decide +kernel
  unfold testsNot testsOf at h
  split at h
  · exact h2 t h
  · exact List.mem_append_left _ h
def allDeeds : List Str := ["count", "drop", "take", "wipe"]
theorem deeds_all {k t : Str} (h : t ∈ deedsOf k) : t ∈ allDeeds := by
  have h1 : ∀ t ∈ (["count", "count", "drop"] : List Str), t ∈ allDeeds := by decide +kernel
  have h2 : ∀ t ∈ (["take", "take", "wipe"] : List Str), t ∈ allDeeds := by decide +kernel
  unfold deedsOf at h
  split at h
  · exact h1 t h
  · exact h2 t h
theorem tl_do : tl " do " = [32, 100, 111, 32] := by decide +kernel
theorem tl_if : tl " if " = [32, 105, 102, 32] := by decide +kernel
theorem tl_and : tl " and " = [32, 97, 110, 100, 32] := by decide +kernel
theorem tl_then : tl " then " = [32, 116, 104, 101, 110, 32] := by decide +kernel
theorem tText_clean {ts : List Str} (h : ∀ t ∈ ts, t ∈ allTests) : clean3 32 100 111 (tl (tText ts)) = true ∧ (tl (tText ts) = [] ∨ ∃ z, tl (tText ts) = 32 :: z) := by
  unfold tText
  split
  · exact ⟨by decide +kernel, .inl (by decide +kernel)⟩
  · rename_i h0
    have a1 : ∀ t ∈ allTests, clean3 32 100 111 (tl ((" if " : Str) ++ t)) = true := by decide +kernel
    have a2 : ∀ t ∈ allTests, clean3 32 100 111 (tl ((" and " : Str) ++ t)) = true := by decide +kernel
    refine ⟨join_clean (by decide) (by decide) " if " " and " tl_if tl_and ts (fun x hx => a1 x (h x hx)) (fun x hx => a2 x (h x hx)) h0, .inr ⟨105 :: 102 :: 32 :: tl (Str.join " and " ts), ?_⟩⟩
    rw [tl_append, tl_if]
    rfl
theorem read1 {r : RuleD} (g : r.Good) : Txt.partition (ruleText r) " do " = ((("on " : Str) ++ r.k ++ tText r.ts, (if r.ds = [] then "" else " do " : Str), (if r.ds = [] then ("" : Str) else Str.join " then " r.ds)) : Str × Str × Str) := by
  have k1 : ∀ k ∈ kindsAll, clean3 32 100 111 (tl (("on " : Str) ++ k)) = true := by decide +kernel
  have ht := tText_clean (ts := r.ts) fun t h => tests_all (g.ts t h)
  have hc : clean3 32 100 111 (tl (("on " : Str) ++ r.k ++ tText r.ts)) = true := by
    rw [tl_append]
    exact clean3_app (by decide) (by decide) (k1 _ g.k) ht.1 ht.2
  have e0 : ("" : Str) = Str.empty := by decide +kernel
  unfold ruleText dText
  by_cases hd : r.ds = []
  · rw [if_pos hd, if_pos hd, if_pos hd, e0, Str.append_empty]
    exact partition3_none tl_do hc
  · rw [if_neg hd, if_neg hd, if_neg hd, ← Str.append_assoc]
    exact partition3 tl_do (by decide) (by decide) hc
theorem read2 {r : RuleD} (g : r.Good) : Txt.partition (("on " : Str) ++ r.k ++ tText r.ts) " if " = ((("on " : Str) ++ r.k, (if r.ts = [] then "" else " if " : Str), (if r.ts = [] then ("" : Str) else Str.join " and " r.ts)) : Str × Str × Str) := by
  have k1 : ∀ k ∈ kindsAll, clean3 32 105 102 (tl (("on " : Str) ++ k)) = true := by decide +kernel
  have e0 : ("" : Str) = Str.empty := by decide +kernel
  unfold tText
  by_cases ht : r.ts = []
  · rw [if_pos ht, if_pos ht, if_pos ht, e0, Str.append_empty]
    exact partition3_none tl_if (k1 _ g.k)
  · rw [if_neg ht, if_neg ht, if_neg ht, ← Str.append_assoc]
    exact partition3 tl_if (by decide) (by decide) (k1 _ g.k)
theorem read3 (k : Str) : Txt.partition (("on " : Str) ++ k) " " = ((("on" : Str), (" " : Str), k) : Str × Str × Str) := by
  have e : ("on " : Str) = ("on" : Str) ++ " " := by decide +kernel
  rw [e]
  exact partition_app (s := 32) (S := []) (by decide +kernel) (by decide +kernel)
theorem read4 {r : RuleD} (g : r.Good) (h : r.ts ≠ []) : Txt.split (Str.join " and " r.ts) " and " = r.ts := by
  have a1 : ∀ t ∈ allTests, clean3 32 97 110 (tl t) = true := by decide +kernel
  exact split_join3 tl_and (by decide) (by decide) (by decide +kernel) h fun p hp => a1 p (tests_all (g.ts p hp))
theorem read5 {r : RuleD} (g : r.Good) (h : r.ds ≠ []) : Txt.split (Str.join " then " r.ds) " then " = r.ds := by
  have a1 : ∀ t ∈ allDeeds, clean3 32 116 104 (tl t) = true := by decide +kernel
  exact split_join3 tl_then (by decide) (by decide) (by decide +kernel) h fun p hp => a1 p (deeds_all (g.ds p hp))
/-- texts of two good rules are alike only if the rules are -/
theorem ruleText_inj {r u : RuleD} (g : r.Good) (g2 : u.Good) (e : ruleText r = ruleText u) : r.k = u.k ∧ r.ts = u.ts ∧ r.ds = u.ds := by
  have p1 := read1 g
  rw [e, read1 g2] at p1
  injection p1 with a1 p1
  injection p1 with b1 c1
  have p2 := read2 g
  rw [← a1, read2 g2] at p2
  injection p2 with a2 p2
  injection p2 with b2 c2
  have p3 := read3 r.k
  rw [← a2, read3] at p3
  injection p3 with _ p3
  injection p3 with _ a3
  have n1 : ¬ (("" : Str) = " do ") := by decide +kernel
  have n2 : ¬ (("" : Str) = " if ") := by decide +kernel
  refine ⟨a3.symm, ?_, ?_⟩
  · by_cases h1 : r.ts = []
    · by_cases h2 : u.ts = []
      · rw [h1, h2]
      · rw [if_pos h1, if_neg h2] at b2
        exact absurd b2.symm n2
    · by_cases h2 : u.ts = []
      · rw [if_neg h1, if_pos h2] at b2
        exact absurd b2 n2
      · rw [if_neg h1, if_neg h2] at c2
        rw [← read4 g h1, ← c2, read4 g2 h2]
  · by_cases h1 : r.ds = []
    · by_cases h2 : u.ds = []
      · rw [h1, h2]
      · rw [if_pos h1, if_neg h2] at b1
        exact absurd b1.symm n1
    · by_cases h2 : u.ds = []
      · rw [if_neg h1, if_pos h2] at b1
        exact absurd b1 n1
      · rw [if_neg h1, if_neg h2] at c1
        rw [← read5 g h1, ← c1, read5 g2 h2]
end Ov

namespace Ov
open PySem PySem.Spec PyProof.Rows L2
open TL (tl pre par spl joinL)
/-! ### any text read -/
theorem pre_eq {S l : List Nat} (h : pre S l = true) : l = S ++ l.drop S.length := by
  have e : l.take S.length = S := by
    unfold pre at h
    exact beq_iff_eq.mp h
  conv => lhs; rw [← List.take_append_drop S.length l, e]
theorem par_back {S : List Nat} : ∀ (l acc : List Nat) {a b : List Nat}, par S acc l = some (a, b) → acc ++ l = a ++ (S ++ b)
  | [], _, _, _, h => nomatch h
  | c :: r, acc, a, b, h => by
    by_cases hp : pre S (c :: r) = true
    · rw [TL.par_hit hp] at h
      obtain ⟨rfl, rfl⟩ := Prod.mk.inj (Option.some.inj h)
      conv => lhs; rw [pre_eq hp]
    · rw [TL.par_miss (by simpa using hp)] at h
      have e := par_back r _ h
      rw [← e, List.append_assoc]
      rfl
theorem spl_back {S : List Nat} (hS : S ≠ []) : ∀ (n : Nat) (l acc : List Nat), l.length ≤ n → joinL S (spl S 0 acc l) = acc ++ l ∧ spl S 0 acc l ≠ []
  | _, [], acc, _ => by
    rw [TL.spl_nil, List.append_nil]
    exact ⟨rfl, fun z => nomatch z⟩
  | 0, _ :: _, _, h => nomatch h
  | n + 1, c :: r, acc, h => by
    by_cases hp : pre S (c :: r) = true
    · have e := TL.spl_at (L := c :: r) (c := 0) (acc := acc) hS (by rw [List.drop_zero]; exact hp)
      rw [List.drop_zero, Nat.zero_add] at e
      have hd : ((c :: r).drop S.length).length ≤ n := by
        rw [List.length_drop]
        have : 0 < S.length := List.length_pos_iff.mpr hS
        have h2 : (c :: r).length ≤ n + 1 := h
        omega
      obtain ⟨i1, i2⟩ := spl_back hS n ((c :: r).drop S.length) [] hd
      rw [e]
      refine ⟨?_, fun z => nomatch z⟩
      have e2 : joinL S (acc :: spl S 0 [] ((c :: r).drop S.length)) = acc ++ (S ++ joinL S (spl S 0 [] ((c :: r).drop S.length))) := by
        cases q : spl S 0 [] ((c :: r).drop S.length) with
        | nil => exact absurd q i2
        | cons x y =>
          rfl
      rw [e2, i1, List.nil_append]
      conv => rhs; rw [pre_eq hp]
    · rw [TL.spl_miss (by simpa using hp)]
      obtain ⟨i1, i2⟩ := spl_back hS n r (acc ++ [c]) (Nat.le_of_succ_le_succ h)
      refine ⟨?_, i2⟩
      rw [i1, List.append_assoc]
      rfl
theorem part_back (x y : Str) (hy : tl y ≠ []) : (∃ a b, Txt.partition x y = (a, y, b) ∧ x = a ++ y ++ b) ∨ Txt.partition x y = (x, Str.empty, Str.empty) := by
  have e := TL.partition_par x y hy
  cases q : par (tl y) [] (tl x) with
  | none =>
    rw [q] at e
    exact .inr e
  | some p =>
    obtain ⟨a, b⟩ := p
    rw [q] at e
    refine .inl ⟨_, _, e, TL.ext_tl ?_⟩
    have e2 := par_back _ _ q
    rw [List.nil_append] at e2
    rw [TL.tl_append, TL.tl_append, TL.tl_mk, TL.tl_mk, List.append_assoc]
    exact e2
theorem split_back (x y : Str) (hy : tl y ≠ []) (hk : y.cps.all (· < 256) = true) : Str.join y (Txt.split x y) = x ∧ Txt.split x y ≠ [] := by
  have e := TL.split_spl x y hy (TL.kind_ok hk)
  obtain ⟨i1, i2⟩ := spl_back hy _ (tl x) [] (Nat.le_refl _)
  rw [List.nil_append] at i1
  refine ⟨TL.ext_tl ?_, fun z => i2 ?_⟩
  · rw [TL.tl_join, e, i1]
  · rw [← e, z]
    rfl
/-- the text as the program cuts it: on, kind, asks, tests, does, deeds -/
structure CutD where
  on : Str
  kind : Str
  asks : Str
  tests : Str
  does : Str
  deeds : Str
def cutS (s : Str) : CutD :=
  let c := Txt.partition s " do "
  let a := Txt.partition c.1 " if "
  let o := Txt.partition a.1 " "
  ⟨o.1, o.2.2, a.2.1, a.2.2, c.2.1, c.2.2⟩
def partsOf (sign text sep : Str) : List Str := if sign = Str.empty then [] else Txt.split text sep
def goodB (k : Str) (ts ds : List Str) : Bool := decide (k ∈ kindsAll) && (ts.all (fun t => decide (t ∈ testsNot k)) && ds.all fun d => decide (d ∈ deedsOf k))
def readR (s : Str) : Option RuleD :=
  let c := cutS s
  let ts := partsOf c.asks c.tests " and "
  let ds := partsOf c.does c.deeds " then "
  if c.on = "on" ∧ goodB c.kind ts ds = true then some ⟨c.kind, ts, ds⟩ else none
theorem ne_do : tl " do " ≠ [] := by rw [tl_do]; exact fun z => nomatch z
theorem ne_if : tl " if " ≠ [] := by rw [tl_if]; exact fun z => nomatch z
theorem ne_bl : tl " " ≠ [] := by decide +kernel
theorem dText_cut {ds : List Str} {x y z : Str} (h : x = y ++ " do " ++ z) (hd : ds = Txt.split z " then ") : y ++ dText ds = x := by
  obtain ⟨i1, i2⟩ := split_back z " then " (by decide +kernel) (by decide +kernel)
  unfold dText
  rw [hd, if_neg i2, i1, h, Str.append_assoc]
theorem readR_text {s : Str} {r : RuleD} (h : readR s = some r) : ruleText r = s := by
  unfold readR at h
  simp only at h
  split at h
  · rename_i hh
    obtain ⟨h1, h2⟩ := hh
    have h := Option.some.inj h
    have hk : (cutS s).kind ∈ kindsAll := by
      unfold goodB at h2
      exact of_decide_eq_true (Bool.and_eq_true_iff.mp h2).1
    subst h
    unfold cutS at h1 hk ⊢
    simp only at h1 hk ⊢
    unfold ruleText
    simp only
    have e0 : (" do " : Str) ≠ Str.empty := by decide +kernel
    have e1 : (" if " : Str) ≠ Str.empty := by decide +kernel
    have hO : ∀ x : Str, (Txt.partition x " ").1 = "on" → (Txt.partition x " ").2.2 ∈ kindsAll → ("on " : Str) ++ (Txt.partition x " ").2.2 = x := fun x q1 q2 => by
      rcases part_back x " " ne_bl with ⟨a, b, e, hx⟩ | e
      · rw [e] at q1 ⊢
        have q1 : a = "on" := q1
        show ("on " : Str) ++ b = x
        rw [hx, q1]
        congr 1
      · rw [e] at q2
        exact absurd (show Str.empty ∈ kindsAll from q2) (by decide +kernel)
    have hI : ∀ x : Str, (Txt.partition x " if ").1 ++ tText (partsOf (Txt.partition x " if ").2.1 (Txt.partition x " if ").2.2 " and ") = x := fun x => by
      rcases part_back x " if " ne_if with ⟨a, b, e, hx⟩ | e
      · rw [e]
        show a ++ tText (partsOf " if " b " and ") = x
        obtain ⟨i1, i2⟩ := split_back b " and " (by decide +kernel) (by decide +kernel)
        unfold partsOf tText
        rw [if_neg e1, if_neg i2, i1, hx, Str.append_assoc]
      · rw [e]
        show x ++ tText (partsOf Str.empty Str.empty " and ") = x
        unfold partsOf tText
        rw [if_pos rfl, if_pos rfl]
        exact TL.ext_tl (by rw [TL.tl_append]; exact List.append_nil _)
    have hD : ∀ x : Str, (Txt.partition x " do ").1 ++ dText (partsOf (Txt.partition x " do ").2.1 (Txt.partition x " do ").2.2 " then ") = x := fun x => by
      rcases part_back x " do " ne_do with ⟨a, b, e, hx⟩ | e
      · rw [e]
        show a ++ dText (partsOf " do " b " then ") = x
        obtain ⟨i1, i2⟩ := split_back b " then " (by decide +kernel) (by decide +kernel)
        unfold partsOf dText
        rw [if_neg e0, if_neg i2, i1, hx, Str.append_assoc]
      · rw [e]
        show x ++ dText (partsOf Str.empty Str.empty " then ") = x
        unfold partsOf dText
        rw [if_pos rfl, if_pos rfl]
        exact TL.ext_tl (by rw [TL.tl_append]; exact List.append_nil _)
    rw [hO _ h1 hk, hI, hD]
  · cases h
end Ov

namespace Ov
open PySem PySem.Spec PyProof.Rows L2
/-! ### an own error with its field, made where nothing is handled; its context is told -/
section
variable {X : Cx} {CX : CXT} {x : Str} {C fI : Addr} {k : Nat} {fd : FuncData} {ps : List Str} {sp : Sp} {e : Expr} {es : List Expr} {ta : TA} {p pos : Pos}
theorem pmk_calm (T : OexC X.K C) (iC : PySem.W.findIn X.K (.ref C) "__init__" = some (some (.ref fI))) (tI : PySem.W.typeIn X.K (.ref fI) = some (.type "function")) (F1 : FnOk X.prog X.w X.K X.mg X.base CX k fI fd ps sp) (hr : Room (k + 1) X.A) (hb : Binds X.K fd ps [])
    (hx : Passes CX X (fun _ _ _ => False)) (hg : Gl X x) (hm : X.mg x = some (.ref C)) (ha : PA X (e :: es) ta) (hdb : (x == ("__debug__" : Str)) = false := by decide) (he : starEach (e :: es) X.env = (false, eval e X.env) :: starEach es X.env := by rfl)
    (hpl : (backTo pos (starEach es X.env)).any (·.1) = false := by rfl) : L2N.PMk X (.Call (.Name x p) (e :: es) [] pos) (tMkO C sp [] ta) := fun pins s σ H Q I h => by
  obtain ⟨nm, q, N, bs, bm, sn, sub, ab, col, dd, k0, k1, k2, k3, k5, hC, hbm⟩ := T.cls
  refine wpAny_Call_Name_kw (ld_glob I hg hm (PySem.W.callWith_K (h₀ := X.base) I.ok.mod.kin T.kC (thn (ha.run pos pins s σ H _ I h) fun us s1 ⟨vs, H1, I1, r1, hz, q1⟩ => ⟨I1.kIn, ?_⟩) he hpl) hdb)
  obtain ⟨hp, g, dr, tk, os⟩ := s1
  have new : hp.objs.size ≤ hp.objs.size + 1 := Nat.le_succ _
  have q2 := q1 (hp.objs.size + 1) (I1.hok.fresh new)
  rw [List.append_nil] at q2
  have old : ∀ b o, hp.get? b = some o → ((hp.push (PySem.W.kdv_tup us)).push (PySem.HandSPX.excO C hp.objs.size)).get? b = some o := fun b o z => Heap.get?_push_of_some _ (Heap.get?_push_of_some _ z)
  have at1 : ((hp.push (PySem.W.kdv_tup us)).push (PySem.HandSPX.excO C hp.objs.size)).get? (hp.objs.size + 1) = some (PySem.HandSPX.excO C hp.objs.size) := by heap_get
  have I2 := I1.laid (t' := tk) (a := hp.objs.size + 1) (o := exo (hp.objs.size + 1) C none) old new (exo_ok at1)
  have r2 : Vals (V.ref (hp.objs.size + 1) :: vs) (Value.ref (hp.objs.size + 1) :: us) := .cons rfl r1
  have len2 : (Value.ref (hp.objs.size + 1) :: us ++ []).length = ps.length := by
    rw [List.append_nil, ← F1.len _ _ _ _ q2]
    exact r2.length.symm
  have small : us.length ≤ sizeLine := by
    have := Paired.length r1
    rw [sizeLine_eq]
    omega
  have b2 := hb _ (Value.ref (hp.objs.size + 1) :: us) I2.kIn len2
  rw [List.append_nil] at b2
  have go := F1.run _ X.stack _ _ ⟨Value.ref (hp.objs.size + 1) :: us, []⟩ (Value.ref (hp.objs.size + 1) :: us) _ _ (fun _ _ _ => False) (hr.make C us []) (I2.env0.make C us []) b2 r2 q2
  refine wpAny_call (PySem.HandSPX.call_own F.excBase_ValueError (fun Y => PySem.HandSPX.refsVE_contains Y bm hbm) (I1.kIn _ _ hC) (PySem.W.looks_findIn I1.kIn iC) (fun self => PySem.W.bind_fn I1.kIn self tI) small (codeAny_mono go fun r s' hr' => ?_))
  rcases r with er | fl
  · exact hx pins σ _ _ er s' I2 hr'
  · cases fl with
    | ret u =>
      obtain ⟨v, H2, os2, bare2, un2, hok2, rv, ev, d, fs, ea, ed, hd1, q3⟩ := hr'
      obtain ⟨h2, g2, d2, t2, os'⟩ := s'
      subst ev
      obtain ⟨t0, G, J, kG, ge, hoe, na⟩ := mk_end0 (d2 := d2) (t2 := t2) I1 new old un2 hok2 os2 bare2 ea ed hd1
      exact ⟨rv, hp.objs.size + 1, _, _, ⟨G, g2, d2, t2, os'⟩, _, .ref C, some d, rfl, J, kG, ge, hoe, ⟨rfl, rfl, fun vs hv => by cases hv; rfl⟩, rfl, rfl, na, rfl, bare2, raises_own T.exC T.tyC, q3⟩
    | next => exact hr'.elim
    | brk => exact hr'.elim
    | cont => exact hr'.elim
end
/-- what such an error's __init__ promises -/
def spErr (K : PySem.W.Frag) (C : Addr) (f : Str) : Sp := fun vs H Q _ => ∃ (a : Addr) (v : V), vs = [.ref a, v] ∧ H a = some (exo a C none) ∧ ∀ d, H d = none → d ≠ a → Q .non (upd (upd H d (exd d [(f, v)])) a (exo a C (some d)))
section
variable {P : Program} {w : World} {K : PySem.W.Frag} {mg : Str → Option Value} {base : Heap}
abbrev sInvalidruleInit : Stmt := inClass (topS 2) 0
theorem scInvalidruleInit : FnScope ["self", "word"] ["self", "word"] (defScope sInvalidruleInit) := ⟨rfl, rfl, rfl, by decide +kernel, rfl, by decide +kernel, by decide +kernel⟩
abbrev sInvalidtextInit : Stmt := inClass (topS 3) 0
theorem scInvalidtextInit : FnScope ["self", "at"] ["self", "at"] (defScope sInvalidtextInit) := ⟨rfl, rfl, rfl, by decide +kernel, rfl, by decide +kernel, by decide +kernel⟩
theorem ok_err_rule {f C : Addr} {fd : FuncData} (F : Fun K "__init__" "InvalidRule.__init__" sInvalidruleInit f fd) (T : OexC K C) (no : PySem.W.findIn K (.ref C) "word" = some none) : FnOk P w K mg base CX0 1 f fd ["self", "word"] (spErr K C "word") := by
  refine F.ok scInvalidruleInit (fun vs H Q E h => ?_) (fun cdv A outer s H vs Q E hr h => ?_)
  · obtain ⟨a, v, rfl, _⟩ := h
    rfl
  · obtain ⟨a, v, rfl, ha, q⟩ := h
    exact ⟨_, pss_one (ps_ost (pv 0) (pv 1)), _, rfl, _, rfl, a, C, rfl, T, no, .inl ⟨ha, q⟩⟩
theorem ok_err_text {f C : Addr} {fd : FuncData} (F : Fun K "__init__" "InvalidText.__init__" sInvalidtextInit f fd) (T : OexC K C) (no : PySem.W.findIn K (.ref C) "at" = some none) : FnOk P w K mg base CX0 1 f fd ["self", "at"] (spErr K C "at") := by
  refine F.ok scInvalidtextInit (fun vs H Q E h => ?_) (fun cdv A outer s H vs Q E hr h => ?_)
  · obtain ⟨a, v, rfl, _⟩ := h
    rfl
  · obtain ⟨a, v, rfl, ha, q⟩ := h
    exact ⟨_, pss_one (ps_ost (pv 0) (pv 1)), _, rfl, _, rfl, a, C, rfl, T, no, .inl ⟨ha, q⟩⟩
theorem ok_err_textH {f C : Addr} {fd : FuncData} (F : Fun K "__init__" "InvalidText.__init__" sInvalidtextInit f fd) (T : OexC K C) (no : PySem.W.findIn K (.ref C) "at" = some none) : L2H.FnH P w K mg base CX0 1 f fd ["self", "at"] (spErr K C "at") := by
  obtain ⟨oc, od, kV, doc, pm, an, cdv, ct, osl, rfl, lk, hcd⟩ := F.ex
  refine L2H.fn_ofH lk hcd scInvalidtextInit (fun vs H Q E h => ?_) (fun A outer s H vs Q E p hot hr h => ?_)
  · obtain ⟨a, v, rfl, _⟩ := h
    rfl
  · obtain ⟨a, v, rfl, ha, q⟩ := h
    exact ⟨_, pss_one (ps_ost (pv 0) (pv 1)), _, rfl, _, rfl, a, C, rfl, T, no, .inl ⟨ha, q⟩⟩
end
end Ov

namespace Ov
open PySem PySem.Spec PyProof.Rows L2
open Evl (pss_cut tCut Ex Ev EvT EvL EvA EvU)
open TL (tl)
/-! ### tests and deeds of any text -/
theorem rp_app (y z : Str) : Txt.removeprefix (y ++ z) y = z := by
  rw [StrLaws.removeprefix_eq]
  have h1 : decide (0 + y.length ≤ (y ++ z).length) = true := decide_eq_true (by rw [Str.length_append]; omega)
  have h2 : Builtin.Str.subAt (y ++ z) y 0 = true := by
    rw [StrLaws.subAt_eq, List.drop_zero]
    show (((tl (y ++ z)).take y.length) == tl y) = true
    rw [TL.tl_append, TL.len_tl, List.take_left']
    · exact beq_self_eq_true _
    · rfl
  rw [h1, h2]
  simp only [Bool.and_self, if_true]
  refine TL.ext_tl ?_
  rw [TL.tl_mk]
  show (((tl (y ++ z)).drop y.length).take ((y ++ z).length - y.length)) = tl z
  rw [TL.tl_append, TL.len_tl y, List.drop_left' rfl, Str.length_append, TL.len_tl y, Nat.add_sub_cancel_left, TL.len_tl z, List.take_length]
theorem rp_cases (x y : Str) : Txt.removeprefix x y = x ∨ x = y ++ Txt.removeprefix x y := by
  rw [StrLaws.removeprefix_eq]
  split
  · rename_i h
    right
    have h2 := (Bool.and_eq_true_iff.mp h).2
    rw [StrLaws.subAt_eq, List.drop_zero] at h2
    have h3 : (tl x).take y.length = tl y := beq_iff_eq.mp h2
    refine TL.ext_tl ?_
    rw [TL.tl_append, TL.tl_mk]
    show tl x = tl y ++ ((tl x).drop y.length).take (x.length - y.length)
    have e1 : ((tl x).drop y.length).take (x.length - y.length) = (tl x).drop y.length := List.take_of_length_le (by rw [List.length_drop, TL.len_tl x]; exact Nat.le_refl _)
    rw [e1, ← h3]
    exact (List.take_append_drop _ _).symm
  · exact .inl rfl
theorem rp_iff {t : Str} {L : List Str} (hL : ∀ y ∈ L, Txt.removeprefix y "not " = y) : Txt.removeprefix t "not " ∈ L ↔ t ∈ L ++ L.map (("not " : Str) ++ ·) := by
  constructor
  · intro h
    rcases rp_cases t "not " with e | e
    · rw [e] at h
      exact List.mem_append_left _ h
    · exact List.mem_append_right _ (List.mem_map.mpr ⟨_, h, e.symm⟩)
  · intro h
    rcases List.mem_append.mp h with h | h
    · rw [hL _ h]
      exact h
    · obtain ⟨y, hy, rfl⟩ := List.mem_map.mp h
      rw [rp_app]
      exact hy
theorem rp_tests (k t : Str) : decide (Txt.removeprefix t "not " ∈ testsOf k) = decide (t ∈ testsNot k) := by
  refine decide_eq_decide.mpr (rp_iff ?_)
  unfold testsOf
  split
  · decide +kernel
  · decide +kernel
theorem deeds_iff (k t : Str) : decide (t ∈ (if k = "answer" then (["count", "drop"] : List Str) else ["take", "wipe"])) = decide (t ∈ deedsOf k) := by
  refine decide_eq_decide.mpr ?_
  unfold deedsOf
  split <;> simp
def spIsTestX : Sp := fun vs H Q _ => ∃ k t : Str, vs = [.str k, .str t] ∧ t.length ≤ 100000 ∧ Q (.bl (decide (t ∈ testsNot k))) H
def spIsDeedX : Sp := fun vs H Q _ => ∃ k t : Str, vs = [.str k, .str t] ∧ Q (.bl (decide (t ∈ deedsOf k))) H
section
variable {P : Program} {w : World} {K : PySem.W.Frag} {mg : Str → Option Value} {base : Heap} {a_LETTERS a_LETTER_TESTS a_LETTER_DEEDS a_ANSWER_TESTS a_ANSWER_DEEDS CR : Addr} {tA tN : Tok}
theorem ok_is_testX {f : Addr} {fd : FuncData} (F : Fun K "is_test" "is_test" sIsTest f fd) (T : TxR K mg a_LETTERS a_LETTER_TESTS a_LETTER_DEEDS a_ANSWER_TESTS a_ANSWER_DEEDS CR tA tN) : FnOk P w K mg base CX0 1 f fd ["kind", "value"] spIsTestX := by
  refine F.ok scIsTest (fun vs H Q E h => ?_) (fun cdv A outer s H vs Q E hr h => ?_)
  · obtain ⟨k, t, rfl, _⟩ := h
    rfl
  · obtain ⟨k, t, rfl, lt, q⟩ := h
    refine ⟨_, pss_cons (ps_set (i := 2) scIsTest.nd rfl (.inl rfl) (pe_ifExp (pt_cmpR op_eq (pv 0) (pe_glob (v := .str "answer") rfl T.g_ANSWER ⟨_, rfl⟩) (nomark _)) (pe_glob (v := .ref a_ANSWER_TESTS) rfl T.g_ANSWER_TESTS rfl) (pe_glob (v := .ref a_LETTER_TESTS) rfl T.g_LETTER_TESTS rfl)))
      (pss_one (ps_ret (pe_and (pe_callB call_isi (by rfl) T.n_isinstance (by decide +kernel) (pa_cons (pv 1) (pa_cons (pe_bltn (v := .ty "str") (by rfl) T.n_str (by decide +kernel) rfl) pa_nil))) (pe_one (pe_cmpR op_in_seq (pe_bm PySem.F.plainAttrs_str PySem.F.slot_str_removeprefix PySem.F.type_str_removeprefix mt_removeprefix (pv 1) (pa_cons (pe_glob (v := .str "not ") rfl T.g_NOT ⟨_, rfl⟩) pa_nil)) (pv 2) (by rfl)))))), ?_⟩
    rw [← rp_tests] at q
    unfold testsOf at q
    refine ⟨_, rfl, rfl, _, rfl, ite2 (fun e => ?_) (fun e => ?_)⟩
    · rw [if_pos (V.str.inj (of_decide_eq_true e))] at q
      refine ⟨_, rfl, _, _, _, _, true, rfl, .ty _, .base (.str _), kit_ty (by decide +kernel), _, rfl, iteT ?_⟩
      refine ⟨_, rfl, rfl, _, _, rfl, rfl, size_of (by omega), _, rfl, _, _, rfl, .inr (T.s_ANSWER_TESTS _), rfl, flat_strs _, ?_⟩
      rw [inV_strs]
      exact q
    · rw [if_neg (fun z => e (decide_eq_true (by rw [z])))] at q
      refine ⟨_, rfl, _, _, _, _, true, rfl, .ty _, .base (.str _), kit_ty (by decide +kernel), _, rfl, iteT ?_⟩
      refine ⟨_, rfl, rfl, _, _, rfl, rfl, size_of (by omega), _, rfl, _, _, rfl, .inr (T.s_LETTER_TESTS _), rfl, flat_strs _, ?_⟩
      rw [inV_strs]
      exact q
theorem ok_is_deedX {f : Addr} {fd : FuncData} (F : Fun K "is_deed" "is_deed" sIsDeed f fd) (T : TxR K mg a_LETTERS a_LETTER_TESTS a_LETTER_DEEDS a_ANSWER_TESTS a_ANSWER_DEEDS CR tA tN) : FnOk P w K mg base CX0 1 f fd ["kind", "value"] spIsDeedX := by
  refine F.ok scIsDeed (fun vs H Q E h => ?_) (fun cdv A outer s H vs Q E hr h => ?_)
  · obtain ⟨k, t, rfl, _⟩ := h
    rfl
  · obtain ⟨k, t, rfl, q⟩ := h
    refine ⟨_, pss_cons (ps_set (i := 2) scIsDeed.nd rfl (.inl rfl) (pe_ifExp (pt_cmpR op_eq (pv 0) (pe_glob (v := .str "answer") rfl T.g_ANSWER ⟨_, rfl⟩) (nomark _)) (pe_glob (v := .ref a_ANSWER_DEEDS) rfl T.g_ANSWER_DEEDS rfl) (pe_glob (v := .ref a_LETTER_DEEDS) rfl T.g_LETTER_DEEDS rfl)))
      (pss_one (ps_ret (pe_cmpR op_in_seq (pv 1) (pv 2) (by rfl)))), ?_⟩
    rw [← deeds_iff] at q
    refine ⟨_, rfl, rfl, _, rfl, ite2 (fun e => ?_) (fun e => ?_)⟩
    · rw [if_pos (V.str.inj (of_decide_eq_true e))] at q
      refine ⟨_, rfl, _, rfl, _, _, rfl, .inr (T.s_ANSWER_DEEDS _), rfl, flat_strs _, ?_⟩
      rw [inV_strs]
      exact q
    · rw [if_neg (fun z => e (decide_eq_true (by rw [z])))] at q
      refine ⟨_, rfl, _, rfl, _, _, rfl, .inr (T.s_LETTER_DEEDS _), rfl, flat_strs _, ?_⟩
      rw [inV_strs]
      exact q
end
end Ov

namespace Ov
open PySem PySem.Spec PyProof.Rows L2
open Evl (pss_cut tCut Ex Ev EvT EvL EvA EvU)
/-! ### Rule(..) of any texts: made, or InvalidRule -/
theorem rd_err {K : PySem.W.Frag} {C : Addr} {f : Str} {ta : TA} {σ : L2.St} {H : Hp} {v : V} {Q : XK} (h : EvA ta σ H [v]) (k : ∀ d H', Ex H H' → H' d = some (.xd [(f, v)]) → Q (.ref C) (some d) H') : tMkO C (spErr K C f) [] ta σ H Q := by
  refine h H (Ex.refl H) _ fun H1 e1 => ⟨by show 1 ≤ 1000; decide, fun a na => ⟨a, v, rfl, upd_same, fun d nd ne => ⟨rfl, d, [(f, v)], upd_same, ?_, ?_, ?_⟩⟩⟩
  · rw [upd_ne ne]
    exact upd_same
  · rw [upd_ne ne] at nd
    exact nd
  · refine k d _ (e1.trans fun b o hb => ?_) upd_same
    rw [upd_ne ne] at nd
    have nb : b ≠ a := ne_of_none hb na
    have nb2 : b ≠ d := ne_of_none hb nd
    rw [upd_ne nb2, del_ne nb, upd_ne nb, upd_ne nb2, upd_ne nb]
    exact hb
theorem range_atX {α β : Type} (rs : List α) {n : Nat} (hn : n = rs.length) (v : Nat → β) (g : α → β) (h : ∀ i r, rs[i]? = some r → v i = g r) : (List.range n).map v = rs.map g := by
  refine List.ext_getElem? fun i => ?_
  subst hn
  by_cases hi : i < rs.length
  · rw [List.getElem?_map, List.getElem?_map, List.getElem?_range hi, List.getElem?_eq_getElem hi]
    exact congrArg some (h i _ (List.getElem?_eq_getElem hi))
  · rw [List.getElem?_eq_none (by rw [List.length_map, List.length_range]; omega), List.getElem?_eq_none (by rw [List.length_map]; omega)]
theorem el_texts {K : PySem.W.Frag} {σ : L2.St} {H : Hp} {te tl : TE} {a : Addr} {ts : List Str} {j : Nat} {vs : List Nat} (g : Str → Bool) (h : Ev tl σ H (.ref a)) (hx : SqL K H a (ts.map V.str) ∨ SqT K H a (ts.map V.str)) (hz : ts.length ≤ 40000) (hw : ∀ x, wipe ((wipe σ vs).set j (some x)) vs = wipe σ vs)
    (he : ∀ (t : Str) H1, Ex H H1 → t ∈ ts → Ev te ((wipe σ vs).set j (some (.str t))) H1 (.bl (g t))) : EvL (tLc (iBoth K tl) (gName j) tYes te vs) σ H ((ts.map g).map V.bl) := by
  have e : (List.range (ts.map V.str).length).map (fun i => ((ts[i]?).map fun t => V.bl (g t)).getD .non) = (ts.map g).map V.bl := by
    rw [List.map_map]
    exact range_atX ts (List.length_map ..) _ _ fun i r hi => by rw [hi]; rfl
  rw [← e]
  refine el_lcB _ h hx (by rw [List.length_map]; exact hz) hw (fun i x H1 e1 hi => ?_)
  obtain ⟨y, rfl, hy⟩ := strs_at hi
  show Ev te _ H1 (((ts[i]?).map fun t => V.bl (g t)).getD .non)
  rw [hy]
  exact he y H1 e1 (List.mem_of_getElem? hy)
def spRuleInitX (K : PySem.W.Frag) (C CE : Addr) : Sp := fun vs H Q E => ∃ (p t d dx : Addr) (k : Str) (ts ds : List Str), vs = [.ref p, .str k, .ref t, .ref d] ∧ H p = some (.ins C dx []) ∧ (SqL K H t (ts.map V.str) ∨ SqT K H t (ts.map V.str)) ∧ (SqL K H d (ds.map V.str) ∨ SqT K H d (ds.map V.str)) ∧
  ts.length ≤ 1000 ∧ ds.length ≤ 1000 ∧ (∀ x ∈ ts, x.length ≤ 100000) ∧ (goodB k ts ds = true → ∀ H', (∀ b o, b ≠ p → H b = some o → H' b = some o) → RuleObj K C H' p ⟨k, ts, ds⟩ → Q .non H') ∧ (goodB k ts ds = false → ∀ x H', Ex H H' → E (.ref CE) (some x) H')
/-- what is known of the error class -/
structure ErrC (K : PySem.W.Frag) (mg : Str → Option Value) (x : Str) (C f : Addr) : Prop where
  o : OexC K C
  iC : PySem.W.findIn K (.ref C) "__init__" = some (some (.ref f))
  tI : PySem.W.typeIn K (.ref f) = some (.type "function")
  g : mg x = some (.ref C)
theorem all_map {α : Type} (l : List α) (f : α → Bool) : (l.map f).all id = l.all f := by
  induction l with
  | nil => rfl
  | cons x l ih =>
    rw [List.map_cons, List.all_cons, List.all_cons, ih]
    rfl
section
variable {P : Program} {w : World} {K : PySem.W.Frag} {mg : Str → Option Value} {base : Heap} {a_LETTERS a_LETTER_TESTS a_LETTER_DEEDS a_ANSWER_TESTS a_ANSWER_DEEDS CR CE : Addr} {tA tN : Tok}
theorem ok_rule_initX {f fSeq fKind fTest fDeed fE : Addr} {fd fdSeq fdKind fdTest fdDeed fdE : FuncData} {dvs : List V} {kws : List (Str × V)} (F : FunD K "__init__" "Rule.__init__" (defArgs sRuleInit) (defBody sRuleInit) (defScope sRuleInit) dvs kws f fd) (T : TxR K mg a_LETTERS a_LETTER_TESTS a_LETTER_DEEDS a_ANSWER_TESTS a_ANSWER_DEEDS CR tA tN)
    (D_is_sequence : Df K mg "is_sequence" sIsSequence ["value"] fSeq fdSeq) (D_is_kind : Df K mg "is_kind" sIsKind ["value"] fKind fdKind) (D_is_test : Df K mg "is_test" sIsTest ["kind", "value"] fTest fdTest) (D_is_deed : Df K mg "is_deed" sIsDeed ["kind", "value"] fDeed fdDeed)
    (TE : ErrC K mg "InvalidRule" CE fE) (F_err : Fun K "__init__" "InvalidRule.__init__" sInvalidruleInit fE fdE) (b_err : Binds K fdE ["self", "word"] []) (noW : PySem.W.findIn K (.ref CE) "word" = some none) :
    FnOk P w K mg base (L2N.CX P w) 3 f fd ["self", "kind", "tests", "deeds"] (spRuleInitX K CR CE) := by
  have G_is_sequence : FnOk P w K mg base CX0 1 fSeq fdSeq ["value"] (spIsSeq K) := ok_is_sequence D_is_sequence.F T
  have G_is_kind : FnOk P w K mg base CX0 1 fKind fdKind ["value"] spIsKind := ok_is_kind D_is_kind.F T
  have G_is_test : FnOk P w K mg base CX0 1 fTest fdTest ["kind", "value"] spIsTestX := ok_is_testX D_is_test.F T
  have G_is_deed : FnOk P w K mg base CX0 1 fDeed fdDeed ["kind", "value"] spIsDeedX := ok_is_deedX D_is_deed.F T
  have G_err : FnOk P w K mg base CX0 1 fE fdE ["self", "word"] (spErr K CE "word") := ok_err_rule F_err TE.o noW
  refine FunD.ok F scRuleInit (fun vs H Q E h => ?_) (fun cdv A outer s H vs Q E hr h => ?_)
  · obtain ⟨p, t, d, dx, k, ts, ds, rfl, _⟩ := h
    rfl
  · obtain ⟨p, t, d, dx, k, ts, ds, rfl, hp, hT, hD, nT, nD, lT, q, qe⟩ := h
    refine ⟨_, pss_cons (ps_if (pt_not (pt_val (pe_call G_is_kind (hr.mono (by decide)) rfl D_is_kind.g D_is_kind.F.kp D_is_kind.b .nil pass0 (pa_cons (pv 1) pa_nil)))) (pss_one (L2N.ps_raise rfl (L2N.takes_of rfl rfl rfl rfl) (pmk_calm TE.o TE.iC TE.tI G_err (hr.mono (by decide)) b_err pass0 rfl TE.g (pa_cons pe_str pa_nil)))) pss_nil)
      (pss_cons (ps_if (PW.pt (pw_or (pt_not (pt_val (pe_call G_is_sequence (hr.mono (by decide)) rfl D_is_sequence.g D_is_sequence.F.kp D_is_sequence.b .nil pass0 (pa_cons (pv 2) pa_nil)))) (pw_or1 (pt_not (pt_val (pe_callB (cr_all rfl) (by rfl) T.n_all (by decide +kernel) (pa_cons (pe_lc (own := [("test", 5)]) (g := gName 5) (tt := tYes) rfl scRuleInit.nd (pi_both (pv 2)) (blkOk_by (own := [("test", 5)]) (N := ["self", "kind", "tests", "deeds", "deed", "test"]) (sc := defScope sRuleInit) (by decide +kernel)) (fun _ _ _ _ _ => (pg_name (i := 5) scRuleInit.nd rfl (Or.inl rfl))) (fun _ _ _ _ _ => pts_nil) (fun _ _ _ _ _ => (pe_call G_is_test (hr.mono (by decide)) rfl D_is_test.g D_is_test.F.kp D_is_test.b .nil pass0 (pa_cons (pv 1) (pa_cons (pv 5) pa_nil))))) pa_nil))))))) (pss_one (L2N.ps_raise rfl (L2N.takes_of rfl rfl rfl rfl) (pmk_calm TE.o TE.iC TE.tI G_err (hr.mono (by decide)) b_err pass0 rfl TE.g (pa_cons pe_str pa_nil)))) pss_nil)
      (pss_cons (ps_if (PW.pt (pw_or (pt_not (pt_val (pe_call G_is_sequence (hr.mono (by decide)) rfl D_is_sequence.g D_is_sequence.F.kp D_is_sequence.b .nil pass0 (pa_cons (pv 3) pa_nil)))) (pw_or1 (pt_not (pt_val (pe_callB (cr_all rfl) (by rfl) T.n_all (by decide +kernel) (pa_cons (pe_lc (own := [("deed", 4)]) (g := gName 4) (tt := tYes) rfl scRuleInit.nd (pi_both (pv 3)) (blkOk_by (own := [("deed", 4)]) (N := ["self", "kind", "tests", "deeds", "deed", "test"]) (sc := defScope sRuleInit) (by decide +kernel)) (fun _ _ _ _ _ => (pg_name (i := 4) scRuleInit.nd rfl (Or.inl rfl))) (fun _ _ _ _ _ => pts_nil) (fun _ _ _ _ _ => (pe_call G_is_deed (hr.mono (by decide)) rfl D_is_deed.g D_is_deed.F.kp D_is_deed.b .nil pass0 (pa_cons (pv 1) (pa_cons (pv 4) pa_nil))))) pa_nil))))))) (pss_one (L2N.ps_raise rfl (L2N.takes_of rfl rfl rfl rfl) (pmk_calm TE.o TE.iC TE.tI G_err (hr.mono (by decide)) b_err pass0 rfl TE.g (pa_cons pe_str pa_nil)))) pss_nil)
      (pss_cons (ps_fld (pv 0) (pv 1) rfl)
      (pss_cons (ps_fld (pv 0) (pe_callTy call_tuple_any (by rfl) T.n_tuple (by decide +kernel) (pa_cons (pv 2) pa_nil)) rfl)
      (pss_one (ps_fld (pv 0) (pe_callTy call_tuple_any (by rfl) T.n_tuple (by decide +kernel) (pa_cons (pv 3) pa_nil)) rfl)))))), ?_⟩
    have exB : ∀ {H H' : Hp} {a : Addr} {xs : List V}, Ex H H' → (SqL K H a xs ∨ SqT K H a xs) → (SqL K H' a xs ∨ SqT K H' a xs) := fun e h => h.imp (Evl.ex_l e) (Evl.ex_t e)
    have lD : ∀ x ∈ ds, True := fun _ _ => trivial
    rcases Decidable.em (¬ k ∈ kindsAll) with hk | hk
    · refine Evl.q_when (b := true) (Evl.et_is (Evl.et_not (Evl.et_B (ev_call (v := .bl (decide (k ∈ kindsAll))) (Evl.ea_cons (Evl.ev_var rfl) Evl.ea_nil) fun H1 e1 Q1 q1 => ⟨k, rfl, q1 H1 (Ex.refl _)⟩))) (by rw [decide_eq_false hk]; rfl)) (fun _ H1 e1 => ?_) (fun z => nomatch z)
      refine rd_err (Evl.ea_cons Evl.ev_c Evl.ea_nil) fun x H2 e2 _ => qe ?_ x H2 (e1.trans e2)
      unfold goodB
      rw [decide_eq_false hk]
      rfl
    replace hk := Decidable.of_not_not hk
    refine Evl.q_when (b := false) (Evl.et_is (Evl.et_not (Evl.et_B (ev_call (v := .bl (decide (k ∈ kindsAll))) (Evl.ea_cons (Evl.ev_var rfl) Evl.ea_nil) fun H1 e1 Q1 q1 => ⟨k, rfl, q1 H1 (Ex.refl _)⟩))) (by rw [decide_eq_true hk]; rfl)) (fun z => nomatch z) (fun _ H0 e0 => ?_)
    refine Evl.q_when (b := !ts.all fun t => decide (t ∈ testsNot k)) (Evl.et_is (Evl.et_or (Evl.et_not (Evl.et_B (ev_call (v := .bl true) (Evl.ea_cons (Evl.ev_var rfl) Evl.ea_nil) fun H1 e1 Q1 q1 => ⟨t, _, rfl, exB (e0.trans e1) hT, fun H2 e2 => q1 H2 e2⟩)))
      (fun _ => Evl.et_not (Evl.et_B (ev_all (bs := ts.map fun t => decide (t ∈ testsNot k)) ?_)))) (by rw [all_map]; rfl)) (fun hb H1 e1 => ?_) (fun hb H1 e1' => ?_)
    · exact el_texts (fun t => decide (t ∈ testsNot k)) (Evl.ev_var rfl) (exB e0 hT) (Nat.le_trans nT (by decide)) (fun _ => rfl) fun y H1 e1 hy => ev_call (Evl.ea_cons (Evl.ev_var rfl) (Evl.ea_cons (Evl.ev_var rfl) Evl.ea_nil)) fun H3 e3 Q3 q3 => ⟨k, y, rfl, lT y hy, q3 H3 (Ex.refl _)⟩
    · refine rd_err (Evl.ea_cons Evl.ev_c Evl.ea_nil) fun x H2 e2 _ => qe ?_ x H2 ((e0.trans e1).trans e2)
      unfold goodB
      rw [show (ts.all fun t => decide (t ∈ testsNot k)) = false by simpa using hb]
      simp
    have ht : (ts.all fun t => decide (t ∈ testsNot k)) = true := by simpa using hb
    have e1 := e0.trans e1'
    refine Evl.q_when (b := !ds.all fun t => decide (t ∈ deedsOf k)) (Evl.et_is (Evl.et_or (Evl.et_not (Evl.et_B (ev_call (v := .bl true) (Evl.ea_cons (Evl.ev_var rfl) Evl.ea_nil) fun H2 e2 Q1 q1 => ⟨d, _, rfl, exB (e1.trans e2) hD, fun H3 e3 => q1 H3 e3⟩)))
      (fun _ => Evl.et_not (Evl.et_B (ev_all (bs := ds.map fun t => decide (t ∈ deedsOf k)) ?_)))) (by rw [all_map]; rfl)) (fun hb H2 e2 => ?_) (fun hb2 H2 e2 => ?_)
    · exact el_texts (fun t => decide (t ∈ deedsOf k)) (Evl.ev_var rfl) (exB e1 hD) (Nat.le_trans nD (by decide)) (fun _ => rfl) fun y H2 e2 hy => ev_call (Evl.ea_cons (Evl.ev_var rfl) (Evl.ea_cons (Evl.ev_var rfl) Evl.ea_nil)) fun H3 e3 Q3 q3 => ⟨k, y, rfl, q3 H3 (Ex.refl _)⟩
    · refine rd_err (Evl.ea_cons Evl.ev_c Evl.ea_nil) fun x H3 e3 _ => qe ?_ x H3 ((e1.trans e2).trans e3)
      unfold goodB
      rw [show (ds.all fun t => decide (t ∈ deedsOf k)) = false by simpa using hb]
      simp
    have hd2 : (ds.all fun t => decide (t ∈ deedsOf k)) = true := by simpa using hb2
    have hgood : goodB k ts ds = true := by
      unfold goodB
      rw [decide_eq_true hk, ht, hd2]
      rfl
    -- the fields
    have e12 := e1.trans e2
    have ntp : ∀ {H' : Hp} {a : Addr} {xs : List V} {fs : List (Str × V)}, H' p = some (.ins CR dx fs) → SqT K H' a xs → ∀ o, SqT K (upd H' p o) a xs := by
      intro H' a xs fs hp' h o
      rcases h with (h | ⟨u, h⟩) | h
      · exact .inl (.inl (by rw [upd_ne (ne_of h hp' (fun z => nomatch z))]; exact h))
      · exact .inl (.inr ⟨u, by rw [upd_ne (ne_of h hp' (fun z => nomatch z))]; exact h⟩)
      · exact .inr h
    have ntl : ∀ {H' : Hp} {a : Addr} {xs : List V} {fs : List (Str × V)}, H' p = some (.ins CR dx fs) → SqL K H' a xs → ∀ o, SqL K (upd H' p o) a xs := by
      intro H' a xs fs hp' h o
      rcases h with (h | ⟨u, h⟩) | h
      · exact .inl (.inl (by rw [upd_ne (ne_of h hp' (fun z => nomatch z))]; exact h))
      · exact .inl (.inr ⟨u, by rw [upd_ne (ne_of h hp' (fun z => nomatch z))]; exact h⟩)
      · exact .inr h
    have hp2 := e12 _ _ hp
    refine ⟨_, rfl, _, rfl, p, CR, dx, _, rfl, hp2, T.cl, T.nK, (by show 0 < 1000; decide), ?_⟩
    have hT2 := (exB e12 hT).imp (fun h => ntl hp2 h (.ins CR dx (putF "kind" (.str k) []))) (fun h => ntp hp2 h (.ins CR dx (putF "kind" (.str k) [])))
    have hD2 := (exB e12 hD).imp (fun h => ntl hp2 h (.ins CR dx (putF "kind" (.str k) []))) (fun h => ntp hp2 h (.ins CR dx (putF "kind" (.str k) [])))
    refine ⟨_, rfl, t, _, rfl, hT2, fun t2 H3 e3 s3 => ?_⟩
    have hp3 := e3 _ _ upd_same
    refine ⟨_, rfl, p, CR, dx, _, rfl, hp3, T.cl, T.nT, (by show 1 < 1000; decide), ?_⟩
    have hD3 := (exB e3 hD2).imp (fun h => ntl hp3 h (.ins CR dx (putF "tests" (.ref t2) (putF "kind" (.str k) [])))) (fun h => ntp hp3 h (.ins CR dx (putF "tests" (.ref t2) (putF "kind" (.str k) []))))
    have s3' := ntp hp3 s3 (.ins CR dx (putF "tests" (.ref t2) (putF "kind" (.str k) [])))
    refine ⟨_, rfl, d, _, rfl, hD3, fun d2 H4 e4 s4 => ?_⟩
    have hp4 := e4 _ _ upd_same
    refine ⟨_, rfl, p, CR, dx, _, rfl, hp4, T.cl, T.nD, (by show 2 < 1000; decide), ?_⟩
    refine q hgood _ (fun b o hb hh => ?_) ⟨dx, t2, d2, upd_same, ntp hp4 (Evl.ex_t e4 s3') _, ntp hp4 s4 _⟩
    rw [upd_ne hb]
    refine e4 _ _ ?_
    rw [upd_ne hb]
    refine e3 _ _ ?_
    rw [upd_ne hb]
    exact e12 _ _ hh
end
end Ov

namespace Ov
open PySem PySem.Spec PyProof.Rows L2
open Evl (pss_cut tCut Ex Ev EvT EvL EvA EvU)
/-! ### a class that stands in a local is called -/
section
variable {X : Cx} {CX : CXT} {k i : Nat} {f C : Addr} {fd : FuncData} {ps : List Str} {sp : Sp} {E : XK} {x : Str} {p pos : Pos} {e : Expr} {es : List Expr} {t : TA}
def tMakeV (i : Nat) (C : Addr) (sp : Sp) (E : XK) (t : TA) : TE := fun σ H Q => σ[i]? = some (some (.ref C)) ∧ tMake C sp [] E t σ H Q
theorem pe_makeV (i : Nat) (M : Mk X.K C f) (F : FnOk X.prog X.w X.K X.mg X.base CX k f fd ps sp) (hr : Room (k + 1) X.A) (hb : Binds X.K fd ps []) (hx : Passes CX X E) (ha : PA X (e :: es) t) (hN : X.N[i]? = some x := by rfl)
    (hv : Vis X.env.scope x := by first | exact Or.inl rfl | exact Or.inr (Or.inl rfl) | exact Or.inr (Or.inr rfl)) (hd : (x == ("__debug__" : Str)) = false := by decide) (hcd : (x == ("__classdict__" : Str)) = false := by decide)
    (he : starEach (e :: es) X.env = (false, eval e X.env) :: starEach es X.env := by rfl) (hpl : (backTo pos (starEach es X.env)).any (·.1) = false := by rfl) :
    PE X (.Call (.Name x p) (e :: es) [] pos) (tMakeV i C sp E t) := by
  refine ⟨fun pins s σ H Q I h => ?_⟩
  obtain ⟨h1, h2⟩ := h
  have hp : PE X (.Name x p) (tVar i) := pv i hN hv hd hcd
  refine wpAny_Call_Name_kw (thn (hp.run pins s σ H (fun v H1 => v = .ref C ∧ tMake C sp [] E t σ H1 Q) I ⟨_, h1, rfl, h2⟩) fun v s1 hh => ?_)
  obtain ⟨y, H1, I1, r1, e1, q1⟩ := hh
  subst e1
  obtain rfl : v = Value.ref C := r1
  refine PySem.W.callWith_K (h₀ := X.base) I1.ok.mod.kin M.kp (thn (ha.run pos pins s1 σ H1 _ I1 q1) fun us s2 h3 => ?_) he hpl
  obtain ⟨vs, H2, I2, r, q⟩ := h3
  exact ⟨I2.kIn, run_make M F hr hb .nil hx I2 r q⟩
end
/-! ### a rule read from its text -/
def spSplit (K : PySem.W.Frag) : Sp := fun vs H Q _ => ∃ (g x y : Str), vs = [.str g, .str x, .str y] ∧ (y.length == 0) = false ∧ g.length ≤ 100000 ∧ x.length ≤ 99990 ∧ ∀ p H', Ex H H' → (SqL K H' p ((if g = Str.empty then [] else Txt.split x y).map V.str) ∨ SqT K H' p ((if g = Str.empty then [] else Txt.split x y).map V.str)) → Q (.ref p) H'
theorem truth_str (g : Str) : decide (g ≠ Str.empty) = ((g.length : Int) != 0) := by
  by_cases h : g = Str.empty
  · rw [h]
    rfl
  · have h2 : g.length ≠ 0 := fun z => h (TL.ext_tl (by rw [(TL.len0_tl g).mp z]; rfl))
    rw [decide_eq_true h]
    symm
    simpa using h2
abbrev rPart : V → List V → Hp → VK → Prop := fun x xs H Q => ∃ a b, x = V.str a ∧ xs = [V.str b] ∧ (b.length == 0) = false ∧ a.length ≤ sizeLine ∧ ∀ (p : Addr), H p = none → Q (V.ref p) (upd H p (HO.tup [V.str (Txt.partition a b).fst, V.str (Txt.partition a b).snd.fst, V.str (Txt.partition a b).snd.snd]))
theorem q_part {K : PySem.W.Frag} {σ : L2.St} {H : Hp} {D : Ends} {tz : TS} {n i j k : Nat} {a b x y z : Str} (e : Txt.partition a b = (x, y, z)) (h : σ[n]? = some (some (.str a))) (hb : (b.length == 0) = false) (hz : a.length ≤ sizeLine)
    (c : ∀ H1, Ex H H1 → tz D (((σ.set i (some (.str x))).set j (some (.str y))).set k (some (.str z))) H1) : tSeq (tAsg (tM1 rPart (tVar n) (tC (.str b))) (gTup K 3 (gCons (gName i) (gCons (gName j) (gCons (gName k) gNil))))) tz D σ H := by
  refine ⟨_, h, ⟨_, rfl⟩, a, b, rfl, rfl, hb, hz, fun p np => ⟨p, _, rfl, Evl.st_of upd_same, rfl, _, _, rfl, _, _, rfl, _, _, rfl, rfl, ?_⟩⟩
  rw [e]
  exact c _ (Ex.new np)
section
variable {P : Program} {w : World} {K : PySem.W.Frag} {mg : Str → Option Value} {base : Heap}
abbrev sSplitPart : Stmt := topS 17
theorem scSplitPart : FnScope ["sign", "text", "between"] ["sign", "text", "between"] (defScope sSplitPart) := ⟨rfl, rfl, rfl, by decide +kernel, rfl, by decide +kernel, by decide +kernel⟩
abbrev sRuleRead : Stmt := inClass (topS 18) 1
theorem scRuleRead : FnScope ["cls", "text", "condition", "does", "deeds", "start", "asks", "tests", "on", "_", "kind"] ["cls", "text"] (defScope sRuleRead) := ⟨rfl, rfl, rfl, by decide +kernel, rfl, by decide +kernel, by decide +kernel⟩
theorem ok_split_part {f : Addr} {fd : FuncData} (F : Fun K "split_part" "split_part" sSplitPart f fd) : FnOk P w K mg base CX0 1 f fd ["sign", "text", "between"] (spSplit K) := by
  refine F.ok scSplitPart (fun vs H Q E h => ?_) (fun cdv A outer s H vs Q E hr h => ?_)
  · obtain ⟨g, x, y, rfl, _⟩ := h
    rfl
  · obtain ⟨g, x, y, rfl, hy, hg, hx, q⟩ := h
    refine ⟨_, pss_one (ps_ret (pe_ifExp (pt_truth (pv 0) (by intro _; rfl)) (pe_split (pv 1) (pv 2)) (pe_tup pa_nil))), ?_⟩
    refine ⟨_, rfl, decide (g ≠ Str.empty), ⟨size_of hg, truth_str g⟩, ?_⟩
    by_cases h : g = Str.empty
    · rw [decide_eq_false (fun z => z h)]
      rw [if_pos h] at q
      exact iteF ⟨Nat.zero_le _, fun p np => q p _ (Ex.new np) (.inr (Evl.st_of upd_same))⟩
    · rw [decide_eq_true h]
      rw [if_neg h] at q
      exact iteT ⟨_, rfl, ⟨_, rfl⟩, _, rfl, x, y, rfl, rfl, hy, size_of (by omega), fun p np => q p _ (Ex.new np) (.inl (Evl.sq_of upd_same))⟩
end
end Ov

namespace Ov
open PySem PySem.Spec PyProof.Rows L2
open Evl (pss_cut tCut Ex Ev EvT EvL EvA EvU)
open TL (tl joinL)
/-! ### Rule.read of any text -/
def spRuleReadX (K : PySem.W.Frag) (C CT : Addr) : Sp := fun vs H Q E => ∃ (s : Str), vs = [.ref C, .str s] ∧ s.length ≤ 900 ∧ (∀ r, readR s = some r → ∀ p H', Ex H H' → RuleObj K C H' p r → Q (.ref p) H') ∧ (readR s = none → ∀ x H', Ex H H' → H' x = some (.xd [("at", .int 0)]) → E (.ref CT) (some x) H')
/-- some list or tuple of these is told -/
def EvS (K : PySem.W.Frag) (te : TE) (σ : L2.St) (H : Hp) (xs : List V) : Prop := ∀ H1, Ex H H1 → ∀ Q : VK, (∀ p H2, Ex H1 H2 → (SqL K H2 p xs ∨ SqT K H2 p xs) → Q (.ref p) H2) → te σ H1 Q
theorem es_split {K : PySem.W.Frag} {σ : L2.St} {H : Hp} {ta : TA} {g x y : Str} (h : EvA ta σ H [.str g, .str x, .str y]) (hy : (y.length == 0) = false) (hg : g.length ≤ 100000) (hx : x.length ≤ 99990) :
    EvS K (tCall (spSplit K) [] E0 ta) σ H ((partsOf g x y).map V.str) := fun H1 e1 Q q => h H1 e1 _ fun H2 e2 => ⟨g, x, y, rfl, hy, hg, hx, fun p H3 e3 st => q p H3 (e2.trans e3) st⟩
theorem rd_ruleX {K : PySem.W.Frag} {CR CE : Addr} {σ : L2.St} {H : Hp} {ta t3 t4 : TE} {k : Str} {ts ds : List Str} {Q : VK} {E : XK} (hk : Ev ta σ H (.str k)) (ht : EvS K t3 σ H (ts.map V.str)) (hd : EvS K t4 σ H (ds.map V.str)) (nT : ts.length ≤ 1000) (nD : ds.length ≤ 1000) (lT : ∀ x ∈ ts, x.length ≤ 100000)
    (yes : goodB k ts ds = true → ∀ p H', Ex H H' → RuleObj K CR H' p ⟨k, ts, ds⟩ → Q (.ref p) H') (no : goodB k ts ds = false → ∀ x H', Ex H H' → E (.ref CE) (some x) H') : tMake CR (spRuleInitX K CR CE) [] E (tCons ta (tCons t3 (tCons t4 tNil))) σ H Q := by
  refine hk H (Ex.refl _) _ fun H2 e2 => ht H2 e2 _ fun t H3 e3 st => hd H3 (e2.trans e3) _ fun d H4 e4 sd x dx nx ndx ne => ?_
  have e5 : Ex H4 (upd (upd H4 dx (.own x)) x (.ins CR dx [])) := (Ex.new ndx).trans (Ex.new (by rw [upd_ne ne.symm]; exact nx))
  have e25 := ((e2.trans e3).trans e4).trans e5
  refine ⟨x, t, d, dx, k, ts, ds, rfl, upd_same, st.imp (Evl.ex_l (e4.trans e5)) (Evl.ex_t (e4.trans e5)), sd.imp (Evl.ex_l e5) (Evl.ex_t e5), nT, nD, lT, fun hg H5 k5 ro => ⟨rfl, yes hg x H5 (fun b o hb => ?_) ro⟩, fun hg y H5 e6 => no hg y H5 (e25.trans e6)⟩
  exact k5 b o (ne_of_none (((e2.trans e3).trans e4) _ _ hb) nx) (e25 _ _ hb)
theorem part_len (x y : Str) (hy : tl y ≠ []) : (Txt.partition x y).1.length ≤ x.length ∧ (Txt.partition x y).2.1.length ≤ y.length ∧ (Txt.partition x y).2.2.length ≤ x.length := by
  rcases part_back x y hy with ⟨a, b, e, hx⟩ | e
  · rw [e]
    have h : x.length = a.length + y.length + b.length := by rw [hx, Str.length_append, Str.length_append]
    refine ⟨?_, Nat.le_refl _, ?_⟩
    · show a.length ≤ _
      omega
    · show b.length ≤ _
      omega
  · rw [e]
    exact ⟨Nat.le_refl _, Nat.zero_le _, Nat.zero_le _⟩
theorem joinL_len {S : List Nat} : ∀ l : List (List Nat), l.length * S.length ≤ (joinL S l).length + S.length ∧ ∀ x ∈ l, x.length ≤ (joinL S l).length
  | [] => ⟨by simp, fun x h => nomatch h⟩
  | [p] => ⟨by simp, fun x h => by rw [List.mem_singleton.mp h]; exact Nat.le_refl _⟩
  | p :: q :: r => by
    obtain ⟨h1, h2⟩ := joinL_len (S := S) (q :: r)
    have e : (joinL S (p :: q :: r)).length = p.length + (S.length + (joinL S (q :: r)).length) := by
      show (p ++ (S ++ joinL S (q :: r))).length = _
      rw [List.length_append, List.length_append]
    rw [e]
    refine ⟨?_, fun x h => ?_⟩
    · rw [List.length_cons, Nat.succ_mul]
      omega
    · rcases List.mem_cons.mp h with rfl | h
      · omega
      · have := h2 x h
        omega
theorem parts_len {g x y : Str} (hy : tl y ≠ []) (hk : y.cps.all (· < 256) = true) : (partsOf g x y).length ≤ x.length + 1 ∧ ∀ z ∈ partsOf g x y, z.length ≤ x.length := by
  unfold partsOf
  split
  · exact ⟨Nat.zero_le _, fun z h => nomatch h⟩
  · obtain ⟨i1, i2⟩ := split_back x y hy hk
    have e := congrArg tl i1
    rw [TL.tl_join] at e
    obtain ⟨h1, h2⟩ := joinL_len (S := tl y) ((Txt.split x y).map tl)
    rw [e, List.length_map] at h1
    have hp : 0 < (tl y).length := List.length_pos_iff.mpr hy
    refine ⟨?_, fun z hz => ?_⟩
    · rw [TL.len_tl x]
      have h3 : (Txt.split x y).length ≤ (Txt.split x y).length * (tl y).length := Nat.le_mul_of_pos_right _ hp
      rcases Nat.lt_or_ge (Txt.split x y).length 1 with h0 | h0
      · omega
      · obtain ⟨n, hn⟩ : ∃ n, (Txt.split x y).length = n + 1 := ⟨(Txt.split x y).length - 1, by omega⟩
        rw [hn, Nat.succ_mul] at h1
        have h4 : n ≤ n * (tl y).length := Nat.le_mul_of_pos_right _ hp
        omega
    · have := h2 (tl z) (List.mem_map.mpr ⟨z, hz, rfl⟩)
      rw [e] at this
      rw [TL.len_tl, TL.len_tl]
      exact this
section
variable {P : Program} {w : World} {K : PySem.W.Frag} {mg : Str → Option Value} {base : Heap} {CR CE CT : Addr}
theorem ok_rule_readX {f fSp fI fE fT : Addr} {fd fdSp fdI fdE fdT : FuncData} (F : Fun K "read" "Rule.read" sRuleRead f fd) (D_split_part : Df K mg "split_part" sSplitPart ["sign", "text", "between"] fSp fdSp)
    (mkR : Mk K CR fI) (G_init : FnOk P w K mg base (L2N.CX P w) 3 fI fdI ["self", "kind", "tests", "deeds"] (spRuleInitX K CR CE)) (b_init : Binds K fdI ["self", "kind", "tests", "deeds"] [])
    (TE : ErrC K mg "InvalidRule" CE fE) (exm : PySem.W.exmOne K (.ref CE) (.ref CE) = some true) (TT : ErrC K mg "InvalidText" CT fT) (F_err : Fun K "__init__" "InvalidText.__init__" sInvalidtextInit fT fdT) (b_err : Binds K fdT ["self", "at"] []) (noA : PySem.W.findIn K (.ref CT) "at" = some none) :
    FnOk P w K mg base (L2.CX P w) 5 f fd ["cls", "text"] (spRuleReadX K CR CT) := by
  have G_split_part : FnOk P w K mg base CX0 1 fSp fdSp ["sign", "text", "between"] (spSplit K) := ok_split_part D_split_part.F
  have G_err : FnOk P w K mg base CX0 1 fT fdT ["self", "at"] (spErr K CT "at") := ok_err_text F_err TT.o noA
  have G_errH : L2H.FnH P w K mg base CX0 1 fT fdT ["self", "at"] (spErr K CT "at") := ok_err_textH F_err TT.o noA
  refine F.okX scRuleRead (fun vs H Q E h => ?_) (fun cdv A outer s H vs Q E hr h => ?_)
  · obtain ⟨s, rfl, _⟩ := h
    rfl
  · obtain ⟨x, rfl, lx, q, qe⟩ := h
    refine ⟨_, pss_cons (ps_asg (pe_partition (pv 1) pe_str) (pg_tup (by rfl) (pgs_cons (pg_name (i := 2) scRuleRead.nd rfl (Or.inl rfl)) (pgs_cons (pg_name (i := 3) scRuleRead.nd rfl (Or.inl rfl)) (pgs_cons (pg_name (i := 4) scRuleRead.nd rfl (Or.inl rfl)) pgs_nil)))))
      (pss_cons (ps_asg (pe_partition (pv 2) pe_str) (pg_tup (by rfl) (pgs_cons (pg_name (i := 5) scRuleRead.nd rfl (Or.inl rfl)) (pgs_cons (pg_name (i := 6) scRuleRead.nd rfl (Or.inl rfl)) (pgs_cons (pg_name (i := 7) scRuleRead.nd rfl (Or.inl rfl)) pgs_nil)))))
      (pss_cons (ps_asg (pe_partition (pv 5) pe_str) (pg_tup (by rfl) (pgs_cons (pg_name (i := 8) scRuleRead.nd rfl (Or.inl rfl)) (pgs_cons (pg_name (i := 9) scRuleRead.nd rfl (Or.inl rfl)) (pgs_cons (pg_name (i := 10) scRuleRead.nd rfl (Or.inl rfl)) pgs_nil)))))
      (pss_cons (ps_if (pt_cmpR op_ne (pv 8) pe_str (nomark _)) (pss_one (ps_raise rfl (takes_of rfl rfl rfl rfl) (pmk_oex TT.o TT.iC TT.tI G_err (hr.mono (by decide)) b_err .nil pass0 rfl TT.g (pa_cons pe_int pa_nil)))) pss_nil)
      (pss_one (L2H.ps_try_onlyX (x := "InvalidRule") (c := .ref CE) rfl rfl ⟨rfl, by decide, .inl TE.g⟩ (L2H.passesAt_of rfl) (takes_of rfl rfl rfl rfl)
        (tb := fun W => tSeq (tRet (tMakeV 0 CR (spRuleInitX K CR CE) (fun cls d H => ∀ σ, W cls d σ H) (tCons (tVar 10) (tCons (tCall (spSplit K) [] E0 (tCons (tVar 6) (tCons (tVar 7) (tCons (tC (.str " and ")) tNil)))) (tCons (tCall (spSplit K) [] E0 (tCons (tVar 3) (tCons (tVar 4) (tCons (tC (.str " then ")) tNil)))) tNil))))) tNext)
        (fun W pn xe tk tk2 po => pss_cons (ps_ret (pe_makeV (sp := spRuleInitX K CR CE) (E := fun cls d H => ∀ σ, W cls d σ H) 0 mkR G_init (hr.mono (by decide)) b_init (L2N.passes_call tk fun _ _ σ _ h => h σ) (pa_cons (pv 10) (pa_cons (pe_call G_split_part (hr.mono (by decide)) rfl D_split_part.g D_split_part.F.kp D_split_part.b .nil pass0 (pa_cons (pv 6) (pa_cons (pv 7) (pa_cons pe_str pa_nil)))) (pa_cons (pe_call G_split_part (hr.mono (by decide)) rfl D_split_part.g D_split_part.F.kp D_split_part.b .nil pass0 (pa_cons (pv 3) (pa_cons (pv 4) (pa_cons pe_str pa_nil)))) pa_nil))))) pss_nil)
        (fun a oe cls d pn hz hf tk hot => pss_one (L2H.ps_raiseHN hot tk (L2H.pmk5_oexH TT.o TT.iC TT.tI G_errH (L2H.roomH_mark (hr.mono (by decide)) _) hot b_err pass0 rfl TT.g (pa_cons pe_int pa_nil))))))))), ?_⟩
    obtain ⟨a1, a2, a3⟩ := part_len x " do " ne_do
    obtain ⟨b1, b2, b3⟩ := part_len (Txt.partition x " do ").1 " if " ne_if
    obtain ⟨c1, c2, c3⟩ := part_len (Txt.partition (Txt.partition x " do ").1 " if ").1 " " ne_bl
    have n1 : (Str.ofString " do ").length = 4 := by decide +kernel
    have n2 : (Str.ofString " if ").length = 4 := by decide +kernel
    refine q_part rfl rfl (by decide +kernel) (size_of (by omega)) fun H1 e1 => ?_
    refine q_part (a := (Txt.partition x " do ").1) rfl rfl (by decide +kernel) (size_of (Nat.le_trans a1 (by omega))) fun H2 e2 => ?_
    refine q_part (a := (Txt.partition (Txt.partition x " do ").1 " if ").1) rfl rfl (by decide +kernel) (size_of (Nat.le_trans b1 (Nat.le_trans a1 (by omega)))) fun H3 e3 => ?_
    refine Evl.q_when (b := !decide (V.str (cutS x).on = V.str "on")) (Evl.et_test (Evl.ev_op (Evl.ev_var rfl) Evl.ev_c (Evl.rv_ne rfl))) (fun hb H4 e4 => ?_) (fun hb H4 e4 => ?_)
    · refine rd_err (Evl.ea_cons Evl.ev_c Evl.ea_nil) fun d H5 e5 hd => qe ?_ d H5 ((((e1.trans e2).trans e3).trans e4).trans e5) hd
      have h1 : ¬ (cutS x).on = "on" := fun z => by
        rw [z, decide_eq_true rfl] at hb
        cases hb
      unfold readR
      simp only
      rw [if_neg fun z => h1 z.1]
    · have e14 := ((e1.trans e2).trans e3).trans e4
      have h1 : (cutS x).on = "on" := V.str.inj (of_decide_eq_true (by simpa using hb))
      obtain ⟨t1, t2⟩ := parts_len (g := (cutS x).asks) (x := (cutS x).tests) (y := " and ") (by decide +kernel) (by decide +kernel)
      obtain ⟨d1, d2⟩ := parts_len (g := (cutS x).does) (x := (cutS x).deeds) (y := " then ") (by decide +kernel) (by decide +kernel)
      have l1 : (cutS x).tests.length ≤ 900 := by
        show (Txt.partition (Txt.partition x " do ").1 " if ").2.2.length ≤ 900
        omega
      have l2 : (cutS x).deeds.length ≤ 900 := by
        show (Txt.partition x " do ").2.2.length ≤ 900
        omega
      have l3 : (cutS x).asks.length ≤ 100000 := Nat.le_trans b2 (by decide +kernel)
      have l4 : (cutS x).does.length ≤ 100000 := Nat.le_trans a2 (by decide +kernel)
      refine ⟨rfl, rd_ruleX (k := (cutS x).kind) (ts := partsOf (cutS x).asks (cutS x).tests " and ") (ds := partsOf (cutS x).does (cutS x).deeds " then ") (Evl.ev_var rfl) (es_split (Evl.ea_cons (Evl.ev_var rfl) (Evl.ea_cons (Evl.ev_var rfl) (Evl.ea_cons Evl.ev_c Evl.ea_nil))) (by decide +kernel) l3 (by omega)) (es_split (Evl.ea_cons (Evl.ev_var rfl) (Evl.ea_cons (Evl.ev_var rfl) (Evl.ea_cons Evl.ev_c Evl.ea_nil))) (by decide +kernel) l4 (by omega))
        (by omega) (by omega) (fun z hz => Nat.le_trans (t2 z hz) (by omega)) (fun hg p H5 e5 ro => q _ ?_ p H5 (e14.trans e5) ro) (fun hg d H5 e5 σ' => ⟨true, exm, fun _ a ha => rd_err (Evl.ea_cons Evl.ev_c Evl.ea_nil) fun d2 H6 e6 hd2 => qe ?_ d2 H6 ((e14.trans e5).trans e6) hd2, fun z => nomatch z⟩)⟩
      · unfold readR
        simp only
        rw [if_pos ⟨h1, hg⟩]
      · unfold readR
        simp only
        rw [if_neg fun z => by rw [hg] at z; cases z.2]
end
end Ov

namespace Ov
open PySem PySem.Spec PyProof.Rows L2
open Evl (pss_cut tCut Ex Ev EvT EvL EvA EvU)
/-! ### isinstance of a caught own error that has fields -/
section
open PySem.W PySem.Calls
variable {prog : Program} {w : World} {A : Around} {E : Value → Shared → Prop} {s : Shared} {K : Frag} {x D : Addr} {ox : Obj} {dd : Obj}
theorem class_of_err {Q : Option Value → Shared → Prop} (c : ExcC K D) (X : K.In s.heap) (I : InstAt s.heap x ox D (some dd)) (h : Q (some (.ref D)) { s with toks := s.toks + 1 }) : wpAny (model prog w) A (getAttr? (.ref x) "__class__") Q E s := by
  have isC : (clsIn K D).isSome = true := by
    obtain ⟨cd, hc, _⟩ := any_some c.hd
    rw [hc]
    rfl
  have find := findObj_data (od := dd) isC c.ha c.hn c.ht
  obtain ⟨hp, g, d, t, os⟩ := s
  have ty := I.type (M := model prog w)
  have isB : Looks (model prog w) hp (isInstance (.ref x) (.type "BaseException")) true := ty.andThen (looks_subIn X c.hs)
  have no1 : (onTheHeap (Value.ref D) && Value.builtin "BaseException.__getattribute__" == Value.builtin "object.__getattribute__") = false := by
    rw [show (Value.builtin "BaseException.__getattribute__" == Value.builtin "object.__getattribute__") = false by decide +kernel]
    rfl
  have no2 : (false && onTheHeap (Value.builtin "BaseException.__getattribute__")) = false := rfl
  unfold getAttr? getAttrBy? getAttrBy
  refine wpAny_bind (wpAny_mkText (wpAny_bind (wpAny_attempt (wpAny_holding (wpAny_bind (ty.at (wpAny_bind ((looks_findIn (M := model prog w) X c.hg).at ?_))))))))
  show wpAny _ _ (if (onTheHeap (Value.ref D) && Value.builtin "BaseException.__getattribute__" == Value.builtin "object.__getattribute__") = true then _ else _) _ _ _
  rw [no1, if_neg Bool.false_ne_true]
  unfold getAttrByItsOwn hookBefore
  rw [if_pos (show onTheHeap (Value.ref D) = true from rfl)]
  refine wpAny_bind ((looks_findIn (M := model prog w) X c.hk).at (wpAny_bind (wpAny_attempt (wpAny_holding ?_))))
  unfold callGetattribute
  rw [no2, if_neg Bool.false_ne_true]
  unfold boundAndCalled
  rw [PySem.F.excAttr_ValueError.ga.bind (.ref x)]
  refine wpAny_bind (wpAny_pure (wpAny_call (codeAny_call_builtin PySem.F.excAttr_ValueError.ga.plain PySem.F.entry_bexc_ga ?_)))
  refine @check_slot (model prog w) _ _ ⟨hp, g, d, t + 1, os⟩ "BaseException.__getattribute__" "BaseException" "__getattribute__" (.ref x) [.str "__class__" t] [] _ (by decide +kernel) (by decide +kernel) isB (PySem.F.args_bexc_ga (.ref x) (.str "__class__" t)) ?_
  unfold Builtin.«object.__getattribute__»
  refine wpAny_bind (wpAny_of_eq (a := ((Value.ref x : Value), [Value.str "__class__" t])) (by first | rfl | (simp only [slotArgs]; rfl)) ?_)
  refine wpAny_bind (wpAny_pure (wpAny_bind (ty.at (wpAny_bind ((looks_find (M := model prog w) X I find).at ?_)))))
  show wpAny _ _ (holding [Value.builtin "object.__class__"] (call (.builtin "getset_descriptor.__get__") [.builtin "object.__class__", .ref x, .ref D]) >>= ret) _ _ _
  refine wpAny_bind (wpAny_holding (wpAny_call (class_get (s := ⟨hp, g, d, t + 1, os⟩) (ox := ox) (od := some dd) X I c.hm (wpAny_pure ?_))))
  show wpAny _ _ (handedOut (.ref D)) _ _ _
  rw [handedOut_of (v := .ref D) rfl]
  first
    | exact wpAny_pure (wpAny_pure h)
    | exact wpAny_pure h
    | exact wpAny_pure (wpAny_bind (wpAny_pure (wpAny_pure h)))
theorem kit_err (c : ExcC K D) : KitX K (.ref x) (.ref D) (fun h => ∃ dd, InstAt h x ox D (some dd)) where
  ty := fun _ _ _ ⟨_, I⟩ => I.type
  it := fun _ _ X _ => by
    obtain ⟨cd, hc, _⟩ := any_some c.hd
    unfold clsIn at hc
    split at hc
    · rename_i ho
      intro A' Q' E' s' k q
      unfold isType loadHead
      exact wpAny_bind (wpAny_loadPart (k _ _ (X _ _ ho)) (wpAny_pure q))
    · cases hc
  ne := fun h tp td its n sl X htp => Bool.eq_false_iff.mpr fun q => by
    obtain ⟨cd, hc, _⟩ := any_some c.hd
    have e : D = tp := Value.ref.inj (beq_iff_eq.mp q)
    subst e
    unfold clsIn at hc
    split at hc
    · rename_i ho
      cases (X _ _ ho).symm.trans htp
    · cases hc
  ca := fun X ⟨_, I⟩ k => class_of_err c X I k
end
def rIsX (K : PySem.W.Frag) (a : Addr) (cls : Value) (d : Option Addr) (D : Addr) : List V → Hp → VK → Prop := fun xs H Q => cls = .ref D ∧ ∃ (dx : Addr) (fs : List (Str × V)) (c : V) (cv : Value) (b : Bool), d = some dx ∧ H dx = some (.xd fs) ∧ xs = [.ref a, c] ∧ (∀ u, RelV c u → u = cv) ∧ PySem.W.kitOne K (.ref D) cv = some b ∧ Q (.bl b) H
theorem call_isX {X : Cx} {a D : Addr} {oe : Obj} {cls : Value} {d : Option Addr} {pn : List (Addr × Obj)} (C : ExcC X.K D) (hz : Zc cls d oe) (hf : ∃ vs, oe.data = .fields vs) : CallR (X.suite a ((a, oe) :: pn)) (.builtin "isinstance") (rIsX X.K a cls d D) := by
  intro pins s σ H xs us Q I r h
  obtain ⟨rfl, dx, fs, c, cv, b, rfl, hx, rfl, hcv, e, q⟩ := h
  cases r with
  | cons rx rr =>
    cases rr with
    | cons rt rr =>
      cases rr
      cases rx
      have ec := hcv _ rt
      subst ec
      obtain ⟨hget, _⟩ := I.pin (a, oe) (List.mem_append.mpr (.inl List.mem_cons_self))
      obtain ⟨vs, hv⟩ := hf
      have ho : ObjOk X.prog X.w H s.heap dx (.xd fs) := I.hok dx _ hx
      obtain ⟨mA, hns, _⟩ := ho
      obtain ⟨od, hod, _⟩ := lookIn_ns hns
      have J : PySem.W.InstAt s.heap a oe D (some od) := ⟨hget, hz.1, by unfold PySem.W.notCls; rw [hv] <;> rfl, by rw [hz.2]; exact hod⟩
      exact PySem.W.kia_one (kit_err C) I.kIn ⟨od, J⟩ e (fun z => nomatch z) fun tk => ⟨.bl b, H, I.kept (t' := tk) fun _ _ z => z, rfl, q⟩
/-! ### what the law reads -/
theorem readR_good {s : Str} {r : RuleD} (h : s.length ≤ 900) (e : readR s = some r) : r.Good := by
  unfold readR at e
  simp only at e
  split at e
  · rename_i hh
    have hg := hh.2
    have e := Option.some.inj e
    obtain ⟨a1, a2, a3⟩ := part_len s " do " ne_do
    obtain ⟨b1, b2, b3⟩ := part_len (Txt.partition s " do ").1 " if " ne_if
    obtain ⟨t1, _⟩ := parts_len (g := (cutS s).asks) (x := (cutS s).tests) (y := " and ") (by decide +kernel) (by decide +kernel)
    obtain ⟨d1, _⟩ := parts_len (g := (cutS s).does) (x := (cutS s).deeds) (y := " then ") (by decide +kernel) (by decide +kernel)
    have l1 : (cutS s).tests.length ≤ 900 := Nat.le_trans b3 (Nat.le_trans a1 h)
    have l2 : (cutS s).deeds.length ≤ 900 := Nat.le_trans a3 h
    unfold goodB at hg
    obtain ⟨g1, hg⟩ := Bool.and_eq_true_iff.mp hg
    obtain ⟨g2, g3⟩ := Bool.and_eq_true_iff.mp hg
    subst e
    exact ⟨of_decide_eq_true g1, fun t ht => of_decide_eq_true (List.all_eq_true.mp g2 t ht), fun t ht => of_decide_eq_true (List.all_eq_true.mp g3 t ht), by show (partsOf _ _ _).length ≤ 1000; omega, by show (partsOf _ _ _).length ≤ 1000; omega⟩
  · cases e
def spRead : Sp := fun vs H Q _ => ∃ s : Str, vs = [.str s] ∧ s.length ≤ 900 ∧ (∀ r, readR s = some r → ∀ H', Ex H H' → Q (.str s) H') ∧ (readR s = none → ∀ H', Ex H H' → Q (.int 0) H')
section
variable {P : Program} {w : World} {K : PySem.W.Frag} {mg : Str → Option Value} {base : Heap} {CR CT CE CL : Addr} {mc : Value} {pR gR : Addr}
abbrev sRead : Stmt := topS 36
theorem scRead : FnScope ["_law_text_here", "_law_found", "e"] ["_law_text_here"] (defScope sRead) := ⟨rfl, rfl, rfl, by decide +kernel, rfl, by decide +kernel, by decide +kernel⟩
theorem ok_read {f fS : Addr} {fd fdS : FuncData} (F : Fun K "_law_read" "_law_read" sRead f fd) (g_Rule : mg "Rule" = some (.ref CR)) (rd : ClX.CRead K CR mc) (cm : ClX.CMet K CR mc "read" pR gR)
    (G_rd : FnR P w K mg base (L2.CX P w) 5 gR (spRuleReadX K CR CT)) (G_str : FnOk P w K mg base CX0 1 fS fdS ["self"] (spRuleStr K CR)) (b_str : Binds K fdS ["self"] []) (stR : PySem.W.findIn K (.ref CR) "__str__" = some (some (.ref fS))) (isS : PySem.W.isFn K (.ref fS) = true) (n_str : mg "str" = none)
    (n_isi : mg "isinstance" = none) (g_LE : mg "LetterError" = some (.ref CL)) (g_IT : mg "InvalidText" = some (.ref CT)) (g_IR : mg "InvalidRule" = some (.ref CE)) (exm : PySem.W.exmOne K (.ref CT) (.ref CL) = some true) (k1 : PySem.W.kitOne K (.ref CT) (.ref CT) = some true) (k2 : PySem.W.kitOne K (.ref CT) (.ref CE) = some false)
    (xc : ExcC K CT) (xf : XfC K CT) (noA : PySem.W.findIn K (.ref CT) "at" = some none) : FnOk P w K mg base CX0 6 f fd ["_law_text_here"] spRead := by
  refine F.ok scRead (fun vs H Q E h => ?_) (fun cdv A outer s H vs Q E hr h => ?_)
  · obtain ⟨s, rfl, _⟩ := h
    rfl
  · obtain ⟨x, rfl, lx, q, qe⟩ := h
    refine ⟨_, pss_cons (ps_set (i := 1) scRead.nd rfl (.inl rfl) pe_str)
      (pss_cons (ps_try_as (i := 2) rfl rfl scRead.nd rfl rfl ⟨rfl, by decide, .inl g_LE⟩ takes0
        (tb := fun W => tSeq (tAsg (tCB (rStrI CR (spRuleStr K CR) E0) (tCons (ClX.tCMeth CR (spRuleReadX K CR CT) (fun cls d H => ∀ σ : L2.St, σ.length = 3 → W cls d σ H) (tC (.ref CR)) (tCons (tVar 0) tNil)) tNil)) (gName 1)) tNext)
        (fun W pn xe tk _ => pss_cons (ps_set (i := 1) scRead.nd rfl (.inl rfl) (pe_callTy (T := "str") (r := rStrI CR (spRuleStr K CR) E0) (call_strI G_str (hr.mono (by decide)) stR isS b_str pass0) (by rfl) n_str (by decide +kernel) (pa_cons (ClX.pe_cmeth (E := fun cls d H => ∀ σ : L2.St, σ.length = 3 → W cls d σ H) (pe_glob (v := .ref CR) rfl g_Rule rfl) rd cm G_rd hr (fun pins σ H s e s' I c => tk e s' (XE.of_call I (fun cls d H' h => h σ I.len) c)) (pa_cons (pv 0) pa_nil)) pa_nil))) pss_nil)
        (fun a oe cls d pn hz hf => pss_one (ps_set (i := 1) scRead.nd rfl (.inl rfl) (pe_ifExp (PW.pt (pw_and (pt_val (pe_callB (call_isX xc hz hf) (by rfl) n_isi (by decide +kernel) (pa_cons (pv 2) (pa_cons (pe_glob (v := .ref CT) rfl g_IT rfl) pa_nil)))) (pw_and1 (pt_not (pt_val (pe_callB (call_isX xc hz hf) (by rfl) n_isi (by decide +kernel) (pa_cons (pv 2) (pa_cons (pe_glob (v := .ref CE) rfl g_IR rfl) pa_nil)))))))) (pe_xf xf noA hz hf (pv 2)) pe_str))))
      (pss_one (ps_ret (pv 1)))), ?_⟩
    refine Evl.q_asg Evl.ev_c fun H1 e1 => ?_
    refine ⟨rfl, _, rfl, x, rfl, lx, fun r hr2 p H2 e2 ro => ?_, fun hn y H2 e2 hd σ' hσ => ⟨true, exm, fun _ a ha => ?_, fun z => nomatch z⟩⟩
    · have gr := readR_good lx hr2
      obtain ⟨dx, t, d, hp, _⟩ := id ro
      refine ⟨p, dx, _, rfl, hp, p, r, rfl, ro, gr, fun H3 e3 => ⟨_, rfl, _, rfl, ?_⟩⟩
      have e4 := readR_text hr2
      rw [e4]
      exact q r hr2 H3 ((e1.trans e2).trans e3)
    · obtain ⟨s0, s1, s2, rfl⟩ : ∃ s0 s1 s2 : Option V, σ' = [s0, s1, s2] := by
        match σ', hσ with
        | [a, b, c], _ => exact ⟨a, b, c, rfl⟩
      refine ⟨_, rfl, rfl, y, _, .ref CT, .ref CT, true, rfl, hd, rfl, fun u hu => hu, k1, true, rfl, iteT ?_⟩
      refine ⟨_, rfl, rfl, y, _, .ref CE, .ref CE, false, rfl, hd, rfl, fun u hu => hu, k2, false, rfl, iteT ?_⟩
      exact ⟨_, rfl, rfl, rfl, y, _, .int 0, rfl, hd, by simp [List.lookup], _, rfl, qe hn H2 (e1.trans e2)⟩
end
end Ov

namespace Ov
open PySem PySem.Spec PyProof.Rows L2
open TL (tl pre par)
/-! ### the law's own reading of a text, held against the program's -/
theorem par_acc {S : List Nat} : ∀ (l acc : List Nat), par S acc l = (par S [] l).map fun p => (acc ++ p.1, p.2)
  | [], _ => rfl
  | c :: r, acc => by
    by_cases hp : pre S (c :: r) = true
    · rw [TL.par_hit hp, TL.par_hit hp, Option.map_some, List.append_nil]
    · rw [TL.par_miss (by simpa using hp), TL.par_miss (by simpa using hp), par_acc r (acc ++ [c]), par_acc r ([] ++ [c]), Option.map_map]
      congr 1
      funext p
      show (acc ++ [c] ++ p.1, p.2) = (acc ++ ([] ++ [c] ++ p.1), p.2)
      rw [List.nil_append, List.append_assoc]
theorem par_cons {s c : Nat} {S l : List Nat} (h : c ≠ s) : par (s :: S) [] (c :: l) = (par (s :: S) [] l).map fun p => (c :: p.1, p.2) := by
  rw [TL.par_miss (TL.pre_of_head S l h), par_acc]
  rfl
/-- the three parts, by lists -/
theorem part_eq (x y : Str) (hy : tl y ≠ []) : Txt.partition x y = (match par (tl y) [] (tl x) with | some (a, b) => (⟨a.toArray⟩, y, ⟨b.toArray⟩) | none => (x, Str.empty, Str.empty)) := TL.partition_par x y hy
theorem tl_on : tl "on " = [111, 110, 32] := by decide +kernel
/-- «on » stands ahead, and the sign does not begin with its blank: it goes with the first part -/
theorem part_on {y h : Str} {S : List Nat} (ey : tl y = 32 :: S) (hn : pre (32 :: S) (32 :: tl h) = false) : Txt.partition (("on " : Str) ++ h) y = (("on " : Str) ++ (Txt.partition h y).1, (Txt.partition h y).2.1, (Txt.partition h y).2.2) := by
  have hy : tl y ≠ [] := by rw [ey]; exact fun z => nomatch z
  have e : par (tl y) [] (tl (("on " : Str) ++ h)) = (par (tl y) [] (tl h)).map fun p => (111 :: 110 :: 32 :: p.1, p.2) := by
    rw [TL.tl_append, tl_on, ey]
    show par (32 :: S) [] (111 :: 110 :: 32 :: tl h) = _
    rw [par_cons (by decide), par_cons (by decide), TL.par_miss hn, par_acc, Option.map_map, Option.map_map]
    rfl
  rw [part_eq _ y hy, part_eq h y hy, e]
  cases q : par (tl y) [] (tl h) with
  | none => rfl
  | some p =>
    obtain ⟨a, b⟩ := p
    show ((⟨(111 :: 110 :: 32 :: a).toArray⟩ : Str), y, (⟨b.toArray⟩ : Str)) = (("on " : Str) ++ ⟨a.toArray⟩, y, ⟨b.toArray⟩)
    congr 1
    exact TL.ext_tl (by rw [TL.tl_append, tl_on]; rfl)
/-- the sign begins with the blank of «on »: the first part is «on» -/
theorem part_on2 {y h : Str} {S : List Nat} (ey : tl y = 32 :: S) (hn : pre (32 :: S) (32 :: tl h) = true) : (Txt.partition (("on " : Str) ++ h) y).1 = "on" := by
  have hy : tl y ≠ [] := by rw [ey]; exact fun z => nomatch z
  have e : ∃ b, par (tl y) [] (tl (("on " : Str) ++ h)) = some ([111, 110], b) := by
    rw [TL.tl_append, tl_on, ey]
    show ∃ b, par (32 :: S) [] (111 :: 110 :: 32 :: tl h) = some ([111, 110], b)
    rw [par_cons (by decide), par_cons (by decide), TL.par_hit hn]
    exact ⟨_, rfl⟩
  obtain ⟨b, e⟩ := e
  rw [part_eq _ y hy, e]
  exact TL.ext_tl (by show [111, 110] = tl "on"; decide +kernel)
/-- two signs ahead that are no blanks stay ahead -/
theorem part_two {y h : Str} {S l : List Nat} {a b : Nat} (ey : tl y = 32 :: S) (eh : tl h = a :: b :: l) (na : a ≠ 32) (nb : b ≠ 32) : ∃ m, tl (Txt.partition h y).1 = a :: b :: m := by
  have hy : tl y ≠ [] := by rw [ey]; exact fun z => nomatch z
  rw [part_eq _ y hy, eh, ey, par_cons na, par_cons nb]
  cases q : par (32 :: S) [] l with
  | none => exact ⟨l, eh⟩
  | some p => exact ⟨p.1, rfl⟩
theorem no_kind {x : Str} {a b : Nat} {m : List Nat} (h : tl x = a :: b :: m) (hab : (a = 100 ∧ b = 111) ∨ (a = 105 ∧ b = 102)) : x ∉ kindsAll := fun hk => by
  have h1 : ∀ k ∈ kindsAll, (tl k).take 2 ≠ [100, 111] ∧ (tl k).take 2 ≠ [105, 102] := by decide +kernel
  have h2 := h1 x hk
  rw [h] at h2
  rcases hab with ⟨rfl, rfl⟩ | ⟨rfl, rfl⟩
  · exact h2.1 rfl
  · exact h2.2 rfl
def isTextH (h : Str) : Bool :=
  let c := Txt.partition h " do "
  let a := Txt.partition c.1 " if "
  goodB a.1 (partsOf a.2.1 a.2.2 " and ") (partsOf c.2.1 c.2.2 " then ")
theorem none_kind {s : Str} (h : (cutS s).kind ∉ kindsAll) : readR s = none := by
  unfold readR
  simp only
  rw [if_neg]
  rintro ⟨_, h2⟩
  unfold goodB at h2
  exact h (of_decide_eq_true (Bool.and_eq_true_iff.mp h2).1)
theorem part_short : Txt.partition ("on" : Str) " if " = (("on" : Str), Str.empty, Str.empty) ∧ Txt.partition ("on" : Str) " " = (("on" : Str), Str.empty, Str.empty) := by
  constructor
  · rw [part_eq _ _ ne_if, show par (tl " if ") [] (tl "on") = none by decide +kernel]
  · rw [part_eq _ _ ne_bl, show par (tl " ") [] (tl "on") = none by decide +kernel]
theorem good_kind {k : Str} {ts ds : List Str} (h : k ∉ kindsAll) : goodB k ts ds = false := by
  unfold goodB
  rw [decide_eq_false h]
  rfl
theorem pre_len3 {a b c : Nat} {S l : List Nat} (h : pre (32 :: a :: b :: S) (32 :: l) = true) : ∃ m, l = a :: b :: m := by
  have e := pre_eq h
  exact ⟨S ++ (32 :: l).drop (32 :: a :: b :: S).length, List.cons.inj e |>.2⟩
theorem read_on (h : Str) : (readR (("on " : Str) ++ h)).isSome = isTextH h := by
  cases hd : pre (32 :: [100, 111, 32]) (32 :: tl h) with
  | true =>
    obtain ⟨m, em⟩ := pre_len3 (c := 0) hd
    have e1 := part_on2 (y := " do ") tl_do hd
    have hk : (cutS (("on " : Str) ++ h)).kind ∉ kindsAll := by
      unfold cutS
      simp only
      rw [e1, part_short.1, part_short.2]
      decide +kernel
    rw [none_kind hk]
    obtain ⟨m1, e2⟩ := part_two (y := " do ") tl_do em (by decide) (by decide)
    obtain ⟨m2, e3⟩ := part_two (y := " if ") tl_if e2 (by decide) (by decide)
    unfold isTextH
    simp only
    rw [good_kind (no_kind e3 (.inl ⟨rfl, rfl⟩))]
    rfl
  | false =>
    have e1 := part_on (y := " do ") tl_do hd
    cases hi : pre (32 :: [105, 102, 32]) (32 :: tl (Txt.partition h " do ").1) with
    | true =>
      obtain ⟨m, em⟩ := pre_len3 (c := 0) hi
      have e2 := part_on2 (y := " if ") tl_if hi
      have hk : (cutS (("on " : Str) ++ h)).kind ∉ kindsAll := by
        unfold cutS
        simp only
        rw [e1]
        simp only
        rw [e2, part_short.2]
        decide +kernel
      rw [none_kind hk]
      obtain ⟨m2, e3⟩ := part_two (y := " if ") tl_if em (by decide) (by decide)
      unfold isTextH
      simp only
      rw [good_kind (no_kind e3 (.inr ⟨rfl, rfl⟩))]
      rfl
    | false =>
      have e2 := part_on (y := " if ") tl_if hi
      unfold readR isTextH cutS
      simp only
      rw [e1]
      simp only
      rw [e2]
      simp only
      rw [read3]
      simp only
      cases goodB (Txt.partition (Txt.partition h " do ").1 " if ").1 (partsOf (Txt.partition (Txt.partition h " do ").1 " if ").2.1 (Txt.partition (Txt.partition h " do ").1 " if ").2.2 " and ") (partsOf (Txt.partition h " do ").2.1 (Txt.partition h " do ").2.2 " then ") with
      | true => rw [if_pos ⟨trivial, rfl⟩]; rfl
      | false => rw [if_neg (fun z => nomatch z.2)]; rfl
theorem read_not_on {s : Str} (h : ¬ ∃ x, s = ("on " : Str) ++ x) : readR s = none := by
  cases e : readR s with
  | none => rfl
  | some r =>
    refine absurd ⟨r.k ++ tText r.ts ++ dText r.ds, ?_⟩ h
    rw [← readR_text e]
    unfold ruleText
    rw [Str.append_assoc, Str.append_assoc, Str.append_assoc]
end Ov

namespace Ov
open PySem PySem.Spec PyProof.Rows L2
open Evl (pss_cut tCut Ex Ev EvT EvL EvA EvU EvO)
open TL (tl joinL)
/-! ### xs[::e] of a list, e being -1 -/
def tBackL (K : PySem.W.Frag) (te ts : TE) : TE := fun σ H Q => te σ H fun x H1 => ts σ H1 fun y H2 => ∃ i, y = .int i ∧ some i = some (-1 : Int) ∧ ∃ a xs, x = .ref a ∧ SqL K H2 a xs ∧ ∀ p, H2 p = none → Q (.ref p) (upd H2 p (.lst xs.reverse))
theorem pe_backL {X : Cx} {e st : Expr} {te ts : TE} {p3 pos : Pos} (he : PE X e te) (hs : PE X st ts) : PE X (.Subscript e (.Slice none none (some st) p3) pos) (tBackL X.K te ts) := by
  refine ⟨fun pins s σ H Q I h => Subscript_ (thn (he.run pins s σ H _ I h) fun v s1 ⟨x, H1, I1, r1, q1⟩ => ?_)⟩
  refine wpAny_Slice (thn (po_none.run pins s1 σ H1 (fun o H2 => o = none ∧ H2 = H1) I1 ⟨rfl, rfl⟩) fun vl s2 ⟨l, H2, I2, pl, el, e2⟩ => ?_)
  obtain ⟨rfl, rfl⟩ := And.intro el e2
  refine thn (po_none.run pins s2 σ H2 (fun o H3 => o = none ∧ H3 = H2) I2 ⟨rfl, rfl⟩) fun vu s3 ⟨u, H3, I3, pu, eu, e3⟩ => ?_
  obtain ⟨rfl, rfl⟩ := And.intro eu e3
  have hst : PO X (some st) (tPart ts) := po_some hs
  refine thn (hst.run pins s3 σ H3 (fun o H4 => o = some (-1) ∧ ∃ a xs, x = .ref a ∧ SqL X.K H4 a xs ∧ ∀ p, H4 p = none → Q (.ref p) (upd H4 p (.lst xs.reverse))) I3 q1) fun vs s4 ⟨o, H4, I4, ps, eo, a, xs, ex, hx, q⟩ => ?_
  subst eo ex
  obtain rfl : v = Value.ref a := r1
  have I5 : Inv X pins σ H4 { s4 with heap := s4.heap.push { cls := .type "slice", data := .fields #[vl, vu, vs] } } := I4.kept (t' := s4.toks) fun b ob z => Heap.get?_push_of_some _ z
  obtain ⟨its, r, ht, hz⟩ := I5.list hx
  have len := r.length
  show wpAny (model X.prog X.w) X.A (subscriptTail e (.Slice none none (some st) p3) (.ref a) (.ref s4.heap.objs.size)) (EP X pins σ Q) X.xe { s4 with heap := s4.heap.push { cls := .type "slice", data := .fields #[vl, vu, vs] } }
  refine tail_any (ops := [.ref a, .ref s4.heap.objs.size]) ht.isList.typeIs (PySem.slot_list_getitem.lookup) (wpAny_getItem_list_slice ht.isList (Heap.IsSliceOf.new _ vl vu vs) pl pu ps (by decide) ?_ (by rw [List.size_toArray]; omega)) (by with_unfolding_all rfl)
  rw [PySem.W.krv_pick]
  exact ⟨.ref _, _, I5.laid (t' := s4.toks) (o := .lst xs.reverse) (fun b ob z => Heap.get?_push_of_some _ z) (Nat.le_refl _) ⟨by rw [List.length_reverse]; exact hz, _, 0, r.reverse, Heap.get?_push_size _ rfl⟩, rfl, q _ (I5.hok.fresh (Nat.le_refl _))⟩
/-! ### how much a list of texts weighs -/
def wt (l : List Str) : Nat := (l.map (·.length)).sum + l.length
theorem wt_app (l m : List Str) : wt (l ++ m) = wt l + wt m := by
  unfold wt
  rw [List.map_append, List.sum_append, List.length_append]
  omega
theorem wt_take (n : Nat) (l : List Str) : wt (l.take n) ≤ wt l ∧ wt (l.drop n) ≤ wt l := by
  have h := wt_app (l.take n) (l.drop n)
  rw [List.take_append_drop] at h
  omega
theorem wt_rev : ∀ l : List Str, wt l.reverse = wt l
  | [] => rfl
  | x :: l => by
    rw [List.reverse_cons, wt_app, wt_rev l, show wt (x :: l) = wt [x] + wt l from wt_app [x] l]
    omega
theorem wt_join (l : List Str) : (Str.join " " l).length ≤ wt l := by
  have h := join_len " " l
  have n : (Str.ofString " ").length = 1 := by decide +kernel
  unfold wt
  rw [n] at h
  omega
theorem joinL_sum {S : List Nat} : ∀ l : List (List Nat), (l.map (·.length)).sum + l.length * S.length ≤ (joinL S l).length + S.length
  | [] => by simp
  | [p] => by
    show (p.length + 0) + 1 * S.length ≤ p.length + S.length
    omega
  | p :: q :: r => by
    have h := joinL_sum (S := S) (q :: r)
    have e : (joinL S (p :: q :: r)).length = p.length + (S.length + (joinL S (q :: r)).length) := by
      show (p ++ (S ++ joinL S (q :: r))).length = _
      rw [List.length_append, List.length_append]
    rw [e, List.map_cons, List.sum_cons, List.length_cons, Nat.succ_mul]
    omega
theorem wt_split (s : Str) : wt (Txt.split s " ") ≤ s.length + 1 ∧ 0 < (Txt.split s " ").length := by
  obtain ⟨i1, i2⟩ := split_back s " " (by decide +kernel) (by decide +kernel)
  refine ⟨?_, List.length_pos_iff.mpr i2⟩
  have h := joinL_sum (S := tl " ") ((Txt.split s " ").map tl)
  have e := congrArg tl i1
  rw [TL.tl_join] at e
  rw [e, List.map_map, List.length_map] at h
  have n : (tl " ").length = 1 := by decide +kernel
  have e2 : ((Txt.split s " ").map ((·.length) ∘ tl)) = (Txt.split s " ").map (·.length) := by
    refine List.map_congr_left fun x _ => ?_
    exact (TL.len_tl x).symm
  rw [e2, n] at h
  unfold wt
  rw [TL.len_tl s]
  omega
theorem lay_iff (x : Str) : PyData.canLay0 (.str x) = true ↔ ∀ c ∈ tl x, c < 0x110000 := by
  have e : PyData.canLay0 (.str x) = x.cps.all (· < 0x110000) := rfl
  rw [e, ← Array.all_toList, List.all_eq_true]
  exact ⟨fun h c hc => of_decide_eq_true (h c hc), fun h c hc => decide_eq_true (h c hc)⟩
theorem lay_app {x y : Str} (hx : PyData.canLay0 (.str x) = true) (hy : PyData.canLay0 (.str y) = true) : PyData.canLay0 (.str (x ++ y)) = true := by
  rw [lay_iff] at hx hy ⊢
  intro c hc
  rw [TL.tl_append] at hc
  exact (List.mem_append.mp hc).elim (hx c) (hy c)
theorem lay_join {sep : Str} (hs : PyData.canLay0 (.str sep) = true) : ∀ {l : List Str}, Plain l → PyData.canLay0 (.str (Str.join sep l)) = true
  | [], _ => by
    show PyData.canLay0 (.str Str.empty) = true
    decide +kernel
  | [x], h => h x (List.mem_singleton.mpr rfl)
  | x :: y :: r, h => lay_app (lay_app (h x (List.mem_cons_self ..)) hs) (lay_join hs fun z hz => h z (List.mem_cons_of_mem _ hz))
theorem joinL_mem {S : List Nat} {c : Nat} : ∀ {l : List (List Nat)} {x : List Nat}, x ∈ l → c ∈ x → c ∈ joinL S l
  | [p], x, h, hc => by
    rw [← List.mem_singleton.mp h]
    exact hc
  | p :: q :: r, x, h, hc => by
    show c ∈ p ++ (S ++ joinL S (q :: r))
    rcases List.mem_cons.mp h with rfl | h
    · exact List.mem_append_left _ hc
    · exact List.mem_append_right _ (List.mem_append_right _ (joinL_mem h hc))
theorem split_plain {s y : Str} (hy : tl y ≠ []) (hk : y.cps.all (· < 256) = true) (h : PyData.canLay0 (.str s) = true) : Plain (Txt.split s y) := fun x hx => by
  obtain ⟨i1, _⟩ := split_back s y hy hk
  have e := congrArg tl i1
  rw [TL.tl_join] at e
  rw [lay_iff] at h ⊢
  intro c hc
  refine h c ?_
  rw [← e]
  exact joinL_mem (List.mem_map.mpr ⟨x, hx, rfl⟩) hc
/-! ### what a deal may change meanwhile -/
section
variable {K : PySem.W.Frag} {a b : Addr} {σ : L2.St} {H : Hp}
def EvD (a b : Addr) (te : TE) (σ : L2.St) (H : Hp) (Pv : V → Hp → Prop) : Prop := ∀ H1, Kp a b H H1 → Deal H1 a b → ∀ Q : VK, (∀ v H2, Kp a b H1 H2 → Deal H2 a b → Pv v H2 → Q v H2) → te σ H1 Q
def Lw (a b : Addr) (n : Nat) (v : V) (H : Hp) : Prop := ∃ (l : Addr) (ts : List Str), v = .ref l ∧ H l = some (.lst (ts.map V.str)) ∧ l ≠ a ∧ l ≠ b ∧ wt ts ≤ n ∧ Plain ts
theorem Lw.kp {n : Nat} {v : V} {H' : Hp} (h : Lw a b n v H) (k : Kp a b H H') : Lw a b n v H' := by
  obtain ⟨l, ts, rfl, hl, na, nb, hw⟩ := h
  exact ⟨l, ts, rfl, k _ _ na nb hl, na, nb, hw⟩
theorem cut_strs (ts : List Str) (lo hi : Option Int) : ∃ us : List Str, cutV (ts.map V.str) lo hi = us.map V.str ∧ wt us ≤ wt ts ∧ ∀ x ∈ us, x ∈ ts := by
  unfold cutV
  rw [List.length_map]
  refine ⟨(ts.drop (HT.sIx ts.length 0 lo)).take (HT.sIx ts.length ts.length hi - HT.sIx ts.length 0 lo), by rw [List.map_take, List.map_drop], Nat.le_trans (wt_take _ _).1 (wt_take _ _).2, fun x hx => List.mem_of_mem_drop (List.mem_of_mem_take hx)⟩
theorem ed_slice {i : Nat} {l : Addr} {ts : List Str} {lo hi : Option Int} {t1 t2 : TO} (hσ : σ[i]? = some (some (.ref l))) (hl : H l = some (.lst (ts.map V.str))) (na : l ≠ a) (nb : l ≠ b) (hp : Plain ts) (h1 : ∀ H1, EvO t1 σ H1 lo) (h2 : ∀ H1, EvO t2 σ H1 hi) :
    EvD a b (tSl (rSlL K) (tVar i) t1 t2) σ H (Lw a b (wt ts)) := fun H1 k1 D1 Q q => ⟨_, hσ, h1 H1 H1 (Ex.refl _) _ fun H2 e2 => h2 H2 H2 (Ex.refl _) _ fun H3 e3 => by
  have k3 : Kp a b H1 H3 := Kp.same (ex_same (e2.trans e3))
  have D3 := D1.keep (ex_same (e2.trans e3))
  obtain ⟨us, e, hw, hs⟩ := cut_strs ts lo hi
  refine ⟨l, _, rfl, SqL.of (k3 _ _ na nb (k1 _ _ na nb hl)), fun p np => ?_⟩
  rw [e]
  exact q _ _ (k3.trans (Kp.new np)) (D3.new np) ⟨p, us, rfl, upd_same, D3.nea np, D3.neb np, hw, fun x hx => hp x (hs x hx)⟩⟩
theorem ed_cat {n m : Nat} {ta tb : TE} (hn : n ≤ 2000) (hm : m ≤ 2000) (ha : EvD a b ta σ H (Lw a b n)) (hb : EvD a b tb σ H (Lw a b m)) : EvD a b (tOp rCat ta tb) σ H (Lw a b (n + m)) := fun H1 k1 D1 Q q =>
  ha H1 k1 D1 _ fun v H2 k2 D2 ⟨l, ts, ev, hl, na, nb, hw, hp⟩ => hb H2 (k1.trans k2) D2 _ fun w H3 k3 D3 ⟨l2, us, ew, hl2, na2, nb2, hw2, hp2⟩ => by
    subst ev ew
    have z1 : ts.length ≤ wt ts := Nat.le_add_left _ _
    have z2 : us.length ≤ wt us := Nat.le_add_left _ _
    refine ⟨l, l2, _, _, rfl, rfl, k3 _ _ na nb hl, hl2, by rw [List.length_map, List.length_map]; exact size_of (by omega), fun p np => ?_⟩
    refine q _ _ ((k2.trans k3).trans (Kp.new np)) (D3.new np) ⟨p, ts ++ us, rfl, by rw [upd_same, List.map_append], D3.nea np, D3.neb np, by rw [wt_app]; omega, fun x hx => (List.mem_append.mp hx).elim (hp x) (hp2 x)⟩
theorem ed_back {n : Nat} {ta ts : TE} (ha : EvD a b ta σ H (Lw a b n)) (hs : ∀ H1, Ev ts σ H1 (.int (-1))) : EvD a b (tBackL K ta ts) σ H (Lw a b n) := fun H1 k1 D1 Q q =>
  ha H1 k1 D1 _ fun v H2 k2 D2 ⟨l, us, ev, hl, na, nb, hw, hp⟩ => hs H2 H2 (Ex.refl _) _ fun H3 e3 => by
    subst ev
    refine ⟨-1, rfl, rfl, l, _, rfl, SqL.of (e3 _ _ hl), fun p np => ?_⟩
    have D3 := D2.keep (ex_same e3)
    refine q _ _ ((k2.trans (Kp.same (ex_same e3))).trans (Kp.new np)) (D3.new np) ⟨p, us.reverse, rfl, by rw [upd_same, List.map_reverse], D3.nea np, D3.neb np, by rw [wt_rev]; exact hw, fun x hx => hp x (List.mem_reverse.mp hx)⟩
theorem ed_join {n : Nat} {ta : TE} (hn : n ≤ 100000) (ha : EvD a b ta σ H (Lw a b n)) : EvD a b (tM1 (fun x xs H Q => ∃ a p, ∃ ys : List Str, x = .str a ∧ xs = [.ref p] ∧ (SqL K H p (ys.map V.str) ∨ SqT K H p (ys.map V.str)) ∧ (ys.map (·.length)).sum + ys.length * a.length ≤ 16777216 ∧ Q (.str (Txt.join a ys)) H) (tC (.str " ")) ta) σ H
    (fun v _ => ∃ t : Str, v = .str t ∧ t.length ≤ n ∧ PyData.canLay0 (.str t) = true) := fun H1 k1 D1 Q q => by
  refine ⟨⟨_, rfl⟩, ha H1 k1 D1 _ fun v H2 k2 D2 ⟨l, us, ev, hl, na, nb, hw, hp⟩ => ?_⟩
  subst ev
  have n1 : (Str.ofString " ").length = 1 := by decide +kernel
  refine ⟨" ", l, us, rfl, rfl, .inl (SqL.of hl), by rw [n1]; unfold wt at hw; omega, q _ _ k2 D2 ⟨_, rfl, ?_, ?_⟩⟩
  · rw [TL.join_eq]
    exact Nat.le_trans (wt_join us) hw
  · rw [TL.join_eq]
    exact lay_join (by decide +kernel) hp
/-- [pick(deal, some)] of a list of short texts -/
theorem ed_pick {i j : Nat} {l : Addr} {ws : List Str} {n : Nat} (hi : σ[i]? = some (some (.ref a))) (hj : σ[j]? = some (some (.ref l))) (hl : H l = some (.lst (ws.map V.str))) (na : l ≠ a) (nb : l ≠ b) (h0 : 0 < ws.length) (h1 : ws.length < 1000000) (hw : ∀ x ∈ ws, x.length ≤ n) (hp : Plain ws) :
    EvD a b (tLst (tCons (tCall (spPick K) [] E0 (tCons (tVar i) (tCons (tVar j) tNil))) tNil)) σ H (Lw a b (n + 1)) := fun H1 k1 D1 Q q =>
  ⟨_, hi, _, hj, a, b, l, _, rfl, D1, na, nb, .inl (SqL.of (k1 _ _ na nb hl)), by rw [List.length_map]; exact h0, by rw [List.length_map]; exact h1, fun x H2 hx k2 D2 => by
    obtain ⟨z, hz, rfl⟩ := List.mem_map.mp hx
    refine ⟨by show 1 ≤ sizeLine; decide, fun p np => q _ _ (k2.trans (Kp.new np)) (D2.new np) ⟨p, [z], rfl, upd_same, D2.nea np, D2.neb np, ?_, fun y hy => by rw [List.mem_singleton.mp hy]; exact hp z hz⟩⟩
    have := hw z hz
    unfold wt
    show z.length + 0 + 1 ≤ n + 1
    omega⟩
end
/-- one goes on from such a heap -/
theorem fin_at {a b l m : Addr} {H H4 : Hp} {ts us : List Str} {Pq : Hp → Prop} (k : Kp a b H H4) (D : Deal H4 a b) (h1 : H4 l = some (.lst (ts.map V.str))) (h2 : H4 m = some (.lst (us.map V.str))) (go : ∀ H4, Kp a b H H4 → Deal H4 a b → H4 l = some (.lst (ts.map V.str)) → H4 m = some (.lst (us.map V.str)) → Pq H4) : Pq H4 := go H4 k D h1 h2
def spBent : Sp := fun vs H Q _ => ∃ (a b : Addr) (s : Str), vs = [.ref a, .str s] ∧ Deal H a b ∧ s.length ≤ 250 ∧ PyData.canLay0 (.str s) = true ∧ ∀ (t : Str) H', t.length ≤ 900 → PyData.canLay0 (.str t) = true → Kp a b H H' → Deal H' a b → Q (.str t) H'
def oddL : List Str := ["if", "do", "and", "then", "not", "whole", "own", "level", "take", "count", "on", "", "answer"]
section
variable {P : Program} {w : World} {K : PySem.W.Frag} {mg : Str → Option Value} {base : Heap}
abbrev sBent : Stmt := topS 35
theorem scBent : FnScope ["_law_deal_here", "_law_text_here", "_law_words", "_law_form", "_law_at", "_law_more"] ["_law_deal_here", "_law_text_here"] (defScope sBent) := ⟨rfl, rfl, rfl, by decide +kernel, rfl, by decide +kernel, by decide +kernel⟩
theorem ok_bent {f fDraw fPick : Addr} {fd fdDraw fdPick : FuncData} (F : Fun K "_law_bent" "_law_bent" sBent f fd) (T : TxB mg) (D_draw : Df K mg "_law_draw" sDraw ["_law_deal_here", "_law_many"] fDraw fdDraw) (D_pick : Df K mg "_law_pick" sPick ["_law_deal_here", "_law_some"] fPick fdPick) :
    FnOk P w K mg base CX0 3 f fd ["_law_deal_here", "_law_text_here"] spBent := by
  have G_draw : FnOk P w K mg base CX0 1 fDraw fdDraw ["_law_deal_here", "_law_many"] spDraw := ok_draw D_draw.F T.n_int
  have G_pick : FnOk P w K mg base CX0 2 fPick fdPick ["_law_deal_here", "_law_some"] (spPick K) := ok_pick D_pick.F T D_draw
  refine F.ok scBent (fun vs H Q E h => ?_) (fun cdv A outer s H vs Q E hr h => ?_)
  · obtain ⟨a, b, s, rfl, _⟩ := h
    rfl
  · obtain ⟨a, b, x, rfl, D, lx, px, q⟩ := h
    refine ⟨_, pss_cons (ps_par (i := 2) (j := 3) (by rfl) scBent.nd rfl rfl (by decide) rfl rfl (pa_cons (pe_split (pv 1) pe_str) (pa_cons (pe_call G_draw (hr.mono (by decide)) rfl D_draw.g D_draw.F.kp D_draw.b .nil pass0 (pa_cons (pv 0) (pa_cons pe_int pa_nil))) pa_nil)) (by rfl))
      (pss_cons (ps_set (i := 4) scBent.nd rfl (.inl rfl) (pe_call G_draw (hr.mono (by decide)) rfl D_draw.g D_draw.F.kp D_draw.b .nil pass0 (pa_cons (pv 0) (pa_cons (pe_callB call_len_seq (by rfl) T.n_len (by decide +kernel) (pa_cons (pv 2) pa_nil)) pa_nil))))
      (pss_cons (ps_set (i := 5) scBent.nd rfl (.inl rfl) (pe_lst (pa_cons pe_str (pa_cons pe_str (pa_cons pe_str (pa_cons pe_str (pa_cons pe_str (pa_cons pe_str (pa_cons pe_str (pa_cons pe_str (pa_cons pe_str (pa_cons pe_str (pa_cons pe_str (pa_cons pe_str (pa_cons pe_str pa_nil)))))))))))))))
      (pss_cons (ps_set (i := 5) scBent.nd rfl (.inl rfl) (pe_op op_cat (pv 5) (pe_lst (pa_cons pe_str (pa_cons pe_str pa_nil)))))
      (pss_cons (ps_if (pt_cmpR op_eq (pv 3) pe_int (nomark _)) (pss_one (ps_ret (pe_join pe_str (pe_op op_cat (pe_slice sl_list (pv 2) po_none (po_some (pv 4))) (pe_slice sl_list (pv 2) (po_some (pe_op op_add (pv 4) pe_int)) po_none))))) pss_nil)
      (pss_cons (ps_if (pt_cmpR op_eq (pv 3) pe_int (nomark _)) (pss_one (ps_ret (pe_join pe_str (pe_op op_cat (pe_op op_cat (pe_slice sl_list (pv 2) po_none (po_some (pv 4))) (pe_lst (pa_cons (pe_call G_pick (hr.mono (by decide)) rfl D_pick.g D_pick.F.kp D_pick.b .nil pass0 (pa_cons (pv 0) (pa_cons (pv 5) pa_nil))) pa_nil))) (pe_slice sl_list (pv 2) (po_some (pv 4)) po_none))))) pss_nil)
      (pss_cons (ps_if (pt_cmpR op_eq (pv 3) pe_int (nomark _)) (pss_one (ps_ret (pe_join pe_str (pe_op op_cat (pe_op op_cat (pe_slice sl_list (pv 2) po_none (po_some (pv 4))) (pe_lst (pa_cons (pe_call G_pick (hr.mono (by decide)) rfl D_pick.g D_pick.F.kp D_pick.b .nil pass0 (pa_cons (pv 0) (pa_cons (pv 5) pa_nil))) pa_nil))) (pe_slice sl_list (pv 2) (po_some (pe_op op_add (pv 4) pe_int)) po_none))))) pss_nil)
      (pss_cons (ps_if (pt_cmpR op_eq (pv 3) pe_int (nomark _)) (pss_one (ps_ret (pe_join pe_str (pe_op op_cat (pe_op op_cat (pe_slice sl_list (pv 2) po_none (po_some (pv 4))) (pe_backL (pe_slice sl_list (pv 2) (po_some (pv 4)) (po_some (pe_op op_add (pv 4) pe_int))) (pe_op op_sub pe_int pe_int))) (pe_slice sl_list (pv 2) (po_some (pe_op op_add (pv 4) pe_int)) po_none))))) pss_nil)
      (pss_one (ps_ret (pe_ifExp (pt_cmpR op_eq (pv 3) pe_int (nomark _)) (pe_op op_add_str (pv 1) (pe_call G_pick (hr.mono (by decide)) rfl D_pick.g D_pick.F.kp D_pick.b .nil pass0 (pa_cons (pv 0) (pa_cons (pe_lst (pa_cons pe_str (pa_cons pe_str (pa_cons pe_str (pa_cons pe_str (pa_cons pe_str (pa_cons pe_str pa_nil))))))) pa_nil)))) (pe_op op_add_str pe_str (pv 1)))))))))))), ?_⟩
    obtain ⟨w1, w0⟩ := wt_split x
    have hp : Plain (Txt.split x " ") := split_plain (by decide +kernel) (by decide +kernel) px
    have hpo : Plain (oddL ++ (["Do", "later"] : List Str)) := by unfold Plain; decide +kernel
    have w2 : (Txt.split x " ").length ≤ wt (Txt.split x " ") := Nat.le_add_left _ _
    refine ⟨_, rfl, ⟨_, rfl⟩, x, " ", rfl, rfl, by decide +kernel, size_of (by omega), fun l nl => ?_⟩
    refine ⟨_, rfl, a, b, 6, rfl, D.new nl, by decide, by decide, fun r H1 r0 r1 k1 D1 => ⟨_, _, rfl, ?_⟩⟩
    have na := D.nea nl
    have nb := D.neb nl
    have hl1 : H1 l = some (.lst ((Txt.split x " ").map V.str)) := k1 _ _ na nb upd_same
    refine ⟨_, rfl, _, rfl, l, _, rfl, .inl (SqL.of hl1), a, b, _, rfl, D1, by rw [List.length_map]; omega, by rw [List.length_map]; omega, fun i H2 i0 i1 k2 D2 => ?_⟩
    refine ⟨by show 13 ≤ sizeLine; decide, fun m nm => ?_⟩
    refine ⟨_, rfl, by show 2 ≤ sizeLine; decide, fun m2 n2 => ⟨m, m2, oddL.map V.str, [V.str "Do", V.str "later"], rfl, rfl, ?_, upd_same, by decide, fun m3 n3 => ?_⟩⟩
    · rw [upd_ne (fun z => by rw [← z, upd_same] at n2; cases n2)]
      exact upd_same
    have ka : Kp a b H _ := ((((Kp.new nl).trans k1).trans k2).trans (Kp.new nm)).trans (Kp.new n2) |>.trans (Kp.new (o := HO.lst (oddL.map V.str ++ [V.str "Do", V.str "later"])) n3)
    have D3 := ((D2.new nm).new n2).new (o := HO.lst (oddL.map V.str ++ [V.str "Do", V.str "later"])) n3
    have na3 := ((D2.new nm).new n2).nea n3
    have nb3 := ((D2.new nm).new n2).neb n3
    have kl : Kp a b H1 _ := ((k2.trans (Kp.new nm)).trans (Kp.new n2)).trans (Kp.new (o := HO.lst (oddL.map V.str ++ [V.str "Do", V.str "later"])) n3)
    have hl3 := kl _ _ na nb hl1
    have hsh : ∀ z ∈ oddL ++ (["Do", "later"] : List Str), z.length ≤ 7 := by decide +kernel
    refine fin_at (l := l) (m := m3) (ts := Txt.split x " ") (us := oddL ++ (["Do", "later"] : List Str)) ka D3 hl3 upd_same ?_
    intro H4 k4 D4 hl4 hm4
    refine Evl.q_when (b := decide (V.int r = V.int 0)) (Evl.et_test (Evl.ev_op (Evl.ev_var rfl) Evl.ev_c (Evl.rv_eq rfl))) (fun _ H5 e5 => ?_) (fun _ H5 e5 => ?_)
    · have D5 := D4.keep (ex_same e5)
      refine ed_join (by omega) (ed_cat (by omega) (by omega) (ed_slice (ts := Txt.split x " ") rfl (e5 _ _ hl4) na nb hp (fun _ => Evl.eo_none) (fun _ => Evl.eo_some (Evl.ev_var rfl))) (ed_slice (ts := Txt.split x " ") rfl (e5 _ _ hl4) na nb hp (fun _ => Evl.eo_some (Evl.ev_op (Evl.ev_var rfl) Evl.ev_c Evl.rv_I0)) (fun _ => Evl.eo_none))) H5 (Kp.refl _ _ _) D5 _ fun v H6 k6 D6 ⟨t, ev, ht, htp⟩ => ?_
      subst ev
      exact q t H6 (by omega) htp ((k4.trans (Kp.same (ex_same e5))).trans k6) D6
    replace hl4 := e5 _ _ hl4
    replace hm4 := e5 _ _ hm4
    replace D4 := D4.keep (ex_same e5)
    replace k4 := k4.trans (Kp.same (ex_same e5))
    refine Evl.q_when (b := decide (V.int r = V.int 1)) (Evl.et_test (Evl.ev_op (Evl.ev_var rfl) Evl.ev_c (Evl.rv_eq rfl))) (fun _ H6 e6 => ?_) (fun _ H6 e6 => ?_)
    · have D5 := D4.keep (ex_same e6)
      refine ed_join (by omega) (ed_cat (by omega) (by omega) (ed_cat (by omega) (by omega) (ed_slice (ts := Txt.split x " ") rfl (e6 _ _ hl4) na nb hp (fun _ => Evl.eo_none) (fun _ => Evl.eo_some (Evl.ev_var rfl))) (ed_pick (n := 7) rfl rfl (e6 _ _ hm4) na3 nb3 (by decide) (by decide) hsh hpo)) (ed_slice (ts := Txt.split x " ") rfl (e6 _ _ hl4) na nb hp (fun _ => Evl.eo_some (Evl.ev_var rfl)) (fun _ => Evl.eo_none))) H6 (Kp.refl _ _ _) D5 _ fun v H7 k7 D7 ⟨t, ev, ht, htp⟩ => ?_
      subst ev
      exact q t H7 (by omega) htp ((k4.trans (Kp.same (ex_same e6))).trans k7) D7
    replace hl4 := e6 _ _ hl4
    replace hm4 := e6 _ _ hm4
    replace D4 := D4.keep (ex_same e6)
    replace k4 := k4.trans (Kp.same (ex_same e6))
    refine Evl.q_when (b := decide (V.int r = V.int 2)) (Evl.et_test (Evl.ev_op (Evl.ev_var rfl) Evl.ev_c (Evl.rv_eq rfl))) (fun _ H7 e7 => ?_) (fun _ H7 e7 => ?_)
    · have D5 := D4.keep (ex_same e7)
      refine ed_join (by omega) (ed_cat (by omega) (by omega) (ed_cat (by omega) (by omega) (ed_slice (ts := Txt.split x " ") rfl (e7 _ _ hl4) na nb hp (fun _ => Evl.eo_none) (fun _ => Evl.eo_some (Evl.ev_var rfl))) (ed_pick (n := 7) rfl rfl (e7 _ _ hm4) na3 nb3 (by decide) (by decide) hsh hpo)) (ed_slice (ts := Txt.split x " ") rfl (e7 _ _ hl4) na nb hp (fun _ => Evl.eo_some (Evl.ev_op (Evl.ev_var rfl) Evl.ev_c Evl.rv_I0)) (fun _ => Evl.eo_none))) H7 (Kp.refl _ _ _) D5 _ fun v H8 k8 D8 ⟨t, ev, ht, htp⟩ => ?_
      subst ev
      exact q t H8 (by omega) htp ((k4.trans (Kp.same (ex_same e7))).trans k8) D8
    replace hl4 := e7 _ _ hl4
    replace D4 := D4.keep (ex_same e7)
    replace k4 := k4.trans (Kp.same (ex_same e7))
    refine Evl.q_when (b := decide (V.int r = V.int 3)) (Evl.et_test (Evl.ev_op (Evl.ev_var rfl) Evl.ev_c (Evl.rv_eq rfl))) (fun _ H8 e8 => ?_) (fun _ H8 e8 => ?_)
    · have D5 := D4.keep (ex_same e8)
      refine ed_join (by omega) (ed_cat (by omega) (by omega) (ed_cat (by omega) (by omega) (ed_slice (ts := Txt.split x " ") rfl (e8 _ _ hl4) na nb hp (fun _ => Evl.eo_none) (fun _ => Evl.eo_some (Evl.ev_var rfl))) (ed_back (ed_slice (ts := Txt.split x " ") rfl (e8 _ _ hl4) na nb hp (fun _ => Evl.eo_some (Evl.ev_var rfl)) (fun _ => Evl.eo_some (Evl.ev_op (Evl.ev_var rfl) Evl.ev_c Evl.rv_I0))) (fun _ => Evl.ev_op Evl.ev_c Evl.ev_c Evl.rv_I0))) (ed_slice (ts := Txt.split x " ") rfl (e8 _ _ hl4) na nb hp (fun _ => Evl.eo_some (Evl.ev_op (Evl.ev_var rfl) Evl.ev_c Evl.rv_I0)) (fun _ => Evl.eo_none))) H8 (Kp.refl _ _ _) D5 _ fun v H9 k9 D9 ⟨t, ev, ht, htp⟩ => ?_
      subst ev
      exact q t H9 (by omega) htp ((k4.trans (Kp.same (ex_same e8))).trans k9) D9
    replace D4 := D4.keep (ex_same e8)
    replace k4 := k4.trans (Kp.same (ex_same e8))
    refine ⟨_, rfl, rfl, _, rfl, ite2 (fun _ => ?_) (fun _ => ?_)⟩
    · refine ⟨_, rfl, _, rfl, by show 6 ≤ sizeLine; decide, fun l2 n2' => ⟨a, b, l2, _, rfl, D4.new n2', D4.nea n2', D4.neb n2', .inl (SqL.of upd_same), by decide, by decide, fun y H9 hy k9 D9 => ?_⟩⟩
      obtain ⟨z, rfl, hz, hzp⟩ : ∃ z : Str, y = .str z ∧ z.length ≤ 10 ∧ PyData.canLay0 (.str z) = true := by
        have h2 : y ∈ ([" ", " do", " if", " and own", " then wipe", "\n"] : List Str).map V.str := hy
        obtain ⟨z, h3, h4⟩ := List.mem_map.mp h2
        have h5 : ∀ z ∈ ([" ", " do", " if", " and own", " then wipe", "\n"] : List Str), z.length ≤ 10 ∧ PyData.canLay0 (.str z) = true := by decide +kernel
        exact ⟨z, h4.symm, h5 z h3⟩
      exact ⟨_, _, rfl, rfl, size_of (by omega), q _ H9 (by rw [Str.length_append]; omega) (lay_app px hzp) ((k4.trans (Kp.new n2')).trans k9) D9⟩
    · have n1 : (Str.ofString " ").length = 1 := by decide +kernel
      exact ⟨_, rfl, _, _, rfl, rfl, size_of (by omega), q _ H8 (by rw [Str.length_append]; omega) (lay_app (by decide +kernel) px) k4 D4⟩
end
end Ov

namespace Ov
open PySem PySem.Spec PyProof.Rows L2
open Evl (pss_cut tCut Ex Ev EvT EvL EvA EvU EvO)
open TL (tl pre par)
theorem tl_lo (z : Str) (k : Nat) : tl (L2.cutS z none (some (k : Int))) = (tl z).take k := by
  show ((tl z).drop (HT.sIx z.length 0 none)).take (HT.sIx z.length z.length (some (k : Int)) - HT.sIx z.length 0 none) = _
  rw [HT.sIx_none, HT.sIx_nat, List.drop_zero, Nat.sub_zero, TL.len_tl]
  rcases Nat.le_total k (tl z).length with h | h
  · rw [Nat.min_eq_left h]
  · rw [Nat.min_eq_right h, List.take_length, List.take_of_length_le h]
theorem tl_hi (z : Str) (k : Nat) : tl (L2.cutS z (some (k : Int)) none) = (tl z).drop k := by
  show ((tl z).drop (HT.sIx z.length 0 (some (k : Int)))).take (HT.sIx z.length z.length none - HT.sIx z.length 0 (some (k : Int))) = _
  rw [HT.sIx_none, HT.sIx_nat, TL.len_tl]
  rcases Nat.le_total k (tl z).length with h | h
  · rw [Nat.min_eq_left h]
    exact List.take_of_length_le (by rw [List.length_drop]; exact Nat.le_refl _)
  · rw [Nat.min_eq_right h, Nat.sub_self, List.take_zero, List.drop_of_length_le h]
theorem part_nil {x y : Str} (h : Builtin.Str.occurrences x y 0 x.length 1 = []) : Txt.partition x y = (x, Str.empty, Str.empty) := by
  unfold Txt.partition
  rw [h]
theorem part_some {x y : Str} {i : Nat} {r : List Nat} (h : Builtin.Str.occurrences x y 0 x.length 1 = i :: r) (hy : y.length = 4) : Txt.partition x y = (L2.cutS x none (some (i : Int)), y, L2.cutS x (some ((i : Int) + 4)) none) := by
  unfold Txt.partition
  rw [h]
  show (Builtin.Str.strSub x 0 i, y, Builtin.Str.strSub x (i + y.length) x.length) = _
  have e1 : Builtin.Str.strSub x 0 i = L2.cutS x none (some (i : Int)) := TL.ext_tl (by rw [TL.tl_strSub, tl_lo, List.drop_zero, Nat.sub_zero])
  have e2 : Builtin.Str.strSub x (i + y.length) x.length = L2.cutS x (some ((i : Int) + 4)) none := by
    have e3 : ((i : Int) + 4) = ((i + 4 : Nat) : Int) := by omega
    rw [hy, e3]
    exact TL.ext_tl (by rw [TL.tl_strSub_end, tl_hi])
  rw [e1, e2]
theorem strip_eq (w : Str) : (if L2.cutS w none (some 4) = "not " then L2.cutS w (some 4) none else w) = Txt.removeprefix w "not " := by
  have n4 : (Str.ofString "not ").length = 4 := by decide +kernel
  rcases rp_cases w "not " with e | e
  · by_cases h : L2.cutS w none (some 4) = "not "
    · exfalso
      have e2 : w = ("not " : Str) ++ L2.cutS w (some 4) none := TL.ext_tl (by
        rw [TL.tl_append, ← h, show tl (L2.cutS w none (some 4)) = (tl w).take 4 from tl_lo w 4, show tl (L2.cutS w (some 4) none) = (tl w).drop 4 from tl_hi w 4, List.take_append_drop])
      have e3 := rp_app "not " (L2.cutS w (some 4) none)
      rw [← e2, e] at e3
      have e4 := congrArg Str.length e2
      rw [Str.length_append, n4, ← e3] at e4
      omega
    · rw [if_neg h, e]
  · have h1 : L2.cutS w none (some 4) = "not " := TL.ext_tl (by
      rw [show tl (L2.cutS w none (some 4)) = (tl w).take 4 from tl_lo w 4, e, TL.tl_append, List.take_left' (by rw [← TL.len_tl]; exact n4)])
    rw [if_pos h1]
    refine TL.ext_tl ?_
    rw [show tl (L2.cutS w (some 4) none) = (tl w).drop 4 from tl_hi w 4]
    conv => lhs; rw [e]
    rw [TL.tl_append, List.drop_left' (by rw [← TL.len_tl]; exact n4)]
section
variable {K : PySem.W.Frag} {σ : L2.St} {H : Hp} {te tl_ : TE} {tt : TT}
theorem ev_slS {z : Str} {lo hi : Option Int} {t1 t2 : TO} (h : Ev te σ H (.str z)) (h1 : EvO t1 σ H lo) (h2 : EvO t2 σ H hi) (hz : z.length ≤ 100000) : Ev (tSl rSlS te t1 t2) σ H (.str (L2.cutS z lo hi)) := fun H1 e Q q =>
  h H1 e _ fun H2 e2 => h1 H2 (e.trans e2) _ fun H3 e3 => h2 H3 ((e.trans e2).trans e3) _ fun H4 e4 => ⟨z, rfl, size_of hz, q H4 ((e2.trans e3).trans e4)⟩
theorem given_filter (ts : List Str) (g : Str → Bool) : ∀ n, n ≤ ts.length → Evl.given n (fun i => g (ts.getD i Str.empty)) (fun i => V.str (ts.getD i Str.empty)) = ((ts.take n).filter g).map V.str
  | 0, _ => by rw [List.take_zero]; rfl
  | n + 1, h => by
    have ih := given_filter ts g n (Nat.le_of_succ_le h)
    have e : ts[n]? = some (ts.getD n Str.empty) := by rw [List.getD_eq_getElem?_getD, List.getElem?_eq_getElem h]; rfl
    rw [List.take_add_one, e, Option.toList_some, List.filter_append, List.map_append]
    cases hg : g (ts.getD n Str.empty) with
    | true =>
      rw [Evl.given_yes hg, ih, List.filter_cons_of_pos hg]
      rfl
    | false =>
      rw [Evl.given_no hg, ih, List.filter_cons_of_neg (by rw [hg]; exact Bool.false_ne_true)]
      exact (List.append_nil _).symm
theorem el_filter {a : Addr} {ts : List Str} {j : Nat} {vs : List Nat} (g : Str → Bool) (h : Ev tl_ σ H (.ref a)) (hx : SqL K H a (ts.map V.str)) (hz : ts.length ≤ 40000) (hw : ∀ x, wipe ((wipe σ vs).set j (some x)) vs = wipe σ vs)
    (ht : ∀ (t : Str) H1, Ex H H1 → t ∈ ts → EvT tt ((wipe σ vs).set j (some (.str t))) H1 (g t)) (he : ∀ (t : Str) H1, Ex H H1 → Ev te ((wipe σ vs).set j (some (.str t))) H1 (.str t)) : EvL (tLc (iList K tl_) (gName j) tt te vs) σ H ((ts.filter g).map V.str) := by
  have e := given_filter ts g ts.length (Nat.le_refl _)
  rw [List.take_length] at e
  rw [← e, show ts.length = (ts.map V.str).length from (List.length_map ..).symm]
  have at_ : ∀ {i : Nat} {x : V}, (ts.map V.str)[i]? = some x → x = .str (ts.getD i Str.empty) ∧ ts.getD i Str.empty ∈ ts := fun {i x} hi => by
    obtain ⟨y, rfl, hy⟩ := strs_at hi
    have : ts.getD i Str.empty = y := by rw [List.getD_eq_getElem?_getD, hy]; rfl
    rw [this]
    exact ⟨rfl, List.mem_of_getElem? hy⟩
  refine Evl.el_lcL _ _ h hx (by rw [List.length_map]; exact hz) hw (fun i x H1 e1 hi => ?_) (fun i x H1 e1 hi _ => ?_)
  · obtain ⟨rfl, hm⟩ := at_ hi
    exact ht _ H1 e1 hm
  · obtain ⟨rfl, hm⟩ := at_ hi
    exact he _ H1 e1
theorem el_mapS {a : Addr} {ts : List Str} {j : Nat} {vs : List Nat} (g : Str → Str) (h : Ev tl_ σ H (.ref a)) (hx : SqL K H a (ts.map V.str)) (hz : ts.length ≤ 40000) (hw : ∀ x, wipe ((wipe σ vs).set j (some x)) vs = wipe σ vs)
    (he : ∀ (t : Str) H1, Ex H H1 → t ∈ ts → Ev te ((wipe σ vs).set j (some (.str t))) H1 (.str (g t))) : EvL (tLc (iList K tl_) (gName j) tYes te vs) σ H ((ts.map g).map V.str) := by
  have e : (List.range (ts.map V.str).length).map (fun i => ((ts[i]?).map fun t => V.str (g t)).getD .non) = (ts.map g).map V.str := by
    rw [List.map_map]
    exact range_atX ts (List.length_map ..) _ _ fun i r hi => by rw [hi]; rfl
  rw [← e, ← given_all]
  refine Evl.el_lcL (fun _ => true) _ h hx (by rw [List.length_map]; exact hz) hw (fun _ _ _ _ _ => et_yes) (fun i x H1 e1 hi _ => ?_)
  obtain ⟨y, rfl, hy⟩ := strs_at hi
  show Ev te _ H1 (((ts[i]?).map fun t => V.str (g t)).getD .non)
  rw [hy]
  exact he y H1 e1 (List.mem_of_getElem? hy)
/-- a new list of texts against the empty one -/
theorem ev_eqNil {us : List Str} (hp : Plain us) (h : EvL te σ H (us.map V.str)) : Ev (tOp (rEqD K) te (tLst tNil)) σ H (.bl (decide (us = []))) :=
  Evl.ev_opLL (ys := []) h (Evl.el_lst Evl.ea_nil (Nat.zero_le _)) fun p q H1 hp1 hq1 _ => fun H2 e2 Q k => ⟨_, _, .lst (Evl.sq_of (e2 _ _ hp1)) (dp_strs us), .lst (Evl.sq_of (e2 _ _ hq1)) .nil, shaped_strsL us hp, shaped_strsL [] (fun _ h => nomatch h), by
    rw [show PyData.eqv (.list (us.map PyData.str)) (.list []) = decide (us = []) from eqv_strsL us []]
    exact k H2 (Ex.refl _)⟩
theorem ev_neNil {us : List Str} (hp : Plain us) (h : EvL te σ H (us.map V.str)) : Ev (tOp (rNeD K) te (tLst tNil)) σ H (.bl (!decide (us = []))) :=
  Evl.ev_opLL (ys := []) h (Evl.el_lst Evl.ea_nil (Nat.zero_le _)) fun p q H1 hp1 hq1 _ => fun H2 e2 Q k => ⟨_, _, .lst (Evl.sq_of (e2 _ _ hp1)) (dp_strs us), .lst (Evl.sq_of (e2 _ _ hq1)) .nil, shaped_strsL us hp, shaped_strsL [] (fun _ h => nomatch h), by
    rw [show PyData.eqv (.list (us.map PyData.str)) (.list []) = decide (us = []) from eqv_strsL us []]
    exact k H2 (Ex.refl _)⟩
end
theorem filter_nil (ts : List Str) (g : Str → Bool) : decide (ts.filter (fun t => !g t) = []) = ts.all g := by
  induction ts with
  | nil => rfl
  | cons x l ih =>
    rw [List.all_cons, ← ih]
    cases h : g x with
    | true =>
      rw [List.filter_cons_of_neg (by rw [h]; exact Bool.false_ne_true), Bool.true_and]
    | false =>
      rw [List.filter_cons_of_pos (by rw [h]; rfl), Bool.false_and]
      exact decide_eq_false (fun z => nomatch z)
theorem q_par2 {ta : TA} {tz : TS} {D : Ends} {σ : L2.St} {H : Hp} {v w : V} {i j : Nat} (h : EvA ta σ H [v, w]) (k : ∀ H1, Ex H H1 → tz D ((σ.set i (some v)).set j (some w)) H1) : tSeq (tPar i j ta) tz D σ H := h H (Ex.refl _) _ fun H1 e => ⟨v, w, rfl, k H1 e⟩
def spIsText : Sp := fun vs H Q _ => ∃ s : Str, vs = [.str s] ∧ s.length ≤ 900 ∧ PyData.canLay0 (.str s) = true ∧ ∀ H', Ex H H' → Q (.bl (readR s).isSome) H'
section
variable {P : Program} {w : World} {K : PySem.W.Frag} {mg : Str → Option Value} {base : Heap}
abbrev sIsText : Stmt := topS 34
theorem scIsText : FnScope ["_law_text_here", "_law_head", "_law_tail", "_law_cut", "_law_first", "_law_some", "_law_plain", "_law_word"] ["_law_text_here"] (defScope sIsText) := ⟨rfl, rfl, rfl, by decide +kernel, rfl, by decide +kernel, by decide +kernel⟩
abbrev rHas : R2 := fun x y H Q => ∃ i j, x = V.str i ∧ y = V.str j ∧ Q (V.bl !(Builtin.Str.occurrences j i 0 j.length 1).isEmpty) H
abbrev rIdx : V → List V → Hp → VK → Prop := fun x xs H Q => ∃ a b i rest, x = V.str a ∧ xs = [V.str b] ∧ Builtin.Str.occurrences a b 0 a.length 1 = i :: rest ∧ Q (V.int (i : Nat)) H
abbrev rSpl : V → List V → Hp → VK → Prop := fun x xs H Q => ∃ a b, x = V.str a ∧ xs = [V.str b] ∧ (b.length == 0) = false ∧ a.length + 2 ≤ sizeLine ∧ rNewStrs (Txt.split a b) H Q
abbrev tHead : TE := tSl rSlS (tVar 1) tNoPart (tPart (tVar 3))
abbrev tRest (sep : Str) : TE := tM1 rSpl (tSl rSlS (tVar 1) (tPart (tOp (rI0 fun i j => V.int (i + j)) (tVar 3) (tC (V.int 4)))) tNoPart) (tC (V.str sep))
theorem ev_has {σ : L2.St} {H : Hp} {y h : Str} (hσ : σ[1]? = some (some (.str h))) : Ev (tOp rHas (tC (V.str y)) (tVar 1)) σ H (.bl !(Builtin.Str.occurrences h y 0 h.length 1).isEmpty) := Evl.ev_op Evl.ev_c (Evl.ev_var hσ) fun H1 _ _ q => ⟨_, _, rfl, rfl, q H1 (Ex.refl _)⟩
theorem ev_idx {σ : L2.St} {H : Hp} {y h : Str} {i : Nat} {r : List Nat} (hσ : σ[1]? = some (some (.str h))) (ho : Builtin.Str.occurrences h y 0 h.length 1 = i :: r) : Ev (tM1 rIdx (tVar 1) (tC (V.str y))) σ H (.int (i : Nat)) := fun H1 _ _ q => ⟨_, hσ, ⟨_, rfl⟩, h, y, i, r, rfl, rfl, ho, q H1 (Ex.refl _)⟩
theorem el_rest {σ : L2.St} {H : Hp} {h sep : Str} {i : Nat} (hσ : σ[1]? = some (some (.str h))) (hi : σ[3]? = some (some (.int (i : Nat)))) (hs : (sep.length == 0) = false) (hz : h.length ≤ 900) : EvL (tRest sep) σ H ((Txt.split (L2.cutS h (some ((i : Int) + 4)) none) sep).map V.str) := fun H1 e Q q =>
  ⟨_, hσ, (Evl.eo_some (Evl.ev_op (Evl.ev_var hi) Evl.ev_c Evl.rv_I0)) H1 (Ex.refl _) _ fun H2 e2 => ⟨h, rfl, size_of (by omega), ⟨_, rfl⟩, _, sep, rfl, rfl, hs, size_of (by have := cutS_length h (some ((i : Int) + 4)) none; omega), fun l nl => q l _ (Evl.fresh_back e2 nl) (e2.trans (Ex.new nl)) upd_same⟩⟩
def TailAt (h : Str) (v : V) (H : Hp) : Prop := ((Txt.partition h " do ").2.1 = Str.empty ∧ v = .non) ∨ ∃ l : Addr, (Txt.partition h " do ").2.1 = " do " ∧ v = .ref l ∧ H l = some (.lst ((Txt.split (Txt.partition h " do ").2.2 " then ").map V.str))
theorem TailAt.ex {h : Str} {v : V} {H H' : Hp} (t : TailAt h v H) (e : Ex H H') : TailAt h v H' := t.imp id fun ⟨l, a, b, c⟩ => ⟨l, a, b, e _ _ c⟩
def rdTail : TS := tIfS (tTest (tOp rHas (tC (V.str " do ")) (tVar 1))) (tSeq (tAsg (tM1 rIdx (tVar 1) (tC (V.str " do "))) (gName 3)) (tPar 1 2 (tCons tHead (tCons (tRest " then ") tNil)))) tNext
theorem rd_tail {D : Ends} {H : Hp} {x h : Str} (lh : h.length ≤ 900) (k : ∀ v2 v3 H', Ex H H' → TailAt h v2 H' → D.nx [some (.str x), some (.str (Txt.partition h " do ").1), some v2, v3, none, none, none, none] H') : rdTail D [some (.str x), some (.str h), some .non, none, none, none, none, none] H := by
  have n4d : (Str.ofString " do ").length = 4 := by decide +kernel
  cases ho : Builtin.Str.occurrences h " do " 0 h.length 1 with
  | nil =>
    have ep := part_nil ho
    refine Evl.s_when (b := false) (Evl.et_is (Evl.et_test (ev_has rfl)) (by rw [ho]; rfl)) (fun z => nomatch z) (fun _ H1 e1 => ?_)
    have k1 := k .non none H1 e1 (.inl ⟨by rw [ep], rfl⟩)
    rw [ep] at k1
    exact k1
  | cons i r =>
    have ep := part_some ho n4d
    refine Evl.s_when (b := true) (Evl.et_is (Evl.et_test (ev_has rfl)) (by rw [ho]; rfl)) (fun _ H1 e1 => ?_) (fun z => nomatch z)
    refine Evl.q_asg (ev_idx rfl ho) fun H2 e2 => ?_
    refine (ev_slS (Evl.ev_var rfl) Evl.eo_none (Evl.eo_some (Evl.ev_var rfl)) (by omega)) H2 (Ex.refl _) _ fun H3 e3 => (el_rest rfl rfl (by decide +kernel) lh) H3 (Ex.refl _) _ fun l H4 nl e4 hl => ⟨_, _, rfl, ?_⟩
    have k1 := k (.ref l) (some (.int (i : Nat))) H4 (((e1.trans e2).trans e3).trans e4) (.inr ⟨l, by rw [ep], rfl, by rw [ep]; exact hl⟩)
    rw [ep] at k1
    exact k1
abbrev tTwo (K : PySem.W.Frag) : TG := gTup K 2 (gCons (gName 4) (gCons (gName 5) gNil))
def rdSome (K : PySem.W.Frag) : TS := tIfS (tTest (tOp rHas (tC (V.str " if ")) (tVar 1))) (tSeq (tAsg (tM1 rIdx (tVar 1) (tC (V.str " if "))) (gName 3)) (tAsg (tTup (tCons tHead (tCons (tRest " and ") tNil))) (tTwo K))) tNext
theorem rd_some2 {K : PySem.W.Frag} {D : Ends} {H : Hp} {x h : Str} {v2 v3 : Option V} {ls : Addr} (lh : h.length ≤ 900) (hs : H ls = some (.lst []))
    (k : ∀ w3 l H', Ex H H' → H' l = some (.lst ((partsOf (Txt.partition h " if ").2.1 (Txt.partition h " if ").2.2 " and ").map V.str)) → D.nx [some (.str x), some (.str h), v2, w3, some (.str (Txt.partition h " if ").1), some (.ref l), none, none] H') :
    rdSome K D [some (.str x), some (.str h), v2, v3, some (.str h), some (.ref ls), none, none] H := by
  have n4d : (Str.ofString " if ").length = 4 := by decide +kernel
  cases ho : Builtin.Str.occurrences h " if " 0 h.length 1 with
  | nil =>
    have ep := part_nil ho
    refine Evl.s_when (b := false) (Evl.et_is (Evl.et_test (ev_has rfl)) (by rw [ho]; rfl)) (fun z => nomatch z) (fun _ H1 e1 => ?_)
    have k1 := k v3 ls H1 e1 (by rw [ep]; unfold partsOf; rw [if_pos rfl]; exact e1 _ _ hs)
    rw [ep] at k1
    exact k1
  | cons i r =>
    have ep := part_some ho n4d
    refine Evl.s_when (b := true) (Evl.et_is (Evl.et_test (ev_has rfl)) (by rw [ho]; rfl)) (fun _ H1 e1 => ?_) (fun z => nomatch z)
    refine Evl.q_asg (ev_idx rfl ho) fun H2 e2 => ?_
    refine (ev_slS (Evl.ev_var rfl) Evl.eo_none (Evl.eo_some (Evl.ev_var rfl)) (by omega)) H2 (Ex.refl _) _ fun H3 e3 => (el_rest rfl rfl (by decide +kernel) lh) H3 (Ex.refl _) _ fun l H4 nl e4 hl => ⟨by show 2 ≤ sizeLine; decide, fun tp ntp => ⟨tp, _, rfl, Evl.st_of upd_same, rfl, _, _, rfl, _, _, rfl, rfl, ?_⟩⟩
    have e5 : Ex H4 (upd H4 tp (.tup [.str (L2.cutS h none (some ((i : Nat) : Int))), .ref l])) := Ex.new ntp
    have k1 := k (some (.int (i : Nat))) l _ ((((e1.trans e2).trans e3).trans e4).trans e5) (by rw [ep]; unfold partsOf; rw [if_neg (show ¬ (" if " : Str) = Str.empty by decide +kernel)]; exact e5 _ _ hl)
    rw [ep] at k1
    exact k1
theorem stripped_all (k : Str) (ts : List Str) : ((ts.map fun w => Txt.removeprefix w "not ").all fun w => decide (w ∈ testsOf k)) = ts.all fun t => decide (t ∈ testsNot k) := by
  rw [List.all_map]
  congr 1
  funext t
  exact rp_tests k t
abbrev tNotIn (K : PySem.W.Frag) (sp : Sp) : TT := tTest (tOp (rIn K true) (tVar 7) (tCall sp [] E0 (tCons (tVar 4) tNil)))
abbrev tCut7 : TE := tIf (tTest (tOp rEq (tSl rSlS (tVar 7) tNoPart (tPart (tC (V.int 4)))) (tC (V.str "not ")))) (tSl rSlS (tVar 7) (tPart (tC (V.int 4))) tNoPart) (tVar 7)
def rdLast (K : PySem.W.Frag) : TS :=
  tSeq (tIfS (tOr (tTest (tOp (rIn K true) (tVar 4) (tTup (tCons (tC (V.str "ask")) (tCons (tC (V.str "day")) (tCons (tC (V.str "off")) (tCons (tC (V.str "stop")) (tCons (tC (V.str "answer")) tNil)))))))) (tTest (tOp (rEqD K) (tVar 2) (tLst tNil)))) (tRet (tC (V.bl false))) tNext)
  (tSeq (tAsg (tLc (iList K (tVar 5)) (gName 7) tYes tCut7 [7]) (gName 6))
  (tSeq (tIfS (tTest (tOp (rNeD K) (tLc (iList K (tVar 6)) (gName 7) (tNotIn K spTestsOf) (tVar 7) [7]) (tLst tNil))) (tRet (tC (V.bl false))) tNext)
  (tRet (tOrV (tOp (fun x y H Q => y = V.non ∧ Q (V.bl (decide (x = V.non))) H) (tVar 2) (tC V.non)) (tOp (rEqD K) (tLc (iList K (tVar 2)) (gName 7) (tNotIn K spDeedsOf) (tVar 7) [7]) (tLst tNil))))))
theorem rd_last {K : PySem.W.Frag} {Q : VK} {N : L2.St → Hp → Prop} {H : Hp} {x h f : Str} {v2 : V} {v3 : Option V} {l : Addr} {ts : List Str} (lh : h.length ≤ 900) (ph : PyData.canLay0 (.str h) = true) (lt : ts.length ≤ 1000) (pt : Plain ts) (zt : ∀ t ∈ ts, t.length ≤ 900) (tl2 : TailAt h v2 H) (hl : H l = some (.lst (ts.map V.str)))
    (q : ∀ H', Ex H H' → Q (.bl (goodB f ts (partsOf (Txt.partition h " do ").2.1 (Txt.partition h " do ").2.2 " then "))) H') : rdLast K { nx := N, rt := Q } [some (.str x), some (.str (Txt.partition h " do ").1), some v2, v3, some (.str f), some (.ref l), none, none] H := by
  obtain ⟨a1, a2, a3⟩ := part_len h " do " ne_do
  have pd : Plain (Txt.split (Txt.partition h " do ").2.2 " then ") := by
    refine split_plain (by decide +kernel) (by decide +kernel) ?_
    rcases part_back h " do " ne_do with ⟨a, b, e, hx⟩ | e
    · rw [e]
      rw [lay_iff] at ph ⊢
      intro c hc
      refine ph c ?_
      rw [hx, TL.tl_append]
      exact List.mem_append_right _ hc
    · rw [e]
      show PyData.canLay0 (.str Str.empty) = true
      decide +kernel
  obtain ⟨sb1, sb2⟩ := split_back (Txt.partition h " do ").2.2 " then " (by decide +kernel) (by decide +kernel)
  have nd : (Txt.split (Txt.partition h " do ").2.2 " then ").length ≤ 1000 := by
    have h2 := (parts_len (g := " do ") (x := (Txt.partition h " do ").2.2) (y := " then ") (by decide +kernel) (by decide +kernel)).1
    unfold partsOf at h2
    rw [if_neg (show ¬ (" do " : Str) = Str.empty by decide +kernel)] at h2
    omega
  have tail : ∀ H', Ex H H' → Ev (tOp (rEqD K) (tVar 2) (tLst tNil)) [some (.str x), some (.str (Txt.partition h " do ").1), some v2, v3, some (.str f), some (.ref l), none, none] H' (.bl false) := fun H' e => by
    rcases tl2.ex e with ⟨_, rfl⟩ | ⟨l2, _, rfl, h2⟩
    · exact Evl.ev_opL (Evl.ev_var rfl) (Evl.el_lst Evl.ea_nil (Nat.zero_le _)) fun p H1 hp _ => fun H2 e2 Q2 k2 => ⟨_, _, .non, .lst (Evl.sq_of (e2 _ _ hp)) .nil, rfl, shaped_strsL [] (fun _ z => nomatch z), k2 H2 (Ex.refl _)⟩
    · refine Evl.ev_is (Evl.ev_opL (z := .bl (decide (Txt.split (Txt.partition h " do ").2.2 " then " = []))) (Evl.ev_var rfl) (Evl.el_lst Evl.ea_nil (Nat.zero_le _)) fun p H1 hp e1 => fun H2 e2 Q2 k2 => ⟨_, _, .lst (Evl.sq_of (e2 _ _ (e1 _ _ h2))) (dp_strs _), .lst (Evl.sq_of (e2 _ _ hp)) .nil, shaped_strsL _ pd, shaped_strsL [] (fun _ z => nomatch z), ?_⟩) (by rw [decide_eq_false sb2])
      rw [show PyData.eqv (.list ((Txt.split (Txt.partition h " do ").2.2 " then ").map PyData.str)) (.list []) = decide (Txt.split (Txt.partition h " do ").2.2 " then " = []) from eqv_strsL _ []]
      exact k2 H2 (Ex.refl _)
  refine Evl.q_when (b := !decide (f ∈ kindsAll)) (Evl.et_is (Evl.et_or (Evl.et_test (Evl.ev_niU (xs := kindsAll.map V.str) (Evl.ev_var rfl) (Evl.eu_tup (Evl.ea_cons Evl.ev_c (Evl.ea_cons Evl.ev_c (Evl.ea_cons Evl.ev_c (Evl.ea_cons Evl.ev_c (Evl.ea_cons Evl.ev_c Evl.ea_nil))))) (by decide)) rfl (flat_strs _))) (fun _ => Evl.et_test (tail H (Ex.refl _)))) (by rw [inV_strs, Bool.or_false])) (fun hb H1 e1 => ?_) (fun hb H1 e1 => ?_)
  · refine Evl.s_ret (v := .bl false) Evl.ev_c fun H2 e2 => ?_
    have q2 := q H2 (e1.trans e2)
    rw [good_kind (by simpa using hb)] at q2
    exact q2
  have hf : f ∈ kindsAll := by simpa using hb
  refine Evl.q_asgL (el_mapS (fun w => Txt.removeprefix w "not ") (Evl.ev_var rfl) (Evl.sq_of (e1 _ _ hl)) (by omega) (fun _ => rfl) (fun t H2 e2 ht => ?_)) fun l6 H2 n6 e2 h6 => ?_
  · have zt2 := zt t ht
    have es := strip_eq t
    by_cases hn : L2.cutS t none (some 4) = "not "
    · rw [if_pos hn] at es
      refine Evl.ev_if (b := true) (Evl.et_is (Evl.et_test (Evl.ev_op (ev_slS (Evl.ev_var rfl) Evl.eo_none (Evl.eo_some Evl.ev_c) (by omega)) Evl.ev_c (Evl.rv_eq rfl))) (by rw [hn]; exact decide_eq_true rfl)) (fun _ => ?_) (fun z => nomatch z)
      exact Evl.ev_is (ev_slS (Evl.ev_var rfl) (Evl.eo_some Evl.ev_c) Evl.eo_none (by omega)) (by rw [es])
    · rw [if_neg hn] at es
      refine Evl.ev_if (b := false) (Evl.et_is (Evl.et_test (Evl.ev_op (ev_slS (Evl.ev_var rfl) Evl.eo_none (Evl.eo_some Evl.ev_c) (by omega)) Evl.ev_c (Evl.rv_eq rfl))) (decide_eq_false fun z => hn (V.str.inj z))) (fun z => nomatch z) (fun _ => ?_)
      exact Evl.ev_is (Evl.ev_var rfl) (by rw [← es])
  have e12 := e1.trans e2
  have psub : Plain (ts.map fun w => Txt.removeprefix w "not ") := fun y hy => by
    obtain ⟨w, hw, rfl⟩ := List.mem_map.mp hy
    have hp := pt w hw
    rcases rp_cases w "not " with e | e
    · rw [e]
      exact hp
    · rw [lay_iff] at hp ⊢
      intro c hc
      refine hp c ?_
      rw [e, TL.tl_append]
      exact List.mem_append_right _ hc
  refine Evl.q_when (b := !ts.all fun t => decide (t ∈ testsNot f)) (Evl.et_is (Evl.et_test (ev_neNil (us := (ts.map fun w => Txt.removeprefix w "not ").filter fun w => !decide (w ∈ testsOf f)) (fun y hy => psub y (List.mem_filter.mp hy).1) (el_filter (fun w => !decide (w ∈ testsOf f)) (Evl.ev_var rfl) (Evl.sq_of h6) (by rw [List.length_map]; omega) (fun _ => rfl) (fun t H3 e3 ht => ?_) (fun t H3 e3 => Evl.ev_var rfl)))) (by rw [filter_nil, stripped_all])) (fun hb2 H3 e3 => ?_) (fun hb2 H3 e3 => ?_)
  · exact Evl.et_test (fun H4 e4 Q4 q4 => ⟨_, rfl, _, rfl, f, rfl, fun p H5 s5 n5 h5 => ⟨p, _, rfl, .inl (Evl.sq_of h5), rfl, flat_strs _, by rw [inV_strs]; exact q4 H5 (fun b o z => s5 b o z)⟩⟩)
  · refine Evl.s_ret (v := .bl false) Evl.ev_c fun H4 e4 => ?_
    have q2 := q H4 ((e12.trans e3).trans e4)
    have hg : goodB f ts (partsOf (Txt.partition h " do ").2.1 (Txt.partition h " do ").2.2 " then ") = false := by
      unfold goodB
      rw [show (ts.all fun t => decide (t ∈ testsNot f)) = false by simpa using hb2]
      simp
    rw [hg] at q2
    exact q2
  have ht : (ts.all fun t => decide (t ∈ testsNot f)) = true := by simpa using hb2
  have e13 := e12.trans e3
  rcases tl2.ex e13 with ⟨hd, rfl⟩ | ⟨l2, hd, rfl, h2⟩
  · refine Evl.s_ret (v := .bl true) (Evl.ev_is (Evl.ev_orV (a := true) (b := true) (Evl.ev_op (Evl.ev_var rfl) Evl.ev_c fun H4 _ _ k => ⟨rfl, k H4 (Ex.refl _)⟩) (fun z => nomatch z)) rfl) fun H4 e4 => ?_
    have q2 := q H4 (e13.trans e4)
    have hg : goodB f ts (partsOf (Txt.partition h " do ").2.1 (Txt.partition h " do ").2.2 " then ") = true := by
      unfold goodB partsOf
      rw [if_pos hd, decide_eq_true hf, ht]
      rfl
    rw [hg] at q2
    exact q2
  · refine Evl.s_ret (v := .bl ((Txt.split (Txt.partition h " do ").2.2 " then ").all fun t => decide (t ∈ deedsOf f))) (Evl.ev_is (Evl.ev_orV (a := false) (Evl.ev_op (Evl.ev_var rfl) Evl.ev_c fun H4 _ _ k => ⟨rfl, k H4 (Ex.refl _)⟩) (fun _ => ev_eqNil (us := (Txt.split (Txt.partition h " do ").2.2 " then ").filter fun w => !decide (w ∈ deedsOf f)) (fun y hy => pd y (List.mem_filter.mp hy).1) (el_filter (fun w => !decide (w ∈ deedsOf f)) (Evl.ev_var rfl) (Evl.sq_of h2) (by omega) (fun _ => rfl) (fun t H4 e4 _ => ?_) (fun t H4 e4 => Evl.ev_var rfl)))) (by rw [Bool.false_or, filter_nil])) fun H4 e4 => ?_
    · exact Evl.et_test (fun H5 e5 Q4 q4 => ⟨_, rfl, _, rfl, f, rfl, fun p H6 s6 n6 h6 => ⟨p, _, rfl, .inl (Evl.sq_of h6), rfl, flat_strs _, by rw [inV_strs]; exact q4 H6 (fun b o z => s6 b o z)⟩⟩)
    · have q2 := q H4 (e13.trans e4)
      have hg : goodB f ts (partsOf (Txt.partition h " do ").2.1 (Txt.partition h " do ").2.2 " then ") = (Txt.split (Txt.partition h " do ").2.2 " then ").all fun t => decide (t ∈ deedsOf f) := by
        unfold goodB partsOf
        rw [if_neg (by rw [hd]; decide +kernel), decide_eq_true hf, ht]
        rfl
      rw [hg] at q2
      exact q2
theorem ok_is_text {f fTests fDeeds : Addr} {fd fdTests fdDeeds : FuncData} (F : Fun K "_law_is_text" "_law_is_text" sIsText f fd) (D_tests_of : Df K mg "_law_tests_of" sTestsOf ["_law_kind"] fTests fdTests) (D_deeds_of : Df K mg "_law_deeds_of" sDeedsOf ["_law_kind"] fDeeds fdDeeds) :
    FnOk P w K mg base CX0 2 f fd ["_law_text_here"] spIsText := by
  have G_tests_of : FnOk P w K mg base CX0 1 fTests fdTests ["_law_kind"] spTestsOf := ok_tests_of D_tests_of.F
  have G_deeds_of : FnOk P w K mg base CX0 1 fDeeds fdDeeds ["_law_kind"] spDeedsOf := ok_deeds_of D_deeds_of.F
  refine F.ok scIsText (fun vs H Q E h => ?_) (fun cdv A outer s H vs Q E hr h => ?_)
  · obtain ⟨s, rfl, _⟩ := h
    rfl
  · obtain ⟨x, rfl, lx, px, q⟩ := h
    refine ⟨_, pss_cons (ps_if (pt_cmpR op_ne (pe_slice sl_str (pv 0) po_none (po_some pe_int)) pe_str (nomark _)) (pss_one (ps_ret pe_bl)) pss_nil)
      (pss_cons (ps_par (i := 1) (j := 2) (by rfl) scIsText.nd rfl rfl (by decide) rfl rfl (pa_cons (pe_slice sl_str (pv 0) (po_some pe_int) po_none) (pa_cons pe_non pa_nil)) (by rfl))
      (pss_cut (ps_if (pt_cmpR op_in_str pe_str (pv 1) (by rfl)) (pss_cons (ps_set (i := 3) scIsText.nd rfl (.inl rfl) (pe_m1 PySem.F.slot_str_index PySem.F.type_str_index mt_sindex (pv 1) pe_str))
      (pss_one (ps_par (i := 1) (j := 2) (by rfl) scIsText.nd rfl rfl (by decide) rfl rfl (pa_cons (pe_slice sl_str (pv 1) po_none (po_some (pv 3))) (pa_cons (pe_split (pe_slice sl_str (pv 1) (po_some (pe_op op_add (pv 3) pe_int)) po_none) pe_str) pa_nil)) (by rfl)))) pss_nil)
      (pss_cons (ps_asg (pe_tup (pa_cons (pv 1) (pa_cons (pe_lst pa_nil) pa_nil))) (pg_tup (by rfl) (pgs_cons (pg_name (i := 4) scIsText.nd rfl (Or.inr rfl)) (pgs_cons (pg_name (i := 5) scIsText.nd rfl (Or.inl rfl)) pgs_nil))))
      (pss_cut (ps_if (pt_cmpR op_in_str pe_str (pv 1) (by rfl)) (pss_cons (ps_set (i := 3) scIsText.nd rfl (.inl rfl) (pe_m1 PySem.F.slot_str_index PySem.F.type_str_index mt_sindex (pv 1) pe_str))
      (pss_one (ps_asg (pe_tup (pa_cons (pe_slice sl_str (pv 1) po_none (po_some (pv 3))) (pa_cons (pe_split (pe_slice sl_str (pv 1) (po_some (pe_op op_add (pv 3) pe_int)) po_none) pe_str) pa_nil))) (pg_tup (by rfl) (pgs_cons (pg_name (i := 4) scIsText.nd rfl (Or.inr rfl)) (pgs_cons (pg_name (i := 5) scIsText.nd rfl (Or.inl rfl)) pgs_nil)))))) pss_nil)
      (pss_cons (ps_if (PW.pt (pw_or (pt_cmpR op_notIn_seq (pv 4) (pe_tup (pa_cons pe_str (pa_cons pe_str (pa_cons pe_str (pa_cons pe_str (pa_cons pe_str pa_nil)))))) (by rfl)) (pw_or1 (pt_cmpR (op_eqD hr.units) (pv 2) (pe_lst pa_nil) (nomark _))))) (pss_one (ps_ret pe_bl)) pss_nil)
      (pss_cons (ps_setLc (i := 6) (own := [("_law_word", 7)]) (g := gName 7) (tt := tYes) rfl scIsText.nd rfl rfl (sw_true rfl rfl rfl (by decide +kernel)) (pi_list (pv 5)) (blkOk_by (own := [("_law_word", 7)]) (N := ["_law_text_here", "_law_head", "_law_tail", "_law_cut", "_law_first", "_law_some", "_law_plain", "_law_word"]) (sc := defScope sIsText) (by decide +kernel)) (fun _ _ _ _ _ => (pg_name (i := 7) scIsText.nd rfl (Or.inl rfl))) (fun _ _ _ _ _ => pts_nil) (fun _ _ _ _ _ => (pe_ifExp (pt_cmpR op_eq (pe_slice sl_str (pv 7) po_none (po_some pe_int)) pe_str (nomark _)) (pe_slice sl_str (pv 7) (po_some pe_int) po_none) (pv 7))))
      (pss_cons (ps_if (pt_cmpR (op_neD hr.units) (pe_lc (own := [("_law_word", 7)]) (g := gName 7) rfl scIsText.nd (pi_list (pv 6)) (blkOk_by (own := [("_law_word", 7)]) (N := ["_law_text_here", "_law_head", "_law_tail", "_law_cut", "_law_first", "_law_some", "_law_plain", "_law_word"]) (sc := defScope sIsText) (by decide +kernel)) (fun _ _ _ _ _ => (pg_name (i := 7) scIsText.nd rfl (Or.inl rfl))) (fun _ _ _ _ _ => (pts_one (pt_cmpR (r := rIn K true) op_notIn_seq (pv 7) (pe_call G_tests_of (hr.mono (by decide)) rfl D_tests_of.g D_tests_of.F.kp D_tests_of.b .nil pass0 (pa_cons (pv 4) pa_nil)) (by rfl)))) (fun _ _ _ _ _ => (pv 7))) (pe_lst pa_nil) (nomark _)) (pss_one (ps_ret pe_bl)) pss_nil)
      (pss_one (ps_ret (pe_or (pe_cmpR op_isN (pv 2) pe_non (nomark _)) (pe_one (pe_cmpR (op_eqD hr.units) (pe_lc (own := [("_law_word", 7)]) (g := gName 7) rfl scIsText.nd (pi_list (pv 2)) (blkOk_by (own := [("_law_word", 7)]) (N := ["_law_text_here", "_law_head", "_law_tail", "_law_cut", "_law_first", "_law_some", "_law_plain", "_law_word"]) (sc := defScope sIsText) (by decide +kernel)) (fun _ _ _ _ _ => (pg_name (i := 7) scIsText.nd rfl (Or.inl rfl))) (fun _ _ _ _ _ => (pts_one (pt_cmpR (r := rIn K true) op_notIn_seq (pv 7) (pe_call G_deeds_of (hr.mono (by decide)) rfl D_deeds_of.g D_deeds_of.F.kp D_deeds_of.b .nil pass0 (pa_cons (pv 4) pa_nil)) (by rfl)))) (fun _ _ _ _ _ => (pv 7))) (pe_lst pa_nil) (nomark _))))))))))))), ?_⟩
    have n4d : (Str.ofString " do ").length = 4 := by decide +kernel
    have n4i : (Str.ofString " if ").length = 4 := by decide +kernel
    have h3 : tl (L2.cutS x none (some 3)) = (tl x).take 3 := tl_lo x 3
    have h3' : tl (L2.cutS x (some 3) none) = (tl x).drop 3 := tl_hi x 3
    refine Evl.q_when (b := !decide (V.str (L2.cutS x none (some 3)) = V.str "on ")) (Evl.et_test (Evl.ev_op (ev_slS (Evl.ev_var rfl) Evl.eo_none (Evl.eo_some Evl.ev_c) (by omega)) Evl.ev_c (Evl.rv_ne rfl))) (fun hb H1 e1 => ?_) (fun hb H1 e1 => ?_)
    · have no : readR x = none := read_not_on (by
        rintro ⟨y, hy⟩
        have : L2.cutS x none (some 3) = "on " := TL.ext_tl (by rw [h3, hy, TL.tl_append, tl_on]; rfl)
        rw [this, decide_eq_true rfl] at hb
        cases hb)
      refine Evl.s_ret (v := .bl false) Evl.ev_c fun H2 e2 => ?_
      have q2 := q H2 (e1.trans e2)
      rw [no] at q2
      exact q2
    have hon : L2.cutS x none (some 3) = "on " := V.str.inj (of_decide_eq_true (by simpa using hb))
    have exh : x = ("on " : Str) ++ L2.cutS x (some 3) none := TL.ext_tl (by rw [TL.tl_append, ← hon, h3, h3', List.take_append_drop])
    have rd : (readR x).isSome = isTextH (L2.cutS x (some 3) none) := by
      conv => lhs; rw [exh]
      exact read_on _
    have lh : (L2.cutS x (some 3) none).length ≤ 900 := Nat.le_trans (cutS_length _ _ _) lx
    have ph : PyData.canLay0 (.str (L2.cutS x (some 3) none)) = true := by
      rw [lay_iff] at px ⊢
      intro c hc
      rw [h3'] at hc
      exact px c (List.mem_of_mem_drop hc)
    rw [rd] at q
    refine q_par2 (Evl.ea_cons (ev_slS (z := x) (Evl.ev_var rfl) (Evl.eo_some Evl.ev_c) Evl.eo_none (Nat.le_trans lx (by decide))) (Evl.ea_cons (x := V.non) Evl.ev_c Evl.ea_nil)) fun H2 e2 => ?_
    revert q lh ph
    generalize L2.cutS x (some 3) none = h
    intro q lh ph
    have eH := e1.trans e2
    refine Evl.q_cut (M := fun σ H3 => ∃ (v2 : V) (v3 : Option V), σ = [some (.str x), some (.str (Txt.partition h " do ").1), some v2, v3, none, none, none, none] ∧ Ex H2 H3 ∧ TailAt h v2 H3) ?_ ?_
    · exact rd_tail lh fun v2 v3 H3 e3 t => ⟨v2, v3, rfl, e3, t⟩
    · rintro σ H3 ⟨v2, v3, rfl, e3, t⟩
      obtain ⟨a1, a2, a3⟩ := part_len h " do " ne_do
      obtain ⟨b1, b2, b3⟩ := part_len (Txt.partition h " do ").1 " if " ne_if
      refine ⟨_, rfl, Nat.zero_le _, fun ls nls => ⟨by show 2 ≤ sizeLine; decide, fun tp ntp => ⟨tp, _, rfl, Evl.st_of upd_same, rfl, _, _, rfl, _, _, rfl, rfl, ?_⟩⟩⟩
      have e4 : Ex H3 (upd (upd H3 ls (.lst [])) tp (.tup [.str (Txt.partition h " do ").1, .ref ls])) := (Ex.new nls).trans (Ex.new ntp)
      have hls : (upd (upd H3 ls (.lst [])) tp (.tup [.str (Txt.partition h " do ").1, .ref ls])) ls = some (.lst []) := (Ex.new ntp) _ _ upd_same
      refine Evl.q_cut (M := fun σ H5 => ∃ (w3 : Option V) (l : Addr), σ = [some (.str x), some (.str (Txt.partition h " do ").1), some v2, w3, some (.str (Txt.partition (Txt.partition h " do ").1 " if ").1), some (.ref l), none, none] ∧ Ex (upd (upd H3 ls (.lst [])) tp (.tup [.str (Txt.partition h " do ").1, .ref ls])) H5 ∧ H5 l = some (.lst ((partsOf (Txt.partition (Txt.partition h " do ").1 " if ").2.1 (Txt.partition (Txt.partition h " do ").1 " if ").2.2 " and ").map V.str))) ?_ ?_
      · exact rd_some2 (Nat.le_trans a1 lh) hls fun w3 l H5 e5 h5 => ⟨w3, l, rfl, e5, h5⟩
      · rintro σ H5 ⟨w3, l, rfl, e5, h5⟩
        have pc : PyData.canLay0 (.str (Txt.partition h " do ").1) = true := by
          rcases part_back h " do " ne_do with ⟨a, b, e, hx⟩ | e
          · rw [e]
            rw [lay_iff] at ph ⊢
            intro c hc
            refine ph c ?_
            rw [hx, TL.tl_append, TL.tl_append]
            exact List.mem_append_left _ (List.mem_append_left _ hc)
          · rw [e]
            exact ph
        have pa2 : PyData.canLay0 (.str (Txt.partition (Txt.partition h " do ").1 " if ").2.2) = true := by
          rcases part_back (Txt.partition h " do ").1 " if " ne_if with ⟨a, b, e, hx⟩ | e
          · rw [e]
            rw [lay_iff] at pc ⊢
            intro c hc
            refine pc c ?_
            rw [hx, TL.tl_append]
            exact List.mem_append_right _ hc
          · rw [e]
            show PyData.canLay0 (.str Str.empty) = true
            decide +kernel
        obtain ⟨t1, t2⟩ := parts_len (g := (Txt.partition (Txt.partition h " do ").1 " if ").2.1) (x := (Txt.partition (Txt.partition h " do ").1 " if ").2.2) (y := " and ") (by decide +kernel) (by decide +kernel)
        have pts : Plain (partsOf (Txt.partition (Txt.partition h " do ").1 " if ").2.1 (Txt.partition (Txt.partition h " do ").1 " if ").2.2 " and ") := by
          unfold partsOf
          split
          · exact fun _ z => nomatch z
          · exact split_plain (by decide +kernel) (by decide +kernel) pa2
        have l9 : (Txt.partition (Txt.partition h " do ").1 " if ").2.2.length ≤ 900 := Nat.le_trans b3 (Nat.le_trans a1 lh)
        exact rd_last lh ph (by omega) pts (fun y hy => Nat.le_trans (t2 y hy) l9) ((t.ex e4).ex e5) h5 fun H6 e6 => q H6 ((((eH.trans e3).trans e4).trans e5).trans e6)
end
end Ov

namespace Ov
open PySem PySem.Spec PyProof.Rows L2
open Evl (pss_cut tCut)
def spAnyRule : Sp := fun vs H Q _ => ∃ (a b : Addr), vs = [.ref a, .int 3] ∧ Deal H a b ∧ ∀ p (r : RuleD) H', r.Ok → Kp a b H H' → Deal H' a b → RuleAt H' p r → Q (.ref p) H'
section
variable {P : Program} {w : World} {K : PySem.W.Frag} {mg : Str → Option Value} {base : Heap}
abbrev sAnyRule : Stmt := topS 26
theorem scAnyRule : FnScope ["_law_deal_here", "_law_most", "_law_kind", "_law_found", "_law_done", "_law_turn"] ["_law_deal_here", "_law_most"] (defScope sAnyRule) := ⟨rfl, rfl, rfl, by decide +kernel, rfl, by decide +kernel, by decide +kernel⟩
theorem ok_any_rule {f fDraw fPick fTests fDeeds : Addr} {fd fdDraw fdPick fdTests fdDeeds : FuncData} (F : Fun K "_law_any_rule" "_law_any_rule" sAnyRule f fd) (T : TxB mg)
    (D_draw : Df K mg "_law_draw" sDraw ["_law_deal_here", "_law_many"] fDraw fdDraw) (D_pick : Df K mg "_law_pick" sPick ["_law_deal_here", "_law_some"] fPick fdPick)
    (D_tests_of : Df K mg "_law_tests_of" sTestsOf ["_law_kind"] fTests fdTests) (D_deeds_of : Df K mg "_law_deeds_of" sDeedsOf ["_law_kind"] fDeeds fdDeeds) : FnOk P w K mg base CX0 3 f fd ["_law_deal_here", "_law_most"] spAnyRule := by
  have G_draw : FnOk P w K mg base CX0 1 fDraw fdDraw ["_law_deal_here", "_law_many"] spDraw := ok_draw D_draw.F T.n_int
  have G_pick : FnOk P w K mg base CX0 2 fPick fdPick ["_law_deal_here", "_law_some"] (spPick K) := ok_pick D_pick.F T D_draw
  have G_tests_of : FnOk P w K mg base CX0 1 fTests fdTests ["_law_kind"] spTestsOf := ok_tests_of D_tests_of.F
  have G_deeds_of : FnOk P w K mg base CX0 1 fDeeds fdDeeds ["_law_kind"] spDeedsOf := ok_deeds_of D_deeds_of.F
  refine F.ok scAnyRule (fun vs H Q E h => ?_) (fun cdv A outer s H vs Q E hr h => ?_)
  · obtain ⟨a, b, rfl, _⟩ := h
    rfl
  · obtain ⟨a, b, rfl, D, q⟩ := h
    refine ⟨_, pss_cons (ps_set (i := 2) scAnyRule.nd rfl (.inl rfl) (pe_call G_pick (hr.mono (by decide)) rfl D_pick.g D_pick.F.kp D_pick.b .nil pass0 (pa_cons (pv 0) (pa_cons (pe_lst (pa_cons pe_str (pa_cons pe_str (pa_cons pe_str (pa_cons pe_str (pa_cons pe_str pa_nil)))))) pa_nil))))
      (pss_cons (ps_par (i := 3) (j := 4) (by rfl) scAnyRule.nd rfl rfl (by decide) rfl rfl (pa_cons (pe_lst pa_nil) (pa_cons (pe_lst pa_nil) pa_nil)) (by rfl))
      (pss_cut (ps_for PassesOwn.never rfl (pi_range1 rfl T.n_range (pa_cons (pe_call G_draw (hr.mono (by decide)) rfl D_draw.g D_draw.F.kp D_draw.b .nil pass0 (pa_cons (pv 0) (pa_cons (pe_op op_add (pv 1) pe_int) pa_nil))) pa_nil)) (pg_name (i := 5) scAnyRule.nd rfl (Or.inl rfl)) (pss_one (ps_expr (pe_bm PySem.F.plainAttrs_list PySem.F.slot_list_append PySem.F.type_list_append mt_append (pv 3) (pa_cons (pe_op op_add_str (pe_call G_pick (hr.mono (by decide)) rfl D_pick.g D_pick.F.kp D_pick.b .nil pass0 (pa_cons (pv 0) (pa_cons (pe_lst (pa_cons pe_str (pa_cons pe_str pa_nil))) pa_nil))) (pe_call G_pick (hr.mono (by decide)) rfl D_pick.g D_pick.F.kp D_pick.b .nil pass0 (pa_cons (pv 0) (pa_cons (pe_call G_tests_of (hr.mono (by decide)) rfl D_tests_of.g D_tests_of.F.kp D_tests_of.b .nil pass0 (pa_cons (pv 2) pa_nil)) pa_nil)))) pa_nil)))))
      (pss_cut (ps_for PassesOwn.never rfl (pi_range1 rfl T.n_range (pa_cons (pe_call G_draw (hr.mono (by decide)) rfl D_draw.g D_draw.F.kp D_draw.b .nil pass0 (pa_cons (pv 0) (pa_cons pe_int pa_nil))) pa_nil)) (pg_name (i := 5) scAnyRule.nd rfl (Or.inl rfl)) (pss_one (ps_expr (pe_bm PySem.F.plainAttrs_list PySem.F.slot_list_append PySem.F.type_list_append mt_append (pv 4) (pa_cons (pe_call G_pick (hr.mono (by decide)) rfl D_pick.g D_pick.F.kp D_pick.b .nil pass0 (pa_cons (pv 0) (pa_cons (pe_call G_deeds_of (hr.mono (by decide)) rfl D_deeds_of.g D_deeds_of.F.kp D_deeds_of.b .nil pass0 (pa_cons (pv 2) pa_nil)) pa_nil))) pa_nil)))))
      (pss_one (ps_ret (pe_tup (pa_cons (pv 2) (pa_cons (pe_callTy call_tuple_of (by rfl) T.n_tuple (by decide +kernel) (pa_cons (pv 3) pa_nil)) (pa_cons (pe_callTy call_tuple_of (by rfl) T.n_tuple (by decide +kernel) (pa_cons (pv 4) pa_nil)) pa_nil))))))))), ?_⟩
    refine ⟨_, rfl, by show 5 ≤ sizeLine; decide, fun l nl => ⟨a, b, l, _, rfl, D.new nl, D.nea nl, D.neb nl, .inl (SqL.of upd_same), by decide, by decide, fun x H1 hx kp1 D1 => ?_⟩⟩
    obtain ⟨kd, rfl, hk⟩ : ∃ kd : Str, x = .str kd ∧ kd ∈ kindsAll := by
      have h2 : x ∈ kindsAll.map V.str := hx
      obtain ⟨kd, h3, h4⟩ := List.mem_map.mp h2
      exact ⟨kd, h4.symm, h3⟩
    have k1 : Kp a b H H1 := (Kp.new nl).trans kp1
    -- found, done = [], []
    refine ⟨Nat.zero_le _, fun F1 nF => ⟨Nat.zero_le _, fun G1 nG => ⟨_, _, rfl, ?_⟩⟩⟩
    have nG1 : H1 G1 = none := (same_upd nF).free nG
    have nGF : G1 ≠ F1 := fun z => by
      rw [z, upd_same] at nG
      cases nG
    have k2 : Kp a b H (upd (upd H1 F1 (.lst [])) G1 (.lst [])) := (k1.trans (Kp.new nF)).trans (Kp.new nG)
    have D2 : Deal (upd (upd H1 F1 (.lst [])) G1 (.lst [])) a b := (D1.new nF).new nG
    have zF : H F1 = none := k1.none D1 nF
    have zG : H G1 = none := k1.none D1 nG1
    have Fa := D1.nea nF
    have Fb := D1.neb nF
    have Ga := D1.nea nG1
    have Gb := D1.neb nG1
    -- the tests
    refine ⟨fun σ H' => ∃ (v : Option V) (ts : List Str), σ = [some (.ref a), some (.int 3), some (.str kd), some (.ref F1), some (.ref G1), v] ∧ Kp a b H H' ∧ Deal H' a b ∧ H' F1 = some (.lst (ts.map V.str)) ∧ H' G1 = some (.lst []) ∧ (∀ t ∈ ts, t ∈ testsNot kd) ∧ ts.length ≤ 4, ?_, ?_⟩
    · refine ⟨_, rfl, _, rfl, _, _, rfl, rfl, a, b, 4, rfl, D2, by decide, by decide, fun r H2 r0 r1 kp2 D3 => ⟨r, rfl, by omega, by omega, ?_⟩⟩
      refine for_range (lo := 0) (n := r.toNat) (fun i σ H' => ∃ (v : Option V) (ts : List Str), σ = [some (.ref a), some (.int 3), some (.str kd), some (.ref F1), some (.ref G1), v] ∧ Kp a b H H' ∧ Deal H' a b ∧ H' F1 = some (.lst (ts.map V.str)) ∧ H' G1 = some (.lst []) ∧ (∀ t ∈ ts, t ∈ testsNot kd) ∧ ts.length = i)
        ⟨_, [], rfl, k2.trans kp2, D3, kp2 _ _ Fa Fb (by rw [upd_ne nGF.symm]; exact upd_same), kp2 _ _ Ga Gb upd_same, fun t ht => absurd ht List.not_mem_nil, rfl⟩ ?_ ?_
      · rintro i σ H3 hi ⟨v, ts, rfl, k3, D3, hF, hG, hts, hlen⟩
        refine ⟨_, rfl, .inl ⟨rfl, _, SqL.of hF⟩, _, rfl, by show 2 ≤ sizeLine; decide, fun l1 n1 => ⟨a, b, l1, _, rfl, D3.new n1, D3.nea n1, D3.neb n1, .inl (SqL.of upd_same), by decide, by decide, fun x H4 hx kp4 D4 => ?_⟩⟩
        obtain ⟨x', rfl, hx'⟩ : ∃ z : Str, x = .str z ∧ z ∈ (["", "not "] : List Str) := by
          have h2 : x ∈ (["", "not "] : List Str).map V.str := hx
          obtain ⟨z, h3, h4⟩ := List.mem_map.mp h2
          exact ⟨z, h4.symm, h3⟩
        refine ⟨_, rfl, _, rfl, kd, rfl, fun l2 H5 s5 n5 h5 => ?_⟩
        have t0 : 0 < (testsOf kd).length ∧ (testsOf kd).length < 1000000 := by
          unfold testsOf
          split
          · decide
          · decide
        refine ⟨a, b, l2, _, rfl, D4.keep s5, D4.nea n5, D4.neb n5, .inl (SqL.of h5), by rw [List.length_map]; exact t0.1, by rw [List.length_map]; exact t0.2, fun y H6 hy kp6 D6 => ?_⟩
        obtain ⟨y', hy', rfl⟩ := List.mem_map.mp hy
        have m : x' ++ y' ∈ testsNot kd := by
          unfold testsNot
          rcases List.mem_cons.mp hx' with e | hx'
          · rw [e]
            refine List.mem_append_left _ ?_
            have e2 : (("" : Str) ++ y') = y' := str_nil_app y'
            rw [e2]
            exact hy'
          · rw [List.mem_singleton.mp hx']
            exact List.mem_append_right _ (List.mem_map_of_mem hy')
        have kk : Kp a b H3 H6 := (((Kp.new n1).trans kp4).trans (Kp.same s5)).trans kp6
        have lx : x'.length ≤ 4 := by
          have h0 : ∀ z ∈ (["", "not "] : List Str), z.length ≤ 4 := by decide +kernel
          exact h0 _ hx'
        have ly := testsOf_len hy'
        refine ⟨_, _, rfl, rfl, size_of (by omega), F1, _, _, rfl, rfl, kk _ _ Fa Fb hF, ?_, ?_⟩
        · rw [List.length_map]
          exact small1000 (by omega)
        · refine ⟨_, ts ++ [x' ++ y'], rfl, (k3.trans kk).put zF, D6.put Fa Fb, ?_, ?_, ?_, ?_⟩
          · rw [upd_same, List.map_append]
            rfl
          · rw [upd_ne nGF]
            exact kk _ _ Ga Gb hG
          · intro t ht
            rcases List.mem_append.mp ht with ht | ht
            · exact hts t ht
            · rw [List.mem_singleton.mp ht]
              exact m
          · rw [List.length_append, hlen]
            rfl
      · rintro σ H3 ⟨v, ts, rfl, k3, D3, hF, hG, hts, hlen⟩
        exact ⟨v, ts, rfl, k3, D3, hF, hG, hts, by omega⟩
    · rintro σ H2 ⟨v, ts, rfl, k2, D2, hF, hG, hts, hlen⟩
      -- the deeds
      refine ⟨fun σ H' => ∃ (v : Option V) (ds : List Str), σ = [some (.ref a), some (.int 3), some (.str kd), some (.ref F1), some (.ref G1), v] ∧ Kp a b H H' ∧ Deal H' a b ∧ H' F1 = some (.lst (ts.map V.str)) ∧ H' G1 = some (.lst (ds.map V.str)) ∧ (∀ t ∈ ds, t ∈ deedsOf kd) ∧ ds.length ≤ 4, ?_, ?_⟩
      · refine ⟨_, rfl, a, b, 4, rfl, D2, by decide, by decide, fun r H3 r0 r1 kp2 D3 => ⟨r, rfl, by omega, by omega, ?_⟩⟩
        refine for_range (lo := 0) (n := r.toNat) (fun i σ H' => ∃ (v : Option V) (ds : List Str), σ = [some (.ref a), some (.int 3), some (.str kd), some (.ref F1), some (.ref G1), v] ∧ Kp a b H H' ∧ Deal H' a b ∧ H' F1 = some (.lst (ts.map V.str)) ∧ H' G1 = some (.lst (ds.map V.str)) ∧ (∀ t ∈ ds, t ∈ deedsOf kd) ∧ ds.length = i)
          ⟨_, [], rfl, k2.trans kp2, D3, kp2 _ _ Fa Fb hF, kp2 _ _ Ga Gb hG, fun t ht => absurd ht List.not_mem_nil, rfl⟩ ?_ ?_
        · rintro i σ H3 hi ⟨v, ds, rfl, k3, D3, hF, hG, hds, hl⟩
          refine ⟨_, rfl, .inl ⟨rfl, _, SqL.of hG⟩, _, rfl, _, rfl, kd, rfl, fun l2 H5 s5 n5 h5 => ?_⟩
          have t0 : 0 < (deedsOf kd).length ∧ (deedsOf kd).length < 1000000 := by
            unfold deedsOf
            split
            · decide
            · decide
          refine ⟨a, b, l2, _, rfl, D3.keep s5, D3.nea n5, D3.neb n5, .inl (SqL.of h5), by rw [List.length_map]; exact t0.1, by rw [List.length_map]; exact t0.2, fun y H6 hy kp6 D6 => ?_⟩
          obtain ⟨y', hy', rfl⟩ := List.mem_map.mp hy
          have kk : Kp a b H3 H6 := (Kp.same s5).trans kp6
          refine ⟨G1, _, _, rfl, rfl, kk _ _ Ga Gb hG, ?_, ?_⟩
          · rw [List.length_map]
            exact small1000 (by omega)
          · refine ⟨_, ds ++ [y'], rfl, (k3.trans kk).put zG, D6.put Ga Gb, ?_, ?_, ?_, ?_⟩
            · rw [upd_ne nGF.symm]
              exact kk _ _ Fa Fb hF
            · rw [upd_same, List.map_append]
              rfl
            · intro t ht
              rcases List.mem_append.mp ht with ht | ht
              · exact hds t ht
              · rw [List.mem_singleton.mp ht]
                exact hy'
            · rw [List.length_append, hl]
              rfl
        · rintro σ H3 ⟨v, ds, rfl, k3, D3, hF, hG, hds, hl⟩
          exact ⟨v, ds, rfl, k3, D3, hF, hG, hds, by omega⟩
      · rintro σ H3 ⟨v, ds, rfl, k3, D3, hF, hG, hds, hl⟩
        -- (kind, tuple(found), tuple(done))
        refine ⟨_, rfl, _, rfl, F1, _, rfl, .inl ⟨SqL.of hF, fun t nt => ⟨_, rfl, G1, _, rfl, .inl ⟨SqL.of (by rw [upd_ne (ne_of_none hG nt)]; exact hG), fun d nd => ⟨by show 3 ≤ sizeLine; decide, fun p np => ?_⟩⟩⟩⟩⟩
        have s1 := same_upd (o := HO.tup (ts.map V.str)) nt
        have s2 := same_upd (o := HO.tup (ds.map V.str)) nd
        have s3 := same_upd (o := HO.tup [V.str kd, .ref t, .ref d]) np
        refine q p ⟨kd, ts, ds⟩ _ ⟨hk, hts, hds, hlen, hl⟩ (((k3.trans (Kp.same s1)).trans (Kp.same s2)).trans (Kp.same s3)) (((D3.keep s1).keep s2).keep s3) ⟨t, d, upd_same, s3 _ _ (s2 _ _ upd_same), s3 _ _ upd_same⟩
end
end Ov

namespace Ov
open PySem PySem.Spec PyProof.Rows L2
open Evl (pss_cut tCut Ex Ev EvT EvL EvA EvU EvO)
open TL (tl)
theorem readR_self {r : RuleD} (g : r.Good) : readR (ruleText r) = some r := by
  have e : cutS (ruleText r) = ⟨"on", r.k, (if r.ts = [] then "" else " if "), (if r.ts = [] then ("" : Str) else Str.join " and " r.ts), (if r.ds = [] then "" else " do "), (if r.ds = [] then ("" : Str) else Str.join " then " r.ds)⟩ := by
    unfold cutS
    simp only
    rw [read1 g]
    simp only
    rw [read2 g]
    simp only
    rw [read3]
  have et : partsOf (if r.ts = [] then ("" : Str) else " if ") (if r.ts = [] then ("" : Str) else Str.join " and " r.ts) " and " = r.ts := by
    unfold partsOf
    by_cases h : r.ts = []
    · rw [if_pos h, if_pos (by decide +kernel)]
      exact h.symm
    · rw [if_neg h, if_neg (by decide +kernel), if_neg h, read4 g h]
  have ed : partsOf (if r.ds = [] then ("" : Str) else " do ") (if r.ds = [] then ("" : Str) else Str.join " then " r.ds) " then " = r.ds := by
    unfold partsOf
    by_cases h : r.ds = []
    · rw [if_pos h, if_pos (by decide +kernel)]
      exact h.symm
    · rw [if_neg h, if_neg (by decide +kernel), if_neg h, read5 g h]
  have hg : goodB r.k r.ts r.ds = true := by
    unfold goodB
    rw [decide_eq_true g.k, List.all_eq_true.mpr fun t ht => decide_eq_true (g.ts t ht), List.all_eq_true.mpr fun t ht => decide_eq_true (g.ds t ht)]
    rfl
  unfold readR
  rw [e]
  simp only
  rw [et, ed, if_pos ⟨trivial, hg⟩]
theorem ok_len {r : RuleD} (o : r.Ok) : (ruleText r).length ≤ 250 := by
  have lk := kinds_len o.k
  have s1 := sum_small r.ts 16 fun x hx => testsNot_len (o.ts x hx)
  have s2 := sum_small r.ds 16 fun x hx => deedsOf_len (o.ds x hx)
  have j1 := join_len " and " r.ts
  have j2 := join_len " then " r.ds
  have n1 : (Str.ofString " and ").length = 5 := by decide +kernel
  have n2 : (Str.ofString " then ").length = 6 := by decide +kernel
  have n3 : (Str.ofString "on ").length = 3 := by decide +kernel
  have n4 : (Str.ofString " if ").length = 4 := by decide +kernel
  have n5 : (Str.ofString " do ").length = 4 := by decide +kernel
  have nt := o.nt
  have nd := o.nd
  rw [n1] at j1
  rw [n2] at j2
  have t1 : (tText r.ts).length ≤ 90 := by
    unfold tText
    split
    · decide
    · rw [Str.length_append, n4]
      omega
  have t2 : (dText r.ds).length ≤ 100 := by
    unfold dText
    split
    · decide
    · rw [Str.length_append, n5]
      omega
  unfold ruleText
  rw [Str.length_append, Str.length_append, Str.length_append, n3]
  omega
theorem lay_rule {r : RuleD} (g : r.Good) : PyData.canLay0 (.str (ruleText r)) = true := by
  have hk : ∀ k ∈ kindsAll, PyData.canLay0 (.str k) = true := by decide +kernel
  unfold ruleText tText dText
  refine lay_app (lay_app (lay_app (by decide +kernel) (hk _ g.k)) ?_) ?_
  · split
    · decide +kernel
    · exact lay_app (by decide +kernel) (lay_join (by decide +kernel) g.pt)
  · split
    · decide +kernel
    · exact lay_app (by decide +kernel) (lay_join (by decide +kernel) g.pd)
def spLaw (K : PySem.W.Frag) : Sp := fun vs H Q _ => ∃ (a : Addr) (ns : List Int), vs = [.ref a] ∧ SqL K H a (ns.map V.int) ∧ ns.length ≤ 63 ∧ ∀ H', Q (.bl true) H'
theorem q_anyX {te : TE} {σ : L2.St} {H : Hp} {D : Ends} {tz : TS} {i : Nat} (h : te σ H fun x H1 => tz D (σ.set i (some x)) H1) : tSeq (tAsg te (gName i)) tz D σ H := h
/-- what is read, either way -/
theorem ev_read {σ : L2.St} {H : Hp} {te : TE} {s : Str} (h : Ev te σ H (.str s)) (ls : s.length ≤ 900) : Ev (tCall spRead [] E0 (tCons te tNil)) σ H (if (readR s).isSome then .str s else .int 0) := by
  refine ev_call (Evl.ea_cons h Evl.ea_nil) fun H1 e1 Q q => ⟨s, rfl, ls, fun r hr H2 e2 => ?_, fun hn H2 e2 => ?_⟩
  · rw [hr] at q
    exact q H2 e2
  · rw [hn] at q
    exact q H2 e2
section
variable {P : Program} {w : World} {K : PySem.W.Frag} {mg : Str → Option Value} {base : Heap} {a b : Addr} {σ : L2.St} {H : Hp}
abbrev sLaw : Stmt := topS 37
theorem scLaw : FnScope ["_law_script", "_law_spot", "_law_deal_here", "_law_turn", "_law_whole", "_law_short", "_law_more", "_law_bent_here"] ["_law_script"] (defScope sLaw) := ⟨rfl, rfl, rfl, by decide +kernel, rfl, by decide +kernel, by decide +kernel⟩
/-- a drawn rule's text -/
theorem ed_text {tr : TE} (h : EvD a b tr σ H (fun v H => ∃ (p : Addr) (r : RuleD), v = .ref p ∧ r.Ok ∧ RuleAt H p r)) : EvD a b (tCall (spRuleText K) [] E0 (tCons tr tNil)) σ H (fun v _ => ∃ r : RuleD, v = .str (ruleText r) ∧ r.Ok) := fun H1 k1 D1 Q q =>
  h H1 k1 D1 _ fun v H2 k2 D2 ⟨p, r, ev, ok, t, d, h1, h2, h3⟩ => by
    subst ev
    exact ⟨p, t, d, r, rfl, Evl.st_of h1, Evl.st_of h2, Evl.st_of h3, ok.good, fun H3 e3 => q _ H3 (k2.trans (Kp.same (ex_same e3))) (D2.keep (ex_same e3)) ⟨r, rfl, ok⟩⟩
theorem ok_law {f fDeal fWide fAny fText fBent fRead fIs : Addr} {fd fdDeal fdWide fdAny fdText fdBent fdRead fdIs : FuncData} (F : Fun K "law" "law" sLaw f fd) (T : TxB mg)
    (D_deal : Df K mg "_law_deal" sDeal ["_law_script", "_law_base"] fDeal fdDeal) (D_wide_rule : Df K mg "_law_wide_rule" sWideRule ["_law_deal_here"] fWide fdWide) (D_any_rule : Df K mg "_law_any_rule" sAnyRule ["_law_deal_here", "_law_most"] fAny fdAny) (D_rule_text : Df K mg "_law_rule_text" sRuleText ["_law_rule"] fText fdText)
    (D_bent : Df K mg "_law_bent" sBent ["_law_deal_here", "_law_text_here"] fBent fdBent) (D_read : Df K mg "_law_read" sRead ["_law_text_here"] fRead fdRead) (D_is_text : Df K mg "_law_is_text" sIsText ["_law_text_here"] fIs fdIs)
    (G_wide_rule : FnOk P w K mg base CX0 3 fWide fdWide ["_law_deal_here"] spWideRule) (G_any_rule : FnOk P w K mg base CX0 3 fAny fdAny ["_law_deal_here", "_law_most"] spAnyRule) (G_bent : FnOk P w K mg base CX0 3 fBent fdBent ["_law_deal_here", "_law_text_here"] spBent)
    (G_read : FnOk P w K mg base CX0 6 fRead fdRead ["_law_text_here"] spRead) (G_is_text : FnOk P w K mg base CX0 2 fIs fdIs ["_law_text_here"] spIsText) : FnOk P w K mg base CX0 7 f fd ["_law_script"] (spLaw K) := by
  have G_deal : FnOk P w K mg base CX0 1 fDeal fdDeal ["_law_script", "_law_base"] (spDeal K) := ok_deal D_deal.F T
  have G_rule_text : FnOk P w K mg base CX0 1 fText fdText ["_law_rule"] (spRuleText K) := ok_rule_text D_rule_text.F
  refine F.ok scLaw (fun vs H Q E h => ?_) (fun cdv A outer s H vs Q E hr h => ?_)
  · obtain ⟨a, ns, rfl, _⟩ := h
    rfl
  · obtain ⟨sa, ns, rfl, hS, hlen, q⟩ := h
    refine ⟨_, pss_cut (ps_for PassesOwn.never rfl (pi_range1 rfl T.n_range (pa_cons (pe_callB (call_max2 rfl) (by rfl) T.n_max (by decide +kernel) (pa_cons pe_int (pa_cons (pe_callB (call_min2 rfl) (by rfl) T.n_min (by decide +kernel) (pa_cons pe_int (pa_cons (pe_callB call_len_seq (by rfl) T.n_len (by decide +kernel) (pa_cons (pv 0) pa_nil)) pa_nil))) pa_nil))) pa_nil)) (pg_name (i := 1) scLaw.nd rfl (Or.inl rfl)) (pss_cons (ps_set (i := 2) scLaw.nd rfl (.inl rfl) (pe_call G_deal (hr.mono (by decide)) rfl D_deal.g D_deal.F.kp D_deal.b .nil pass0 (pa_cons (pv 0) (pa_cons (pv 1) pa_nil))))
      (pss_one (ps_for PassesOwn.never rfl (pi_range1 rfl T.n_range (pa_cons pe_int pa_nil)) (pg_name (i := 3) scLaw.nd rfl (Or.inl rfl)) (pss_cons (ps_set (i := 4) scLaw.nd rfl (.inl rfl) (pe_call G_rule_text (hr.mono (by decide)) rfl D_rule_text.g D_rule_text.F.kp D_rule_text.b .nil pass0 (pa_cons (pe_call G_wide_rule (hr.mono (by decide)) rfl D_wide_rule.g D_wide_rule.F.kp D_wide_rule.b .nil pass0 (pa_cons (pv 2) pa_nil)) pa_nil)))
      (pss_cons (ps_if (pt_cmpR op_ne (pe_call G_read (hr.mono (by decide)) rfl D_read.g D_read.F.kp D_read.b .nil pass0 (pa_cons (pv 4) pa_nil)) (pv 4) (nomark _)) (pss_one (ps_ret pe_bl)) pss_nil)
      (pss_cons (ps_set (i := 5) scLaw.nd rfl (.inl rfl) (pe_call G_rule_text (hr.mono (by decide)) rfl D_rule_text.g D_rule_text.F.kp D_rule_text.b .nil pass0 (pa_cons (pe_call G_any_rule (hr.mono (by decide)) rfl D_any_rule.g D_any_rule.F.kp D_any_rule.b .nil pass0 (pa_cons (pv 2) (pa_cons pe_int pa_nil))) pa_nil)))
      (pss_one (ps_for PassesOwn.never rfl (pi_range1 rfl T.n_range (pa_cons pe_int pa_nil)) (pg_name (i := 6) scLaw.nd rfl (Or.inl rfl)) (pss_cons (ps_set (i := 7) scLaw.nd rfl (.inl rfl) (pe_call G_bent (hr.mono (by decide)) rfl D_bent.g D_bent.F.kp D_bent.b .nil pass0 (pa_cons (pv 2) (pa_cons (pv 5) pa_nil))))
      (pss_one (ps_if (pt_cmpR op_ne (pe_call G_read (hr.mono (by decide)) rfl D_read.g D_read.F.kp D_read.b .nil pass0 (pa_cons (pv 7) pa_nil)) (pe_ifExp (pt_val (pe_call G_is_text (hr.mono (by decide)) rfl D_is_text.g D_is_text.F.kp D_is_text.b .nil pass0 (pa_cons (pv 7) pa_nil))) (pv 7) pe_int) (nomark _)) (pss_one (ps_ret pe_bl)) pss_nil))))))))))))
      (pss_cons (ps_if (PW.pt (pw_or (pt_cmpR op_ne (pe_call G_read (hr.mono (by decide)) rfl D_read.g D_read.F.kp D_read.b .nil pass0 (pa_cons pe_str pa_nil)) pe_str (nomark _)) (pw_or1 (pt_cmpR op_ne (pe_call G_read (hr.mono (by decide)) rfl D_read.g D_read.F.kp D_read.b .nil pass0 (pa_cons pe_str pa_nil)) pe_int (nomark _))))) (pss_one (ps_ret pe_bl)) pss_nil)
      (pss_one (ps_ret (pe_and (pe_cmpR op_eq (pe_call G_read (hr.mono (by decide)) rfl D_read.g D_read.F.kp D_read.b .nil pass0 (pa_cons pe_str pa_nil)) pe_int (nomark _)) (pe_one (pe_cmpR op_eq (pe_call G_read (hr.mono (by decide)) rfl D_read.g D_read.F.kp D_read.b .nil pass0 (pa_cons pe_str pa_nil)) pe_int (nomark _))))))), ?_⟩
    have hm : ∃ n : Int, (if (if ((ns.map V.int).length : Int) < 5 then ((ns.map V.int).length : Int) else 5) > 2 then (if ((ns.map V.int).length : Int) < 5 then ((ns.map V.int).length : Int) else 5) else 2) = n ∧ 0 ≤ n ∧ n ≤ 5 := ⟨_, rfl, by split <;> split <;> omega, by split <;> split <;> omega⟩
    obtain ⟨n, hn, n0, n5⟩ := hm
    refine Evl.q_cut (M := fun _ _ => True) ?_ (fun σ' H' _ => ?_)
    · refine Evl.s_forR1 (n := n) ?_ ⟨n0, Int.le_trans n5 (by decide)⟩ (fun _ σ' H' => ∃ b1 b2 b3 b4 b5 b6 b7 : Option V, σ' = [some (.ref sa), b1, b2, b3, b4, b5, b6, b7] ∧ Ex H H') ?_ ?_ ?_
      · intro H1 e1 Q2 q2
        refine ⟨_, rfl, sa, _, rfl, .inl (Evl.ex_l e1 hS), 5, _, rfl, 2, _, rfl, ?_⟩
        have q3 := q2 H1 (Ex.refl _)
        rw [← hn] at q3
        exact q3
      · intro H1 e1
        exact ⟨_, _, _, _, _, _, _, rfl, e1⟩
      · rintro i σ' H' hi ⟨b1, b2, b3, b4, b5, b6, b7, rfl, e1⟩
        refine ⟨_, rfl, _, rfl, sa, ns, i, rfl, Evl.ex_l e1 hS, hlen, by omega, fun a b H1 sm na nb dl => ?_⟩
        refine ⟨8, rfl, by decide, by decide, for_range (lo := 0) (n := 8) (fun _ σ H2 => ∃ v3 v4 v5 v6 v7 : Option V, σ = [some (.ref sa), some (.int (i : Int)), some (.ref a), v3, v4, v5, v6, v7] ∧ Kp a b H1 H2 ∧ Deal H2 a b) ⟨_, _, _, _, _, rfl, Kp.refl _ _ _, dl⟩ ?_ ?_⟩
        · rintro j σ H2 hj ⟨v3, v4, v5, v6, v7, rfl, k2, d2⟩
          show tSeq _ _ _ _ _
          refine q_anyX ?_
          refine ed_text (a := a) (b := b) (fun H3 k3 D3 Q3 q3 => ⟨_, rfl, a, b, rfl, D3, fun p r H4 ok k4 D4 at4 => q3 _ H4 k4 D4 ⟨p, r, rfl, ok, at4⟩⟩) H2 (Kp.refl _ _ _) d2 _ fun v H3 k3 d3 ⟨r, ev, ok⟩ => ?_
          subst ev
          have l1 := ok_len ok
          refine Evl.q_when (b := false) (Evl.et_is (Evl.et_test (Evl.ev_op (Evl.ev_is (ev_read (Evl.ev_var rfl) (by omega)) (w := .str (ruleText r)) (by rw [readR_self ok.good]; rfl)) (Evl.ev_var rfl) (Evl.rv_ne rfl))) (by rw [decide_eq_true rfl]; rfl)) (fun z => nomatch z) (fun _ H4 e4 => ?_)
          have d4 := d3.keep (ex_same e4)
          refine q_anyX ?_
          refine ed_text (a := a) (b := b) (fun H3 k3 D3 Q3 q3 => ⟨_, rfl, a, b, rfl, D3, fun p r H4 ok k4 D4 at4 => q3 _ H4 k4 D4 ⟨p, r, rfl, ok, at4⟩⟩) H4 (Kp.refl _ _ _) d4 _ fun v H5 k5 d5 ⟨r2, ev, ok2⟩ => ?_
          subst ev
          have k15 := ((k2.trans k3).trans (Kp.same (ex_same e4))).trans k5
          refine ⟨3, rfl, by decide, by decide, for_range (lo := 0) (n := 3) (fun _ σ H6 => ∃ v6 v7 : Option V, σ = [some (.ref sa), some (.int (i : Int)), some (.ref a), some (.int (0 + (j : Int))), some (.str (ruleText r)), some (.str (ruleText r2)), v6, v7] ∧ Kp a b H5 H6 ∧ Deal H6 a b) ⟨_, _, rfl, Kp.refl _ _ _, d5⟩ ?_ ?_⟩
          · rintro m σ H6 hm2 ⟨v6, v7, rfl, k6, d6⟩
            show tSeq _ _ _ _ _
            refine q_anyX ?_
            refine ⟨_, rfl, _, rfl, a, b, ruleText r2, rfl, d6, ok_len ok2, lay_rule ok2.good, fun t H7 lt pt k7 d7 => ?_⟩
            have hif : ∀ v : V, (if (readR t).isSome then V.str t else .int 0) = v → scal v v = true := fun v hv => by
              rw [← hv]
              cases (readR t).isSome <;> rfl
            refine Evl.s_when (b := false) (Evl.et_is (Evl.et_test (Evl.ev_op (ev_read (Evl.ev_var rfl) lt) (Evl.ev_if (b := (readR t).isSome) (v := if (readR t).isSome then V.str t else .int 0) (Evl.et_B (ev_call (v := .bl (readR t).isSome) (Evl.ea_cons (Evl.ev_var rfl) Evl.ea_nil) fun H8 e8 Q8 q8 => ⟨t, rfl, lt, pt, fun H9 e9 => q8 H9 e9⟩)) (fun h => Evl.ev_is (Evl.ev_var rfl) (by rw [h]; rfl)) (fun h => Evl.ev_is Evl.ev_c (by rw [h]; rfl))) (Evl.rv_ne (hif _ rfl)))) (by rw [decide_eq_true rfl]; rfl)) (fun z => nomatch z) (fun _ H8 e8 => ?_)
            exact ⟨_, _, rfl, (k6.trans k7).trans (Kp.same (ex_same e8)), d7.keep (ex_same e8)⟩
          · rintro σ H6 ⟨v6, v7, rfl, k6, d6⟩
            exact ⟨_, _, _, _, _, rfl, k15.trans k6, d6⟩
        · rintro σ H2 ⟨v3, v4, v5, v6, v7, rfl, k2, d2⟩
          exact ⟨_, _, _, _, _, _, _, rfl, e1.trans fun x o hx => k2 x o (ne_of_none hx na) (ne_of_none hx nb) (sm x o hx)⟩
      · exact fun _ _ _ => trivial
    · have c1 : (readR "on ask").isSome = true := by decide +kernel
      have c2 : (readR "on do take").isSome = false := by decide +kernel
      have c3 : (readR "").isSome = false := by decide +kernel
      have c4 : (readR "on").isSome = false := by decide +kernel
      refine Evl.q_when (b := false) (Evl.et_is (Evl.et_or (Evl.et_test (Evl.ev_op (Evl.ev_is (ev_read Evl.ev_c (by decide +kernel)) (w := .str "on ask") (by rw [c1]; rfl)) Evl.ev_c (Evl.rv_ne rfl))) (fun _ => Evl.et_test (Evl.ev_op (Evl.ev_is (ev_read Evl.ev_c (by decide +kernel)) (w := .int 0) (by rw [c2]; rfl)) Evl.ev_c (Evl.rv_ne rfl)))) (by rw [decide_eq_true rfl, decide_eq_true rfl]; rfl)) (fun z => nomatch z) (fun _ H1 e1 => ?_)
      refine Evl.s_ret (v := .bl true) (Evl.ev_is (Evl.ev_andV (Evl.ev_op (Evl.ev_is (ev_read Evl.ev_c (by decide +kernel)) (w := .int 0) (by rw [c3]; rfl)) Evl.ev_c (Evl.rv_eq rfl)) (fun _ => Evl.ev_op (Evl.ev_is (ev_read Evl.ev_c (by decide +kernel)) (w := .int 0) (by rw [c4]; rfl)) Evl.ev_c (Evl.rv_eq rfl))) (by first | rfl | (rw [decide_eq_true rfl]; rfl) | (rw [decide_eq_true rfl, decide_eq_true rfl]; rfl))) fun H2 e2 => q H2
end
end Ov

namespace Ov
open PySem PySem.Spec PyProof.Rows L2
/-- the class object of an own error below ValueError -/
def oexB (K : PySem.W.Frag) (C : Addr) : Bool := (match K.lookup C with
  | some ⟨.type "type", _, .cls cd, sl⟩ => (match cd.mro, sl.toList with
    | .ref D :: bm, [_, _, _, _, some (.builtin n), _] => D == C && (n == "ValueError.__new__" && (!cd.hasDel && (cd.hasDict && PySem.HandSPX.refsVE bm)))
    | _, _ => false)
  | _ => false) && (He.eqO (PySem.W.findIn K (.ref C) "__setattr__") (some (some (.builtin "object.__setattr__"))) && (decide (PySem.W.subIn K (.ref C) (.type "BaseException") = some true) && (decide (PySem.W.typeIn K (.ref C) = some (.type "type")) && PySem.W.keepIn K (.ref C))))
theorem oexB_ok {K : PySem.W.Frag} {C : Addr} (h : oexB K C = true) : OexC K C := by
  obtain ⟨h1, h⟩ := Bool.and_eq_true_iff.mp h
  obtain ⟨h2, h⟩ := Bool.and_eq_true_iff.mp h
  obtain ⟨h3, h⟩ := Bool.and_eq_true_iff.mp h
  obtain ⟨h4, h5⟩ := Bool.and_eq_true_iff.mp h
  refine ⟨?_, He.eqO_ok h2, of_decide_eq_true h3, of_decide_eq_true h4, h5⟩
  split at h1
  · rename_i dd cd sl ho
    split at h1
    · rename_i D bm k0 k1 k2 k3 n k5 hm hs
      simp only [Bool.and_eq_true, beq_iff_eq, Bool.not_eq_true'] at h1
      obtain ⟨rfl, rfl, hdel, hdct, hr⟩ := h1
      obtain ⟨nm, bs, mro, ns, qn, hd, sn, sub, ab, col, del⟩ := cd
      obtain ⟨sl⟩ := sl
      dsimp only at hm hdel hdct hs
      subst hm hdel hdct hs
      exact ⟨nm, qn, ns, bs, bm, sn, sub, ab, col, dd, k0, k1, k2, k3, k5, ho, hr⟩
    · cases h1
  · cases h1
def dA (x : Str) (st : Stmt) : He5.DefA := ⟨fun K => He.ga K x, x, x, defArgs st, defBody st, defScope st, [], []⟩
def dM (c m q : Str) (st : Stmt) (dfl : List He.Dv) : He5.DefA := ⟨fun K => He.ma K (He.ga K c) m, m, q, defArgs st, defBody st, defScope st, dfl, []⟩
def dC (c m q : Str) (st : Stmt) : He5.DefA := ⟨fun K => He5.wf K (He.ga K c) "classmethod" m, m, q, defArgs st, defBody st, defScope st, [], []⟩
def fn : List He5.DefA := [dA "_law_deal" sDeal, dA "_law_draw" sDraw, dA "_law_pick" sPick, dA "_law_tests_of" sTestsOf, dA "_law_deeds_of" sDeedsOf, dA "_law_any_rule" sAnyRule, dA "_law_wide_rule" sWideRule, dA "_law_rule_text" sRuleText, dA "_law_is_text" sIsText, dA "_law_bent" sBent, dA "_law_read" sRead, dA "law" sLaw, dA "is_sequence" sIsSequence, dA "is_kind" sIsKind, dA "is_test" sIsTest, dA "is_deed" sIsDeed, dA "split_part" sSplitPart, dM "Rule" "__init__" "Rule.__init__" sRuleInit [.adr (He.dflAt ("Rule", some "__init__") 0), .adr (He.dflAt ("Rule", some "__init__") 1)], dM "Rule" "__str__" "Rule.__str__" sRuleStr [], dM "InvalidRule" "__init__" "InvalidRule.__init__" sInvalidruleInit [], dM "InvalidText" "__init__" "InvalidText.__init__" sInvalidtextInit [], dC "Rule" "read" "Rule.read" sRuleRead]
def fa : List He.Fa := [.glo "_law_deal", .glo "_law_draw", .glo "_law_pick", .glo "_law_tests_of", .glo "_law_deeds_of", .glo "_law_any_rule", .glo "_law_wide_rule", .glo "_law_rule_text", .glo "_law_is_text", .glo "_law_bent", .glo "_law_read", .glo "law", .glo "is_sequence", .glo "is_kind", .glo "is_test", .glo "is_deed", .glo "split_part", .glo "Rule", .glo "LetterError", .glo "InvalidRule", .glo "InvalidText", .glo "LETTERS", .glo "LETTER_TESTS", .glo "LETTER_DEEDS", .glo "ANSWER_TESTS", .glo "ANSWER_DEEDS", .free "int", .free "abs", .free "len", .free "range", .free "max", .free "min", .free "list", .free "tuple", .free "isinstance", .free "str", .free "all", .str "ANSWER" "answer", .str "NOT" "not ", .cls "Rule", .noat "Rule" "kind", .noat "Rule" "tests", .noat "Rule" "deeds", .noat "InvalidRule" "word", .noat "InvalidText" "at", .meth "Rule" "__str__", .meth "InvalidRule" "__init__", .meth "InvalidText" "__init__", .mkr "Rule", .exm "InvalidRule" "InvalidRule" true, .exm "InvalidText" "LetterError" true]
def exL (K : PySem.W.Frag) : List Bool := [He.tupB K "LETTERS" [.str "ask", .str "day", .str "off", .str "stop"], He.tupB K "LETTER_TESTS" [.str "whole", .str "own", .str "above whole", .str "above own", .str "level whole", .str "level own", .str "later whole", .str "later own"], He.tupB K "LETTER_DEEDS" [.str "take", .str "wipe"], He.tupB K "ANSWER_TESTS" [.str "level"], He.tupB K "ANSWER_DEEDS" [.str "count", .str "drop"], decide (PySem.W.mroIn K (He.ga K "Rule") (.type "object") = some true), He.eqO (PySem.W.findIn K (.ref (He.ga K "Rule")) "__class__") (some (some (.builtin "object.__class__"))), He.eqO (PySem.W.specialIn K (.builtin "object.__class__") "__get__") (some (some (.builtin "getset_descriptor.__get__"))), decide (PySem.W.takesIn K (.builtin "object.__class__") = some true), oexB K (He.ga K "InvalidRule"), oexB K (He.ga K "InvalidText"), xfB K (He.ga K "InvalidText"), He.eqO (PySem.W.findIn K (.ref (He.ga K "InvalidText")) "__class__") (some (some (.builtin "object.__class__"))), decide (PySem.W.mroIn K (He.ga K "InvalidText") (.type "object") = some true), decide (PySem.W.kitOne K (.ref (He.ga K "InvalidText")) (.ref (He.ga K "InvalidText")) = some true), decide (PySem.W.kitOne K (.ref (He.ga K "InvalidText")) (.ref (He.ga K "InvalidRule")) = some false), PySem.W.readsIn K (He.ga K "Rule") (.type "type"), He.eqO (PySem.W.specialIn K (.ref (He.ga K "Rule")) "__getattribute__") (some (some (.builtin "type.__getattribute__"))), He5.wrapB K (He.ga K "Rule") "classmethod" "classmethod.__get__" "read", PySem.W.fnIn K (He5.wf K (He.ga K "Rule") "classmethod" "read")]
def ex (K : PySem.W.Frag) : Bool := (exL K).all id
theorem ex_at {K : PySem.W.Frag} (h : ex K = true) (i : Nat) {b : Bool} (e : (exL K)[i]? = some b) : b = true := List.all_eq_true.mp h b (List.mem_of_getElem? e)
def names : List Str := (["__name__", "LetterError", "InvalidRule", "InvalidText", "is_sequence", "LETTERS", "ANSWER", "LETTER_TESTS", "LETTER_DEEDS", "ANSWER_TESTS", "ANSWER_DEEDS", "NOT", "is_kind", "is_test", "is_deed", "split_part", "Rule", "_law_deal", "_law_draw", "_law_pick", "_law_mixed", "_law_tests_of", "_law_deeds_of", "_law_any_rule", "_law_usual_rules"] : List Str) ++ (["_law_raised", "_law_plan", "_law_rule_text", "_law_text", "_law_wide_rule", "_law_wide_plan", "_law_is_text", "_law_bent", "_law_read"] : List Str)
abbrev R : PySem.W.OpenRow := PySem.W.OpenLaw.row PySem.Challenge.rw_overtaken_k04_rules_read
def part (n : Nat) (g : Addr → Option Obj) : PySem.W.Frag := He.frG g (He5.asA g n)
def seen (n : Nat) (g : Addr → Option Obj) : He.AlD × Bool := (He5.obsA fa fn (part n g), ex (part n g))
structure Says (K : PySem.W.Frag) : Prop where
  d : He5.SaysA fa fn K
  more : ex K = true
def hk : PySem.W.Hook where
  α := He.AlD × Bool
  obs := fun s => seen 6 s.heap.get?
  val := fun _ => (He5.valA fn, true)
  says := fun _ h => ∃ K : PySem.W.Frag, K.In h ∧ Says K
  of := fun _ _ e => ⟨_, He.frG_in, ⟨congrArg (fun z : He.AlD × Bool => z.1) e, congrArg (fun z : He.AlD × Bool => z.2) e⟩⟩
  keeps := fun _ _ _ ⟨K, hK, c⟩ k => ⟨K, PySem.W.Frag.In.keeps hK k, c⟩
def ob (s : PySem.W.SharedT) : He.AlD × Bool := seen 6 (HandSHeadRun.getT s)
theorem ob_eq (s : PySem.W.SharedT) : ob s = hk.obs s.abs := by
  have e : HandSHeadRun.getT s = s.abs.heap.get? := funext fun a => HandSHeadRun.getT_eq s a
  show seen 6 (HandSHeadRun.getT s) = seen 6 s.abs.heap.get?
  rw [e] <;> rfl
theorem run (w : World) : HandSHeadRun.RunEq R (PySem.W.view R.prog [37]) hk ob 6000 names w := by
  intro os
  kernel_rfl
section
variable {K : PySem.W.Frag} {h : Heap} {mg : Str → Option Value}
theorem df_law_deal (X : K.In h) (G : h.Ns mainGlobals mg) (c : Says K) : ∃ fd, Df K mg "_law_deal" sDeal ["_law_script", "_law_base"] (He.ga K "_law_deal") fd := by
  obtain ⟨fd, F⟩ := c.d.def_ 0 (d := dA "_law_deal" sDeal) rfl
  exact ⟨fd, He5.fun_of F, He.glo_ok X G (c.d.fact 0 (f := .glo "_law_deal") rfl), FunD.bindsN (ps := ["_law_script", "_law_base"]) F fun _ _ _ _ _ _ us hl => match us, hl with | [_, _], _ => rfl⟩
theorem df_law_draw (X : K.In h) (G : h.Ns mainGlobals mg) (c : Says K) : ∃ fd, Df K mg "_law_draw" sDraw ["_law_deal_here", "_law_many"] (He.ga K "_law_draw") fd := by
  obtain ⟨fd, F⟩ := c.d.def_ 1 (d := dA "_law_draw" sDraw) rfl
  exact ⟨fd, He5.fun_of F, He.glo_ok X G (c.d.fact 1 (f := .glo "_law_draw") rfl), FunD.bindsN (ps := ["_law_deal_here", "_law_many"]) F fun _ _ _ _ _ _ us hl => match us, hl with | [_, _], _ => rfl⟩
theorem df_law_pick (X : K.In h) (G : h.Ns mainGlobals mg) (c : Says K) : ∃ fd, Df K mg "_law_pick" sPick ["_law_deal_here", "_law_some"] (He.ga K "_law_pick") fd := by
  obtain ⟨fd, F⟩ := c.d.def_ 2 (d := dA "_law_pick" sPick) rfl
  exact ⟨fd, He5.fun_of F, He.glo_ok X G (c.d.fact 2 (f := .glo "_law_pick") rfl), FunD.bindsN (ps := ["_law_deal_here", "_law_some"]) F fun _ _ _ _ _ _ us hl => match us, hl with | [_, _], _ => rfl⟩
theorem df_law_tests_of (X : K.In h) (G : h.Ns mainGlobals mg) (c : Says K) : ∃ fd, Df K mg "_law_tests_of" sTestsOf ["_law_kind"] (He.ga K "_law_tests_of") fd := by
  obtain ⟨fd, F⟩ := c.d.def_ 3 (d := dA "_law_tests_of" sTestsOf) rfl
  exact ⟨fd, He5.fun_of F, He.glo_ok X G (c.d.fact 3 (f := .glo "_law_tests_of") rfl), FunD.bindsN (ps := ["_law_kind"]) F fun _ _ _ _ _ _ us hl => match us, hl with | [_], _ => rfl⟩
theorem df_law_deeds_of (X : K.In h) (G : h.Ns mainGlobals mg) (c : Says K) : ∃ fd, Df K mg "_law_deeds_of" sDeedsOf ["_law_kind"] (He.ga K "_law_deeds_of") fd := by
  obtain ⟨fd, F⟩ := c.d.def_ 4 (d := dA "_law_deeds_of" sDeedsOf) rfl
  exact ⟨fd, He5.fun_of F, He.glo_ok X G (c.d.fact 4 (f := .glo "_law_deeds_of") rfl), FunD.bindsN (ps := ["_law_kind"]) F fun _ _ _ _ _ _ us hl => match us, hl with | [_], _ => rfl⟩
theorem df_law_any_rule (X : K.In h) (G : h.Ns mainGlobals mg) (c : Says K) : ∃ fd, Df K mg "_law_any_rule" sAnyRule ["_law_deal_here", "_law_most"] (He.ga K "_law_any_rule") fd := by
  obtain ⟨fd, F⟩ := c.d.def_ 5 (d := dA "_law_any_rule" sAnyRule) rfl
  exact ⟨fd, He5.fun_of F, He.glo_ok X G (c.d.fact 5 (f := .glo "_law_any_rule") rfl), FunD.bindsN (ps := ["_law_deal_here", "_law_most"]) F fun _ _ _ _ _ _ us hl => match us, hl with | [_, _], _ => rfl⟩
theorem df_law_wide_rule (X : K.In h) (G : h.Ns mainGlobals mg) (c : Says K) : ∃ fd, Df K mg "_law_wide_rule" sWideRule ["_law_deal_here"] (He.ga K "_law_wide_rule") fd := by
  obtain ⟨fd, F⟩ := c.d.def_ 6 (d := dA "_law_wide_rule" sWideRule) rfl
  exact ⟨fd, He5.fun_of F, He.glo_ok X G (c.d.fact 6 (f := .glo "_law_wide_rule") rfl), FunD.bindsN (ps := ["_law_deal_here"]) F fun _ _ _ _ _ _ us hl => match us, hl with | [_], _ => rfl⟩
theorem df_law_rule_text (X : K.In h) (G : h.Ns mainGlobals mg) (c : Says K) : ∃ fd, Df K mg "_law_rule_text" sRuleText ["_law_rule"] (He.ga K "_law_rule_text") fd := by
  obtain ⟨fd, F⟩ := c.d.def_ 7 (d := dA "_law_rule_text" sRuleText) rfl
  exact ⟨fd, He5.fun_of F, He.glo_ok X G (c.d.fact 7 (f := .glo "_law_rule_text") rfl), FunD.bindsN (ps := ["_law_rule"]) F fun _ _ _ _ _ _ us hl => match us, hl with | [_], _ => rfl⟩
theorem df_law_is_text (X : K.In h) (G : h.Ns mainGlobals mg) (c : Says K) : ∃ fd, Df K mg "_law_is_text" sIsText ["_law_text_here"] (He.ga K "_law_is_text") fd := by
  obtain ⟨fd, F⟩ := c.d.def_ 8 (d := dA "_law_is_text" sIsText) rfl
  exact ⟨fd, He5.fun_of F, He.glo_ok X G (c.d.fact 8 (f := .glo "_law_is_text") rfl), FunD.bindsN (ps := ["_law_text_here"]) F fun _ _ _ _ _ _ us hl => match us, hl with | [_], _ => rfl⟩
theorem df_law_bent (X : K.In h) (G : h.Ns mainGlobals mg) (c : Says K) : ∃ fd, Df K mg "_law_bent" sBent ["_law_deal_here", "_law_text_here"] (He.ga K "_law_bent") fd := by
  obtain ⟨fd, F⟩ := c.d.def_ 9 (d := dA "_law_bent" sBent) rfl
  exact ⟨fd, He5.fun_of F, He.glo_ok X G (c.d.fact 9 (f := .glo "_law_bent") rfl), FunD.bindsN (ps := ["_law_deal_here", "_law_text_here"]) F fun _ _ _ _ _ _ us hl => match us, hl with | [_, _], _ => rfl⟩
theorem df_law_read (X : K.In h) (G : h.Ns mainGlobals mg) (c : Says K) : ∃ fd, Df K mg "_law_read" sRead ["_law_text_here"] (He.ga K "_law_read") fd := by
  obtain ⟨fd, F⟩ := c.d.def_ 10 (d := dA "_law_read" sRead) rfl
  exact ⟨fd, He5.fun_of F, He.glo_ok X G (c.d.fact 10 (f := .glo "_law_read") rfl), FunD.bindsN (ps := ["_law_text_here"]) F fun _ _ _ _ _ _ us hl => match us, hl with | [_], _ => rfl⟩
theorem df_is_sequence (X : K.In h) (G : h.Ns mainGlobals mg) (c : Says K) : ∃ fd, Df K mg "is_sequence" sIsSequence ["value"] (He.ga K "is_sequence") fd := by
  obtain ⟨fd, F⟩ := c.d.def_ 12 (d := dA "is_sequence" sIsSequence) rfl
  exact ⟨fd, He5.fun_of F, He.glo_ok X G (c.d.fact 12 (f := .glo "is_sequence") rfl), FunD.bindsN (ps := ["value"]) F fun _ _ _ _ _ _ us hl => match us, hl with | [_], _ => rfl⟩
theorem df_is_kind (X : K.In h) (G : h.Ns mainGlobals mg) (c : Says K) : ∃ fd, Df K mg "is_kind" sIsKind ["value"] (He.ga K "is_kind") fd := by
  obtain ⟨fd, F⟩ := c.d.def_ 13 (d := dA "is_kind" sIsKind) rfl
  exact ⟨fd, He5.fun_of F, He.glo_ok X G (c.d.fact 13 (f := .glo "is_kind") rfl), FunD.bindsN (ps := ["value"]) F fun _ _ _ _ _ _ us hl => match us, hl with | [_], _ => rfl⟩
theorem df_is_test (X : K.In h) (G : h.Ns mainGlobals mg) (c : Says K) : ∃ fd, Df K mg "is_test" sIsTest ["kind", "value"] (He.ga K "is_test") fd := by
  obtain ⟨fd, F⟩ := c.d.def_ 14 (d := dA "is_test" sIsTest) rfl
  exact ⟨fd, He5.fun_of F, He.glo_ok X G (c.d.fact 14 (f := .glo "is_test") rfl), FunD.bindsN (ps := ["kind", "value"]) F fun _ _ _ _ _ _ us hl => match us, hl with | [_, _], _ => rfl⟩
theorem df_is_deed (X : K.In h) (G : h.Ns mainGlobals mg) (c : Says K) : ∃ fd, Df K mg "is_deed" sIsDeed ["kind", "value"] (He.ga K "is_deed") fd := by
  obtain ⟨fd, F⟩ := c.d.def_ 15 (d := dA "is_deed" sIsDeed) rfl
  exact ⟨fd, He5.fun_of F, He.glo_ok X G (c.d.fact 15 (f := .glo "is_deed") rfl), FunD.bindsN (ps := ["kind", "value"]) F fun _ _ _ _ _ _ us hl => match us, hl with | [_, _], _ => rfl⟩
theorem df_split_part (X : K.In h) (G : h.Ns mainGlobals mg) (c : Says K) : ∃ fd, Df K mg "split_part" sSplitPart ["sign", "text", "between"] (He.ga K "split_part") fd := by
  obtain ⟨fd, F⟩ := c.d.def_ 16 (d := dA "split_part" sSplitPart) rfl
  exact ⟨fd, He5.fun_of F, He.glo_ok X G (c.d.fact 16 (f := .glo "split_part") rfl), FunD.bindsN (ps := ["sign", "text", "between"]) F fun _ _ _ _ _ _ us hl => match us, hl with | [_, _, _], _ => rfl⟩
theorem dm_Rule_init (c : Says K) : ∃ fd, FunD K "__init__" "Rule.__init__" (defArgs sRuleInit) (defBody sRuleInit) (defScope sRuleInit) [V.ref (He.dflAt ("Rule", some "__init__") 0 K), V.ref (He.dflAt ("Rule", some "__init__") 1 K)] [] (He.ma K (He.ga K "Rule") "__init__") fd ∧ Binds K fd ["self", "kind", "tests", "deeds"] [] := by
  obtain ⟨fd, F⟩ := c.d.def_ 17 (d := dM "Rule" "__init__" "Rule.__init__" sRuleInit [.adr (He.dflAt ("Rule", some "__init__") 0), .adr (He.dflAt ("Rule", some "__init__") 1)]) rfl
  obtain ⟨ds, hv, hb⟩ := FunD.binds1 (ps := ["self", "kind", "tests", "deeds"]) F 4 2 (fun z => nomatch z) rfl fun _ _ _ _ _ _ _ us its h1 h2 => match us, its, h1, h2 with | [_, _, _, _], [_, _], _, _ => ⟨_, rfl, rfl⟩
  cases hv
  exact ⟨fd, F, hb⟩
theorem dm_Rule_str (c : Says K) : ∃ fd, Fun K "__str__" "Rule.__str__" sRuleStr (He.ma K (He.ga K "Rule") "__str__") fd ∧ Binds K fd ["self"] [] := by
  obtain ⟨fd, F⟩ := c.d.def_ 18 (d := dM "Rule" "__str__" "Rule.__str__" sRuleStr []) rfl
  exact ⟨fd, He5.fun_of F, FunD.bindsN (ps := ["self"]) F fun _ _ _ _ _ _ us hl => match us, hl with | [_], _ => rfl⟩
theorem dm_InvalidRule_init (c : Says K) : ∃ fd, Fun K "__init__" "InvalidRule.__init__" sInvalidruleInit (He.ma K (He.ga K "InvalidRule") "__init__") fd ∧ Binds K fd ["self", "word"] [] := by
  obtain ⟨fd, F⟩ := c.d.def_ 19 (d := dM "InvalidRule" "__init__" "InvalidRule.__init__" sInvalidruleInit []) rfl
  exact ⟨fd, He5.fun_of F, FunD.bindsN (ps := ["self", "word"]) F fun _ _ _ _ _ _ us hl => match us, hl with | [_, _], _ => rfl⟩
theorem dm_InvalidText_init (c : Says K) : ∃ fd, Fun K "__init__" "InvalidText.__init__" sInvalidtextInit (He.ma K (He.ga K "InvalidText") "__init__") fd ∧ Binds K fd ["self", "at"] [] := by
  obtain ⟨fd, F⟩ := c.d.def_ 20 (d := dM "InvalidText" "__init__" "InvalidText.__init__" sInvalidtextInit []) rfl
  exact ⟨fd, He5.fun_of F, FunD.bindsN (ps := ["self", "at"]) F fun _ _ _ _ _ _ us hl => match us, hl with | [_, _], _ => rfl⟩
theorem dm_Rule_read (c : Says K) : ∃ fd, Fun K "read" "Rule.read" sRuleRead (He5.wf K (He.ga K "Rule") "classmethod" "read") fd ∧ Binds K fd ["cls", "text"] [] := by
  obtain ⟨fd, F⟩ := c.d.def_ 21 (d := dC "Rule" "read" "Rule.read" sRuleRead) rfl
  exact ⟨fd, He5.fun_of F, FunD.bindsN (ps := ["cls", "text"]) F fun _ _ _ _ _ _ us hl => match us, hl with | [_, _], _ => rfl⟩
end
theorem facts {P : Program} {w : World} {K : PySem.W.Frag} {h : Heap} {mg : Str → Option Value} {f : Addr} (X : K.In h) (G : h.Ns mainGlobals mg) (hfa : mg ("law" : Str) = some (.ref f)) (c : Says K) :
    ∃ fd : FuncData, (∀ (s : Shared) (v : Value), BindsTo s fd ⟨[v], []⟩ [("_law_script", v)]) ∧ ∀ base : Heap, K.In base → base.Ns mainGlobals mg → FnOk P w K mg base CX0 7 f fd ["_law_script"] (spLaw K) := by
  obtain ⟨fd, F⟩ := c.d.def_ 11 (d := dA "law" sLaw) rfl
  have e := hfa.symm.trans (He.glo_ok X G (c.d.fact 11 (f := .glo "law") rfl))
  cases e
  have b := FunD.bindsA (ps := ["_law_script"]) F fun _ _ _ _ _ _ us hl => match us, hl with | [_], _ => rfl
  obtain ⟨d_deal, D_deal⟩ := df_law_deal X G c
  obtain ⟨d_draw, D_draw⟩ := df_law_draw X G c
  obtain ⟨d_pick, D_pick⟩ := df_law_pick X G c
  obtain ⟨d_tests_of, D_tests_of⟩ := df_law_tests_of X G c
  obtain ⟨d_deeds_of, D_deeds_of⟩ := df_law_deeds_of X G c
  obtain ⟨d_any_rule, D_any_rule⟩ := df_law_any_rule X G c
  obtain ⟨d_wide_rule, D_wide_rule⟩ := df_law_wide_rule X G c
  obtain ⟨d_rule_text, D_rule_text⟩ := df_law_rule_text X G c
  obtain ⟨d_is_text, D_is_text⟩ := df_law_is_text X G c
  obtain ⟨d_bent, D_bent⟩ := df_law_bent X G c
  obtain ⟨d_read, D_read⟩ := df_law_read X G c
  obtain ⟨d_is_sequence, D_is_sequence⟩ := df_is_sequence X G c
  obtain ⟨d_is_kind, D_is_kind⟩ := df_is_kind X G c
  obtain ⟨d_is_test, D_is_test⟩ := df_is_test X G c
  obtain ⟨d_is_deed, D_is_deed⟩ := df_is_deed X G c
  obtain ⟨d_split_part, D_split_part⟩ := df_split_part X G c
  obtain ⟨d_Rule_init, F_Rule_init, b_Rule_init⟩ := dm_Rule_init c
  obtain ⟨d_Rule_str, F_Rule_str, b_Rule_str⟩ := dm_Rule_str c
  obtain ⟨d_InvalidRule_init, F_InvalidRule_init, b_InvalidRule_init⟩ := dm_InvalidRule_init c
  obtain ⟨d_InvalidText_init, F_InvalidText_init, b_InvalidText_init⟩ := dm_InvalidText_init c
  obtain ⟨d_Rule_read, F_Rule_read, b_Rule_read⟩ := dm_Rule_read c
  obtain ⟨tA, gA⟩ := He.str_ok X G (c.d.fact 37 (f := .str "ANSWER" "answer") rfl)
  obtain ⟨tN, gN⟩ := He.str_ok X G (c.d.fact 38 (f := .str "NOT" "not ") rfl)
  have TB : TxB mg := ⟨He.free_ok X G (c.d.fact 26 (f := .free "int") rfl), He.free_ok X G (c.d.fact 27 (f := .free "abs") rfl), He.free_ok X G (c.d.fact 28 (f := .free "len") rfl), He.free_ok X G (c.d.fact 29 (f := .free "range") rfl), He.free_ok X G (c.d.fact 30 (f := .free "max") rfl), He.free_ok X G (c.d.fact 31 (f := .free "min") rfl), He.free_ok X G (c.d.fact 32 (f := .free "list") rfl), He.free_ok X G (c.d.fact 33 (f := .free "tuple") rfl)⟩
  have T : TxR K mg (He.ga K "LETTERS") (He.ga K "LETTER_TESTS") (He.ga K "LETTER_DEEDS") (He.ga K "ANSWER_TESTS") (He.ga K "ANSWER_DEEDS") (He.ga K "Rule") tA tN :=
    { toTxB := TB, g_ANSWER := gA, g_NOT := gN, g_LETTERS := He.glo_ok X G (c.d.fact 21 (f := .glo "LETTERS") rfl), s_LETTERS := He.tupB_ok (ex_at c.more 0 rfl), g_LETTER_TESTS := He.glo_ok X G (c.d.fact 22 (f := .glo "LETTER_TESTS") rfl), s_LETTER_TESTS := He.tupB_ok (ex_at c.more 1 rfl), g_LETTER_DEEDS := He.glo_ok X G (c.d.fact 23 (f := .glo "LETTER_DEEDS") rfl), s_LETTER_DEEDS := He.tupB_ok (ex_at c.more 2 rfl), g_ANSWER_TESTS := He.glo_ok X G (c.d.fact 24 (f := .glo "ANSWER_TESTS") rfl), s_ANSWER_TESTS := He.tupB_ok (ex_at c.more 3 rfl), g_ANSWER_DEEDS := He.glo_ok X G (c.d.fact 25 (f := .glo "ANSWER_DEEDS") rfl), s_ANSWER_DEEDS := He.tupB_ok (ex_at c.more 4 rfl), g_Rule := He.glo_ok X G (c.d.fact 17 (f := .glo "Rule") rfl), n_isinstance := He.free_ok X G (c.d.fact 34 (f := .free "isinstance") rfl), n_str := He.free_ok X G (c.d.fact 35 (f := .free "str") rfl), n_all := He.free_ok X G (c.d.fact 36 (f := .free "all") rfl), cl := He.cls_ok (c.d.fact 39 (f := .cls "Rule") rfl), nK := He.noat_ok (c.d.fact 40 (f := .noat "Rule" "kind") rfl), nT := He.noat_ok (c.d.fact 41 (f := .noat "Rule" "tests") rfl), nD := He.noat_ok (c.d.fact 42 (f := .noat "Rule" "deeds") rfl), ci := He.eqO_ok (ex_at c.more 6 rfl), cs := He.eqO_ok (ex_at c.more 7 rfl), ct := of_decide_eq_true (ex_at c.more 8 rfl), co := of_decide_eq_true (ex_at c.more 5 rfl) }
  have mS := He.meth_ok (c.d.fact 45 (f := .meth "Rule" "__str__") rfl)
  have mR := He.meth_ok (c.d.fact 46 (f := .meth "InvalidRule" "__init__") rfl)
  have mT := He.meth_ok (c.d.fact 47 (f := .meth "InvalidText" "__init__") rfl)
  have TE : ErrC K mg "InvalidRule" (He.ga K "InvalidRule") (He.ma K (He.ga K "InvalidRule") "__init__") := ⟨oexB_ok (ex_at c.more 9 rfl), mR.at_, beq_iff_eq.mp mR.fn, He.glo_ok X G (c.d.fact 19 (f := .glo "InvalidRule") rfl)⟩
  have TT : ErrC K mg "InvalidText" (He.ga K "InvalidText") (He.ma K (He.ga K "InvalidText") "__init__") := ⟨oexB_ok (ex_at c.more 10 rfl), mT.at_, beq_iff_eq.mp mT.fn, He.glo_ok X G (c.d.fact 20 (f := .glo "InvalidText") rfl)⟩
  have xf := xfB_ok (ex_at c.more 11 rfl)
  have xc : ExcC K (He.ga K "InvalidText") := ⟨xf.ga, xf.gg, xf.exC, xf.hdC, He.eqO_ok (ex_at c.more 12 rfl), He.eqO_ok (ex_at c.more 7 rfl), of_decide_eq_true (ex_at c.more 8 rfl), of_decide_eq_true (ex_at c.more 13 rfl)⟩
  have cm := He5.cmet_of (ex_at c.more 18 rfl) (ex_at c.more 19 rfl)
  have rd : ClX.CRead K (He.ga K "Rule") (.type "type") := ⟨(ex_at c.more 16 rfl), He.eqO_ok (ex_at c.more 17 rfl)⟩
  refine ⟨fd, fun s v => b s [v] rfl, fun base _ _ => ?_⟩
  have G_initX : FnOk P w K mg base (L2N.CX P w) 3 _ d_Rule_init ["self", "kind", "tests", "deeds"] (spRuleInitX K (He.ga K "Rule") (He.ga K "InvalidRule")) := ok_rule_initX F_Rule_init T D_is_sequence D_is_kind D_is_test D_is_deed TE F_InvalidRule_init b_InvalidRule_init (He.noat_ok (c.d.fact 43 (f := .noat "InvalidRule" "word") rfl))
  have G_readX : FnOk P w K mg base (L2.CX P w) 5 _ d_Rule_read ["cls", "text"] (spRuleReadX K (He.ga K "Rule") (He.ga K "InvalidText")) := ok_rule_readX (fdE := d_InvalidRule_init) F_Rule_read D_split_part (He.mkr_ok (c.d.fact 48 (f := .mkr "Rule") rfl)) G_initX b_Rule_init TE (He.exm_ok (c.d.fact 49 (f := .exm "InvalidRule" "InvalidRule" true) rfl)) TT F_InvalidText_init b_InvalidText_init (He.noat_ok (c.d.fact 44 (f := .noat "InvalidText" "at") rfl))
  have G_rd : FnR P w K mg base (L2.CX P w) 5 (He5.wf K (He.ga K "Rule") "classmethod" "read") (spRuleReadX K (He.ga K "Rule") (He.ga K "InvalidText")) := (G_readX.raw b_Rule_read .nil).imp fun vs H Q E h => by rw [List.append_nil]; exact h
  have G_read := ok_read (P := P) (w := w) (base := base) D_read.F T.g_Rule rd cm G_rd (ok_rule_str F_Rule_str T) b_Rule_str mS.at_ mS.fn T.n_str T.n_isinstance (He.glo_ok X G (c.d.fact 18 (f := .glo "LetterError") rfl)) TT.g TE.g (He.exm_ok (c.d.fact 50 (f := .exm "InvalidText" "LetterError" true) rfl)) (of_decide_eq_true (ex_at c.more 14 rfl)) (of_decide_eq_true (ex_at c.more 15 rfl)) xc xf (He.noat_ok (c.d.fact 44 (f := .noat "InvalidText" "at") rfl))
  exact ok_law (He5.fun_of F) TB D_deal D_wide_rule D_any_rule D_rule_text D_bent D_read D_is_text (ok_wide_rule D_wide_rule.F TB D_draw D_pick D_tests_of D_deeds_of) (ok_any_rule D_any_rule.F TB D_draw D_pick D_tests_of D_deeds_of) (ok_bent D_bent.F TB D_draw D_pick) G_read (ok_is_text D_is_text.F D_tests_of D_deeds_of)
end Ov
open PySem PySem.W PySem.Calls PyProof.Rows
theorem PySem.Challenge.cw_overtaken_k04_rules_read_holds : PySem.Challenge.rw_overtaken_k04_rules_read.Holds := by
  w_on; o_law
  refine HandSHeadRun.head_any (r := OpenLaw.row PySem.Challenge.rw_overtaken_k04_rules_read) (q := view (OpenLaw.row PySem.Challenge.rw_overtaken_k04_rules_read).prog [37]) (H := Ov.hk) (ob := Ov.ob) (M := 6000) (loose := Ov.names) (d := HandSHeadRun.topDef (OpenLaw.row PySem.Challenge.rw_overtaken_k04_rules_read).prog 37) (kwd := []) Ov.ob_eq
    (by kernel_rfl) (fun s => by kernel_rfl) Ov.run (by kernel_rfl) (by kernel_rfl) (by kernel_rfl) (by rfl) (by first | assumption | decide +kernel) (by decide +kernel) ⟨rfl, rfl, rfl, rfl, rfl, by decide +kernel⟩ ?hw ?hc
  case hw => w_witness2
  case hc =>
    refine L2.walk_ofE (l := PySem.Challenge.rw_overtaken_k04_rules_read) (n := 63) (k := 7) (x := "_law_script") (CX := L2.CX0) rfl (by decide) (by kernel_rfl) ⟨rfl, by decide, by decide⟩ ?F (fun _ _ _ _ z => z)
    intro w mg fa h Y G hmg0
    obtain ⟨K, KX, c⟩ := Y
    have hmg : mg ("law" : PySem.Str) = some (.ref fa) := by
      have e : (HandSHeadRun.topDef (OpenLaw.row PySem.Challenge.rw_overtaken_k04_rules_read).prog 37).name = ("law" : PySem.Str) := by kernel_rfl
      rw [← e]
      exact hmg0
    obtain ⟨fd, hb, hF⟩ := Ov.facts (P := (PySem.Challenge.rw_overtaken_k04_rules_read).prog) (w := w) KX G hmg c
    exact ⟨K, fd, Ov.spLaw K, KX, hb, fun H a ns hl _ hS => ⟨a, ns, rfl, hS, hl, fun _ => rfl⟩, hF⟩
