import PyProof.Rows.All
import Wide.All
import OpenK.AllK
import Wide.FinOn
import KE.RegKCallOwn
import PyProof.InstNe
import HandS.ForMost
import HandS.OwnEq
import HandS.Evl
import HandS.IsInst
import HandS.FStr
import HandS.StrMore
import HandS.Defaults
import KE.KRevSl
import HandS.Strs
import HandS.Wide
import HandS.Style
import PySem.Challenge.RW_overtaken_k08_plans_put_together
import HandS.Zip
import HandS.ClsMeth
import HandS.Exc
import KE.KUnpackStar
import HandS.ExcValue
import HandS.Walk
import KE.GoesEnumKw
import KE.GoesMore
import HandS.TupAny
import HandS.Star
import HandS.MakeKwOnly
import HandS.MakeKw
import HandS.ForExc
import KE.KOpsOwn
import KE.KStateDown
import Lean
import HandS.Head0
import HandS.Head1
import HandS.Head2
import HandS.HeadEnd
import HandS.HeadHook1
import HandS.HeadHook2
import HandS.HeadHook3
import HandS.HeadHook4
import HandS.HeadNt
set_option Elab.async false
set_option linter.all false
set_option maxRecDepth 100000
set_option maxHeartbeats 0
namespace Ov
open PySem PySem.Spec PyProof.Rows L2
/-! ### object's __ne__ over an own __eq__ -/
section
variable {M : Model} {prog : Program} {w : World} {A : Around} {E : Value → Shared → Prop} {s : Shared} {K : PySem.W.Frag} {x C f : Addr} {ox : Obj} {od : Option Obj}
theorem bound_ne {rest : List Value} {Q : Option Value → Shared → Prop} (kin : K.In s.heap) (J : PySem.W.InstAt s.heap x ox C od) (hn : PySem.W.findIn K (.ref C) "__ne__" = some (some (.builtin "object.__ne__")))
    (run : wpAny M A (call (.builtin "object.__ne__") (.ref x :: rest)) (fun r => Q (some r)) E s) : wpAny M A (callSpecialIfBound? (.ref x) "__ne__" rest) Q E s := by
  simp only [callSpecialIfBound?, bindSpecialIfBound?]
  refine wpAny_holding (wpAny_bind (wpAny_bind (wpAny_bind (J.type.here ((PySem.W.looks_findIn kin hn).here ?_)))))
  refine wpAny_bind (wpAny_askSetting (wpAny_ite ?_))
  have last : wpAny M A (call (.builtin "object.__ne__") ([.ref x] ++ rest) >>= fun r => pure (some r)) Q E s := wpAny_bind (wpAny_mono run (fun r s1 h1 => wpAny_pure h1) fun _ _ h1 => h1)
  split
  · exact wpAny_bind (wpAny_of_eq (F.cmp_object.ne.bind _) (wpAny_pure (by exact last)))
  · exact wpAny_tryCatch (wpAny_bind (wpAny_of_eq (F.cmp_object.ne.bind _) (wpAny_pure (by exact last))))
theorem objNe_run {y : Addr} {Q : Fin → Shared → Prop} (hu : A.units < cLine) (kin : K.In s.heap) (J : PySem.W.InstAt s.heap x ox C od) (hs : PySem.W.findIn K (.ref C) "__eq__" = some (some (.ref f))) (hf : PySem.W.isFn K (.ref f) = true)
    (run : wpAny (model prog w) A (call (.ref f) [.ref x, .ref y]) (fun v s1 => ∃ b, v = .bool b ∧ Q (.done (.ret (.bool (!b)))) s1) E s) : wpAny (model prog w) A (Builtin.«object.__ne__» ⟨[.ref x, .ref y], []⟩) Q E s := by
  unfold Builtin.«object.__ne__»
  refine wpAny_bind (m := slotArgs "__ne__" 1 _) (wpAny_pure ?_)
  refine wpAny_bind (m := cRoomFor _ _) (wpAny_cRoomFor hu ?_)
  refine wpAny_bind (m := callSpecialIfBound? (.ref x) (Str.ofString "__eq__") _) (PySem.W.ifBound_K kin J hs hf (wpAny_mono run (fun r s1 h1 => ?_) fun _ _ z => z))
  obtain ⟨b, rfl, q⟩ := h1
  exact wpAny_bind (wpAny_truthy_bool (wpAny_pure q))
end
section
variable {X : Cx} {CX : CXT} {k : Nat} {f C : Addr} {fd : FuncData} {ps : List Str} {sp : Sp} {E : XK}
/-- a def run somewhere below the body -/
theorem run_sub {A : Around} (F : FnOk X.prog X.w X.K X.mg X.base CX k f fd ps sp) (sb : Sub X k A) (hb : Binds X.K fd ps []) (hx : Passes CX X E) {pins : List (Addr × Obj)} {σ : L2.St} {H : Hp} {s : Shared} {vs : List V} {us : List Value} {Q : VK}
    (I : Inv X pins σ H s) (r : Vals vs us) (h : sp vs H Q E) : wpAny (model X.prog X.w) A (call (.ref f) us) (EP X pins σ Q) X.xe s := by
  have e0 : Env0 X.prog X.w X.K X.mg X.base A X.stack s H := by
    have e := I.env0
    exact ⟨by rw [sb.fr]; exact e.frames, e.mod, e.bs, e.bsz, e.funs, e.frf, e.hok, e.bare⟩
  have hl : (us ++ []).length = ps.length := by rw [List.append_nil, ← r.length]; exact F.len _ _ _ _ h
  refine wpAny_call (codeAny_mono (F.run A X.stack s H ⟨us, []⟩ us vs Q E sb.room e0 (by
    have := hb s us I.kIn hl
    simpa using this) r h) fun r s' hq => ?_)
  cases r with
  | error e => exact hx pins σ H s e s' I hq
  | ok fl =>
    cases fl with
    | ret u => exact I.after hq
    | next => exact False.elim hq
    | brk => exact False.elim hq
    | cont => exact False.elim hq
theorem sub0 (hr : Room k X.A) : Sub X k X.A := ⟨hr, rfl⟩
theorem sub1 (hr : Room (k + 1) X.A) : Sub X k X.A.in1 := Sub.in1 ⟨hr, rfl⟩
theorem sub2 (hr : Room (k + 2) X.A) : Sub X k X.A.in1.in1 := Sub.in1 (Sub.in1 (n := k + 1) ⟨hr, rfl⟩)

/-- x == y of two instances of the class at C by its own __eq__ -/
def rEqI (C : Addr) (sp : Sp) (E : XK) : R2 := fun x y H Q => ∃ a b dx dy fs gs, x = .ref a ∧ y = .ref b ∧ H a = some (.ins C dx fs) ∧ H b = some (.ins C dy gs) ∧ sp [x, y] H (fun v H' => ∃ b, v = .bl b ∧ Q (.bl b) H') E
theorem op_eqI (F : FnOk X.prog X.w X.K X.mg X.base CX k f fd ps sp) (hr : Room k X.A) (hs : PySem.W.findIn X.K (.ref C) "__eq__" = some (some (.ref f))) (hf : PySem.W.isFn X.K (.ref f) = true) (hb : Binds X.K fd ps []) (hx : Passes CX X E) :
    OpR X (compareOp .Eq) (rEqI C sp E) := by
  intro pins s σ H x y v u Q I rx ry h
  obtain ⟨a, b, dx, dy, fs, gs, rfl, rfl, ha, hb', hq⟩ := h
  cases rx
  cases ry
  obtain ⟨mA, J, _⟩ := ins_get I.hok ha
  obtain ⟨mB, J', _⟩ := ins_get I.hok hb'
  obtain ⟨od, J, _⟩ := J.look
  obtain ⟨od', J', _⟩ := J'.look
  obtain ⟨m, hF⟩ := I.fr
  show wpAny (model X.prog X.w) X.A (richCompare .Eq (.ref a) (.ref b)) _ _ s
  refine PySem.W.cmp_K (op := .Eq) (tb := .ref C) hr.units0 hF I.ok.mod.kin J J'.type (by simp [PySem.W.notFirst]) hs hf ?_
  refine wpAny_mono (run_sub F (sub0 hr) hb hx I (vs := [.ref a, .ref b]) (us := [.ref a, .ref b]) (.cons rfl (.cons rfl .nil)) hq) (fun v s' hv => ?_) fun _ _ z => z
  obtain ⟨z, H', I', rz, c, rfl, q⟩ := hv
  cases rz
  exact ⟨.bl c, H', I', rfl, q⟩

/-- str(x) by the class's own __str__ -/
def rStrI (C : Addr) (sp : Sp) (E : XK) : List V → Hp → VK → Prop := fun xs H Q => ∃ a dx fs, xs = [.ref a] ∧ H a = some (.ins C dx fs) ∧ sp [.ref a] H (fun v H' => ∃ z, v = .str z ∧ Q (.str z) H') E
theorem call_strI (F : FnOk X.prog X.w X.K X.mg X.base CX k f fd ps sp) (hr : Room (k + 2) X.A) (hs : PySem.W.findIn X.K (.ref C) "__str__" = some (some (.ref f))) (hf : PySem.W.isFn X.K (.ref f) = true) (hb : Binds X.K fd ps []) (hx : Passes CX X E) :
    CallR X (.type "str") (rStrI C sp E) := by
  intro pins s σ H xs us Q I r h
  obtain ⟨a, dx, fs, rfl, ha, hq⟩ := h
  obtain ⟨u, rfl, rx⟩ := vals1 r
  cases rx
  obtain ⟨mA, J, _⟩ := ins_get I.hok ha
  obtain ⟨od, J, _⟩ := J.look
  refine PySem.W.kso_call (sub2 hr).room.units0 I.kIn J hs hf ?_
  refine wpAny_mono (run_sub F (sub2 hr) hb hx I (vs := [.ref a]) (us := [.ref a]) (.cons rfl .nil) hq) (fun v s' hv => ?_) fun _ _ z => z
  obtain ⟨z, H', I', rz, c, rfl, q⟩ := hv
  obtain ⟨t, rfl⟩ := rz
  exact ⟨.str c, H', I', ⟨t, rfl⟩, q⟩
/-- x != y of two instances of the class at C, by its own __eq__ and object's __ne__ -/
def rNeI (C : Addr) (sp : Sp) (E : XK) : R2 := fun x y H Q => ∃ a b dx dy fs gs, x = .ref a ∧ y = .ref b ∧ H a = some (.ins C dx fs) ∧ H b = some (.ins C dy gs) ∧ sp [x, y] H (fun v H' => ∃ b, v = .bl b ∧ Q (.bl (!b)) H') E
theorem op_neI (F0 : FnOk X.prog X.w X.K X.mg X.base CX k f fd ps sp) (hr : Room (k + 1) X.A) (hs : PySem.W.findIn X.K (.ref C) "__eq__" = some (some (.ref f))) (hn : PySem.W.findIn X.K (.ref C) "__ne__" = some (some (.builtin "object.__ne__")))
    (hm : PySem.W.mroIn X.K C (.type "object") = some true) (hf : PySem.W.isFn X.K (.ref f) = true) (hb : Binds X.K fd ps []) (hx : Passes CX X E) :
    OpR X (compareOp .NotEq) (rNeI C sp E) := by
  intro pins s σ H x y v u Q I rx ry h
  obtain ⟨a, b, dx, dy, fs, gs, rfl, rfl, ha, hb', hq⟩ := h
  cases rx
  cases ry
  obtain ⟨mA, J, _⟩ := ins_get I.hok ha
  obtain ⟨mB, J', _⟩ := ins_get I.hok hb'
  obtain ⟨od, J, _⟩ := J.look
  obtain ⟨od', J', _⟩ := J'.look
  obtain ⟨m, hF⟩ := I.fr
  have hu := hr.units
  show wpAny (model X.prog X.w) X.A (richCompare .NotEq (.ref a) (.ref b)) _ _ s
  unfold richCompare
  simp only [oneThing_ref]
  refine wpAny_holding (wpAny_bind (wpAny_cRoomFor hr.units0 ?_))
  rw [cmpInfo_NotEq]
  dsimp only
  refine wpAny_bind (J.type.here (wpAny_bind (J'.type.here ?_)))
  rw [show (Value.ref C != Value.ref C) = false from by simp]
  simp only [Bool.false_eq_true, if_false]
  refine wpAny_bind (wpAny_pure ?_)
  simp only [Bool.false_eq_true, if_false]
  simp only [tryCompare]
  refine wpAny_bind (wpAny_bind (bound_ne I.kIn J hn (wpAny_call (codeAny_call_builtin F.cmp_object.ne.plain F.cmpEntry_ne (PySem.W.check_slot F.cmpKind_ne F.cmpSplit_ne (J.type.andThen (PySem.W.looks_mroIn I.kIn hm)) (F.cmpArgs_ne _ _) ?_)))))
  refine objNe_run (by show X.A.units + 1 < cLine; omega) I.kIn J hs hf (wpAny_mono (run_sub F0 (sub1 hr) hb hx I (vs := [.ref a, .ref b]) (us := [.ref a, .ref b]) (.cons rfl (.cons rfl .nil)) hq) (fun v s' hv => ?_) fun _ _ z => z)
  obtain ⟨z, H', I', rz, c, rfl, q⟩ := hv
  cases rz
  exact ⟨c, rfl, wpAny_pure (wpAny_pure ⟨.bl (!c), H', I', rfl, q⟩)⟩
/-- x[i] of an instance of the class at C, by its own __getitem__ -/
def rIxI (C : Addr) (sp : Sp) (E : XK) : R2 := fun x y H Q => ∃ a dx fs, x = .ref a ∧ H a = some (.ins C dx fs) ∧ sp [x, y] H Q E
theorem pe_ixI {e i : Expr} {pos : Pos} {ta tb : TE} (F0 : FnOk X.prog X.w X.K X.mg X.base CX k f fd ps sp) (hr : Room (k + 1) X.A) (hs : PySem.W.findIn X.K (.ref C) "__getitem__" = some (some (.ref f))) (hfn : PySem.W.fnIn X.K f = true) (hf : PySem.W.isFn X.K (.ref f) = true)
    (hb : Binds X.K fd ps []) (hx : Passes CX X E) (he : PE X e ta) (hi : PE X i tb) (hsl : ∀ (a : Addr) (v : Value), subscripted i true (.ref a) v = runValue (.builtin "lifetime.subscript" ⟨[.ref a, v], []⟩) := by intro _ _; with_unfolding_all rfl) :
    PE X (.Subscript e i pos) (tOp (rIxI C sp E) ta tb) := by
  refine ⟨fun pins s σ H Q I h => ?_⟩
  refine Subscript_ (binT he hi I h fun v u s2 x y H2 I2 rx ry q => ?_)
  obtain ⟨a, dx, fs, rfl, ha, hq⟩ := q
  cases rx
  obtain ⟨mA, J, _⟩ := ins_get I2.hok ha
  obtain ⟨od, J, _⟩ := J.look
  obtain ⟨m, hF⟩ := I2.fr
  exact PySem.W.sub_K hF I2.ok.mod.kin J hs hfn hf (run_sub F0 (sub1 hr) hb hx I2 (vs := [.ref a, y]) (us := [.ref a, u]) (.cons rfl (.cons ry .nil)) hq) (hsl a u)
end
/-! ### what is walked is a list or a tuple -/
section
variable {X : Cx}
theorem pi_alt {tg it : Expr} {w1 w2 : TI} (h1 : PI X tg it w1) (h2 : PI X tg it w2) : PI X tg it (fun σ H R => w1 σ H R ∨ w2 σ H R) :=
  ⟨fun pins s σ H R I h => h.elim (h1.run pins s σ H R I) (h2.run pins s σ H R I)⟩
def iBoth (K : PySem.W.Frag) (te : TE) : TI := fun σ H R => iList K te σ H R ∨ iTup K te σ H R
theorem pi_both {tg e : Expr} {te : TE} (he : PE X e te) : PI X tg e (iBoth X.K te) := pi_alt (pi_list he) (pi_tup he)
end
section
open Evl
variable {K : PySem.W.Frag} {σ : L2.St} {H : Hp} {te tl : TE} {D : Ends}
theorem given_all (n : Nat) (v : Nat → V) : given n (fun _ => true) v = (List.range n).map v := by
  unfold given
  rw [List.filter_eq_self.mpr fun _ _ => rfl]
theorem et_yes : EvT tYes σ H true := fun H1 _ _ q => q H1 (Ex.refl H1)
theorem el_lcT {a : Addr} {xs : List V} {j : Nat} {vs : List Nat} (v : Nat → V) (h : Ev tl σ H (.ref a)) (hx : SqT K H a xs) (hz : xs.length ≤ 40000) (hw : ∀ x, wipe ((wipe σ vs).set j (some x)) vs = wipe σ vs)
    (he : ∀ (i : Nat) (x : V) H1, Ex H H1 → xs[i]? = some x → Ev te ((wipe σ vs).set j (some x)) H1 (v i)) : EvL (tLc (iTup K tl) (gName j) tYes te vs) σ H ((List.range xs.length).map v) := fun H0 e Q q => h H0 e _ fun H1 e1 => ⟨a, rfl, ⟨xs, ex_t (e.trans e1) hx⟩, fun L hL =>
  lc_tup (xs := xs) (Cw H1 (fun _ => true) v L) ⟨hL, Ex.new hL, upd_same⟩ (fun i H' _ p => ex_t ((e.trans e1).trans p.2.1) hx)
    (fun i x H' hi p => ⟨hw x, cw_turn p (by have := (List.getElem?_eq_some_iff.mp hi).1; omega) et_yes (fun _ => he i x H1 (e.trans e1) hi)⟩)
    (fun H' p => q L H' (fresh_back e1 p.1) (e1.trans p.2.1) (by rw [← given_all]; exact p.2.2))⟩
theorem el_lcB {a : Addr} {xs : List V} {j : Nat} {vs : List Nat} (v : Nat → V) (h : Ev tl σ H (.ref a)) (hx : SqL K H a xs ∨ SqT K H a xs) (hz : xs.length ≤ 40000) (hw : ∀ x, wipe ((wipe σ vs).set j (some x)) vs = wipe σ vs)
    (he : ∀ (i : Nat) (x : V) H1, Ex H H1 → xs[i]? = some x → Ev te ((wipe σ vs).set j (some x)) H1 (v i)) : EvL (tLc (iBoth K tl) (gName j) tYes te vs) σ H ((List.range xs.length).map v) := fun H0 e Q q => by
  rcases hx with hx | hx
  · refine .inl (el_lcL (f := fun _ => true) (v := v) h hx hz hw (fun _ _ _ _ _ => et_yes) (fun i x H1 e1 hi _ => he i x H1 e1 hi) H0 e Q fun p H2 h1 h2 h3 => q p H2 h1 h2 ?_)
    rw [given_all] at h3
    exact h3
  · exact .inr (el_lcT v h hx hz hw he H0 e Q q)
theorem range_map {α : Type} (xs : List V) (g : V → α) (v : Nat → α) (h : ∀ i x, xs[i]? = some x → v i = g x) : (List.range xs.length).map v = xs.map g := by
  refine List.ext_getElem? fun i => ?_
  rw [List.getElem?_map, List.getElem?_map]
  by_cases hi : i < xs.length
  · rw [List.getElem?_range hi, List.getElem?_eq_getElem hi]
    exact congrArg some (h i _ (List.getElem?_eq_getElem hi))
  · rw [List.getElem?_eq_none (by rw [List.length_range]; omega), List.getElem?_eq_none (by omega)]
    rfl
end
section
open Evl
variable {P : Program} {w : World} {K : PySem.W.Frag} {mg : Str → Option Value} {base : Heap} {σ : L2.St} {H : Hp} {te : TE}
/-- a def with defaults that raises nothing -/
theorem FunD_ok0 {x qual : Str} {params : Arguments} {body : List Stmt} {scope : Scope} {dvs : List V} {kws : List (Str × V)} {f : Addr} {fd : FuncData} {N ps : List Str} {k : Nat} {sp : Sp} (F : FunD K x qual params body scope dvs kws f fd) (S : FnScope N ps scope)
    (len : ∀ vs H Q E, sp vs H Q E → vs.length = ps.length)
    (hbody : ∀ (cdv : Value) (A : Around) (outer : List Env) (s : Shared) (H : Hp) (vs : List V) (Q : VK) (E : XK), Room k (A.deeper (envOfC qual scope s.heap.objs.size f cdv)) → sp vs H Q E →
      ∃ t, PSs (cxOf CX0 P w K mg base N qual scope f cdv A outer s H E).nox body t ∧ t { nx := fun _ H' => Q .non H', rt := Q } (start N vs) H) : FnOk P w K mg base CX0 (k + 1) f fd ps sp :=
  F.ok S len fun cdv A outer s H vs Q E hr hsp => by
    obtain ⟨t, h, q⟩ := hbody cdv A outer s H vs Q E hr hsp
    exact ⟨t, h.nox, q⟩
theorem ev_all {bs : List Bool} (h : EvL te σ H (bs.map V.bl)) : Ev (tCB (rAll K) (tCons te tNil)) σ H (.bl (bs.all id)) := fun H1 e _ q =>
  h H1 e _ fun p H2 _ e2 hp => ⟨p, bs, rfl, sq_of hp, q H2 e2⟩
/-- a promise of one value, as an evaluation -/
theorem ev_call {sp : Sp} {ta : TA} {vs : List V} {v : V} (ha : EvA ta σ H vs) (h : ∀ H1, Ex H H1 → ∀ Q : VK, (∀ H2, Ex H1 H2 → Q v H2) → sp vs H1 Q E0) : Ev (tCall sp [] E0 ta) σ H v := fun H1 e Q q =>
  ha H1 e _ fun H2 e2 => by
    rw [List.append_nil]
    exact h H2 (e.trans e2) Q fun H3 e3 => q H3 (e2.trans e3)
theorem all_true (n : Nat) : (List.replicate n true).all id = true := by
  rw [List.all_eq_true]
  intro x hx
  exact (List.mem_replicate.mp hx).2
theorem range_true (n : Nat) : (List.range n).map (fun _ => V.bl true) = (List.replicate n true).map V.bl := by
  rw [List.map_const', List.length_range, List.map_replicate]
end
/-- tuple(x) of a list or a tuple: some tuple of the same items -/
def rTupAny (K : PySem.W.Frag) : List V → Hp → VK → Prop := fun xs H Q => ∃ p ys, xs = [.ref p] ∧ (SqL K H p ys ∨ SqT K H p ys) ∧ ∀ a H', Evl.Ex H H' → SqT K H' a ys → Q (.ref a) H'
theorem call_tuple_any {X : Cx} : CallR X (.type "tuple") (rTupAny X.K) := fun pins s σ H xs us Q I r h => by
  obtain ⟨p, ys, e, h1, h2⟩ := h
  refine call_tuple_of pins s σ H xs us Q I r ⟨p, ys, e, ?_⟩
  rcases h1 with h1 | h1
  · exact .inl ⟨h1, fun l hl => h2 l _ (Evl.Ex.new hl) (Evl.st_of upd_same)⟩
  · exact .inr ⟨h1, h2 p H (Evl.Ex.refl H) h1⟩
/-! ### tuples of texts compared -/
section
open Evl
theorem dp_strs {K : PySem.W.Frag} {H : Hp} : ∀ l : List Str, DpAll K H (l.map V.str) (l.map PyData.str)
  | [] => .nil
  | n :: r => .cons (.str n) (dp_strs r)
/-- texts of plain signs -/
def Plain (l : List Str) : Prop := ∀ x ∈ l, PyData.canLay0 (.str x) = true
theorem canLay_strs : ∀ l : List Str, Plain l → PyData.canLayAll0 (l.map PyData.str) = true
  | [], _ => rfl
  | n :: r, h => by
    show (PyData.canLay0 (.str n) && PyData.canLayAll0 (r.map PyData.str)) = true
    rw [canLay_strs r fun x hx => h x (List.mem_cons_of_mem _ hx), h n (List.mem_cons_self ..)]
    rfl
theorem depth_strs : ∀ l : List Str, PyData.depthAll (l.map PyData.str) = 0
  | [] => rfl
  | n :: r => by
    show max (PyData.depth (.str n)) (PyData.depthAll (r.map PyData.str)) = 0
    rw [depth_strs r]
    rfl
theorem shaped_strsT (l : List Str) (ok : Plain l) : SeqAt.shaped (.tuple (l.map PyData.str)) = true := by
  show (PyData.canLay0 (.tuple (l.map PyData.str)) && decide ((PyData.tuple (l.map PyData.str)).depth ≤ 64)) = true
  have h1 : PyData.canLay0 (.tuple (l.map PyData.str)) = true := canLay_strs l ok
  have h2 : (PyData.tuple (l.map PyData.str)).depth = 0 + 1 := by
    show PyData.depthAll (l.map PyData.str) + 1 = 0 + 1
    rw [depth_strs]
  rw [h1, h2]
  rfl
theorem shaped_strsL (l : List Str) (ok : Plain l) : SeqAt.shaped (.list (l.map PyData.str)) = true := by
  show (PyData.canLay0 (.list (l.map PyData.str)) && decide ((PyData.list (l.map PyData.str)).depth ≤ 64)) = true
  have h1 : PyData.canLay0 (.list (l.map PyData.str)) = true := canLay_strs l ok
  have h2 : (PyData.list (l.map PyData.str)).depth = 0 + 1 := by
    show PyData.depthAll (l.map PyData.str) + 1 = 0 + 1
    rw [depth_strs]
  rw [h1, h2]
  rfl
theorem eqvAll_strs : ∀ l m : List Str, PyData.eqvAll (l.map PyData.str) (m.map PyData.str) = decide (l = m)
  | [], [] => rfl
  | [], _ :: _ => rfl
  | _ :: _, [] => rfl
  | x :: l, y :: m => by
    show (x == y && PyData.eqvAll (l.map PyData.str) (m.map PyData.str)) = decide (x :: l = y :: m)
    rw [eqvAll_strs l m]
    by_cases h : x = y
    · subst h
      by_cases h2 : l = m
      · subst h2
        simp
      · simp [h2]
    · simp [h]
theorem eqv_strsT (l m : List Str) : PyData.eqv (.tuple (l.map PyData.str)) (.tuple (m.map PyData.str)) = decide (l = m) := eqvAll_strs l m
theorem eqv_strsL (l m : List Str) : PyData.eqv (.list (l.map PyData.str)) (.list (m.map PyData.str)) = decide (l = m) := eqvAll_strs l m
theorem rv_eqT {K : PySem.W.Frag} {H : Hp} {a b : Addr} {l m : List Str} (ol : Plain l) (om : Plain m) (ha : SqT K H a (l.map V.str)) (hb : SqT K H b (m.map V.str)) : RV (rEqD K) (.ref a) (.ref b) H (.bl (decide (l = m))) := fun H1 e _ q =>
  ⟨_, _, .tup (ex_t e ha) (dp_strs l), .tup (ex_t e hb) (dp_strs m), shaped_strsT l ol, shaped_strsT m om, by rw [eqv_strsT]; exact q H1 (Ex.refl H1)⟩
theorem rv_neT {K : PySem.W.Frag} {H : Hp} {a b : Addr} {l m : List Str} (ol : Plain l) (om : Plain m) (ha : SqT K H a (l.map V.str)) (hb : SqT K H b (m.map V.str)) : RV (rNeD K) (.ref a) (.ref b) H (.bl (!decide (l = m))) := fun H1 e _ q =>
  ⟨_, _, .tup (ex_t e ha) (dp_strs l), .tup (ex_t e hb) (dp_strs m), shaped_strsT l ol, shaped_strsT m om, by rw [eqv_strsT]; exact q H1 (Ex.refl H1)⟩
theorem ev_fld {K : PySem.W.Frag} {σ : L2.St} {H : Hp} {ta : TE} {a C dx : Addr} {fs : List (Str × V)} {f : Str} {v : V} (ha : Ev ta σ H (.ref a)) (ho : H a = some (.ins C dx fs)) (hc : Cls K C) (hn : NoAttr K C f) (hl : fs.lookup f = some v) :
    Ev (tFld K ta f) σ H v := fun H1 e _ q => ha H1 e _ fun H2 e2 => ⟨a, C, dx, fs, v, rfl, e2 _ _ (e _ _ ho), hc, hn, hl, q H2 e2⟩
theorem ev_isi {K : PySem.W.Frag} {σ : L2.St} {H : Hp} {ta : TA} {x c : V} {t u : Value} {b : Bool} (h : EvA ta σ H [x, c]) (k : ClsV c u) (ty : ∀ H1, Ex H H1 → TyX K H1 x t) (e : PySem.W.kitOne K t u = some b) : Ev (tCB (rIsi K) ta) σ H (.bl b) := fun H1 e1 _ q =>
  h H1 e1 _ fun H2 e2 => ⟨x, c, t, u, b, rfl, k, ty H2 (e1.trans e2), e, q H2 e2⟩
end
section
open Evl
variable {K : PySem.W.Frag} {σ : L2.St} {H : Hp} {ta tb to te : TE}
theorem ev_adds {x y : Str} (ha : Ev ta σ H (.str x)) (hb : Ev tb σ H (.str y)) (hz : x.length + y.length ≤ sizeLine) : Ev (tOp (fun x y H Q => ∃ i j, x = V.str i ∧ y = V.str j ∧ i.length + j.length ≤ sizeLine ∧ Q (V.str (i ++ j)) H) ta tb) σ H (.str (x ++ y)) :=
  ev_op ha hb fun H1 _ _ q => ⟨x, y, rfl, rfl, hz, q H1 (Ex.refl H1)⟩
theorem ev_join {x : Str} {a : Addr} {l : List Str} (ho : Ev to σ H (.str x)) (he : Ev te σ H (.ref a)) (hl : SqL K H a (l.map V.str) ∨ SqT K H a (l.map V.str)) (hz : (l.map (·.length)).sum + l.length * x.length ≤ 16777216) :
    Ev (tM1 (fun x xs H Q => ∃ a p, ∃ ys : List Str, x = .str a ∧ xs = [.ref p] ∧ (SqL K H p (ys.map V.str) ∨ SqT K H p (ys.map V.str)) ∧ (ys.map (·.length)).sum + ys.length * a.length ≤ 16777216 ∧ Q (.str (Txt.join a ys)) H) to te) σ H (.str (Str.join x l)) := fun H1 e Q q => by
  refine ho H1 e _ fun H2 e2 => ⟨⟨x, rfl⟩, he H2 (e.trans e2) _ fun H3 e3 => ⟨x, a, l, rfl, rfl, hl.imp (ex_l ((e.trans e2).trans e3)) (ex_t ((e.trans e2).trans e3)), hz, ?_⟩⟩
  rw [TL.join_eq]
  exact q H3 (e2.trans e3)
theorem ev_ixT {p : Addr} {xs : List V} {j : Nat} {v : V} (ha : Ev ta σ H (.ref p)) (hb : Ev tb σ H (.int (j : Int))) (hx : SqT K H p xs) (hj : xs[j]? = some v) : Ev (tOp (rIxT K) ta tb) σ H v := ev_op ha hb (rv_ixT hx (atI_nat hj))
end
/-! ### sorted of a list or a tuple of texts -/
section
variable {X : Cx}
def rSortedB (K : PySem.W.Frag) : List V → Hp → VK → Prop := fun vs H Q => ∃ (a : Addr) (xs : List Str), vs = [V.ref a] ∧ (SqL K H a (xs.map V.str) ∨ SqT K H a (xs.map V.str)) ∧ xs.length < 64 ∧ ∀ (ys : List Str) (p : Addr), ys.Perm xs → sortedS ys = true → H p = none → Q (.ref p) (upd H p (.lst (ys.map V.str)))
theorem cr_sortedB : CallR X (.builtin "sorted") (rSortedB X.K) := by
  intro pins s σ H vs us Q I r h
  obtain ⟨a, xs, rfl, hs, h64, q⟩ := h
  rw [Vals.ref1 r]
  obtain ⟨its, T, o, n, rv, hT, ho, hc, hd⟩ : ∃ (its : List Value) (T : String) (o : Obj) (n : Nat), Vals (xs.map V.str) its ∧ (T = "list" ∨ T = "tuple") ∧ s.heap.get? a = some o ∧ o.cls = .type T ∧ o.data = .seq its.toArray n := by
    rcases hs with hs | hs
    · obtain ⟨its, r', pl, _⟩ := I.list hs
      obtain ⟨o, ho, hc, n, hd⟩ := pl.isList
      exact ⟨its, "list", o, n, r', .inl rfl, ho, hc, hd⟩
    · obtain ⟨its, r', ⟨o, ho, hc, n, hd⟩, _⟩ := I.tuple hs
      exact ⟨its, "tuple", o, n, r', .inr rfl, ho, hc, hd⟩
  have hl : its.length = xs.length := by
    have := rv.length
    rw [List.length_map] at this
    exact this.symm
  have hS := rv.strs
  refine Calls.call_function_entry PyProof.Rows.kind_sorted PyProof.Rows.plain_sorted PyProof.Rows.entry_sorted (PyProof.Rows.args_sorted1 _) ?_
  unfold Builtin.«sorted»
  refine wpAny_bind (m := checkCount "sorted" 1 1 _) (wpAny_pure ?_)
  refine wpAny_bind (wpAny_collect_seq a hT ho hc hd (fun h' hk => ?_) (by rw [List.size_toArray, hl, sizeLine_eq]; omega))
  have I1 : Inv X pins σ H { s with heap := h' } := I.kept (t' := s.toks) hk
  show wpAny _ _ _ _ _ { s with heap := h' }
  have eT : its.toArray.toList = its := by simp
  rw [eT]
  refine wpAny_bind (wpAny_newList ?_ (by rw [hl, sizeLine_eq]; omega))
  have hoL : (h'.push (seqObj "list" its.toArray 0)).get? h'.objs.size = some (seqObj "list" its.toArray 0) := Heap.get?_push_size _ rfl
  show wpAny _ _ _ _ _ { s with heap := h'.push (seqObj "list" its.toArray 0) }
  refine wpAny_bind (wpAny_holding (wpAny_call_entry PyProof.Rows.slot_list_sort ⟨_, hoL, rfl⟩ PyProof.Rows.entry_list_sort
    (list_sort_treeK strKind_oneLt (s := { s with heap := h'.push (seqObj "list" its.toArray 0) }) hoL hS.keysOf (fun v₁ v₂ rest e => keyKind_strs (by rw [← e]; exact hS)) (by rw [hl]; exact h64) fun st' hp hs => ⟨_, rfl, ?_⟩)
    (PyProof.Rows.args_list_sort _)))
  obtain ⟨ys, g1, g2, g3⟩ := sorted_out_str hS hp hs
  obtain ⟨e', he'⟩ := PyProof.Rows.sortedHeap_at (vs := its) (out := (arrOf st').map (·.2)) hoL
  have hlen : (ys.map V.str).length ≤ sizeLine := by
    rw [List.length_map, g2.length_eq]
    exact Nat.le_trans (Nat.le_of_lt h64) (by decide)
  refine wpAny_pure ⟨_, rfl, .ref h'.objs.size, upd H h'.objs.size (.lst (ys.map V.str)), I1.laid (t' := s.toks) (fun b u e => ?_) (Nat.le_refl _)
    (show ObjOk X.prog X.w _ _ _ (.lst (ys.map V.str)) from ⟨hlen, ((arrOf st').map (·.2)).toList, e', vals_of_strs g1, by rw [Array.toArray_toList]; exact he'⟩), rfl, q ys _ g2 g3 (I1.hok.fresh (Nat.le_refl _))⟩
  have hb : b < h'.objs.size := Heap.lt_size e
  rw [PyProof.Rows.sortedHeap_old (Nat.ne_of_lt hb) (by rw [size_push']; exact Nat.lt_succ_of_lt hb)]
  exact Heap.get?_push_of_some _ e
end
end Ov

namespace Ov
open PySem PySem.Spec PyProof.Rows L2
/-! ### t[::-1] of a tuple, the step told by an expression -/
section
variable {prog : Program} {w : World} {A : Around} {E : Value → Shared → Prop} {s : Shared}
theorem cut_back {sl : Addr} {vl vu vs : Value} {n : Nat} {Q : Int × Int × Nat → Shared → Prop} (hs : s.heap.IsSliceOf sl vl vu vs) (pl : IsPart vl none) (pu : IsPart vu none) (ps : IsPart vs (some (-1))) (h : Q ((n : Int) - 1, -1, n) s) :
    wpAny (model prog w) A (Builtin.Slice.sliceApplied (.ref sl) (pure (n : Int))) Q E s := by
  obtain ⟨os, hos, hcs, hds⟩ := id hs
  unfold Builtin.Slice.sliceApplied Builtin.Slice.sliceFields
  refine wpAny_bind (wpAny_bind (wpAny_field hos hds (x := vl) rfl (wpAny_bind (wpAny_field hos hds (x := vu) rfl (wpAny_bind (wpAny_field hos hds (x := vs) rfl (wpAny_pure ?_)))))))
  refine wpAny_bind (HT.slicePart_ ps ?_)
  show wpAny _ _ (if ((-1 : Int) == 0) = true then _ else _) _ _ s
  rw [if_neg (by decide)]
  refine wpAny_bind (HT.slicePart_ pl (wpAny_bind (HT.slicePart_ pu (wpAny_bind (wpAny_pure ?_)))))
  have e1 : Builtin.Slice.sliceAdjust none none (-1) (n : Int) = ((n : Int) - 1, -1) := rfl
  have e2 : Builtin.Slice.slicePlaces ((n : Int) - 1) (-1) (-1) = n := by
    unfold Builtin.Slice.slicePlaces
    rw [if_neg (by decide)]
    by_cases h0 : n = 0
    · subst h0
      decide
    · rw [if_pos (by omega)]
      have e3 : (-(-1) : Int) = 1 := by decide
      rw [e3, Int.ediv_one]
      omega
  show wpAny _ _ (match Builtin.Slice.sliceAdjust none none (-1) (n : Int) with | (lo, hi) => pure (lo, (-1 : Int), Builtin.Slice.slicePlaces lo hi (-1))) _ _ s
  rw [e1]
  show wpAny _ _ (pure ((n : Int) - 1, (-1 : Int), Builtin.Slice.slicePlaces ((n : Int) - 1) (-1) (-1))) _ _ s
  rw [e2]
  exact wpAny_pure h
theorem fm_range {α : Type} {f : Nat → Option α} {g : Nat → α} : ∀ {n : Nat}, (∀ m, m < n → f m = some (g m)) → (List.range n).filterMap f = (List.range n).map g
  | 0, _ => rfl
  | n + 1, h => by
    rw [List.range_succ, List.filterMap_append, List.map_append, fm_range fun m hm => h m (by omega)]
    congr 1
    show List.filterMap f [n] = [g n]
    rw [List.filterMap_cons, h n (by omega)]
    rfl
theorem pick_back (xs : Array Value) : ((List.range xs.size).filterMap fun (m : Nat) => xs[((xs.size : Int) - 1 + (m : Int) * -1).toNat]?).toArray = xs.toList.reverse.toArray := by
  have e : (List.range xs.size).filterMap (fun (m : Nat) => xs[((xs.size : Int) - 1 + (m : Int) * -1).toNat]?) = (List.range xs.size).map fun m => (xs.toList.reverse)[m]?.getD .none := by
    refine fm_range fun m hlt => ?_
    have e1 : ((xs.size : Int) - 1 + (m : Int) * -1).toNat = xs.size - 1 - m := by omega
    rw [e1]
    have h1 : xs.size - 1 - m < xs.size := by omega
    have h2 : m < xs.toList.reverse.length := by rw [List.length_reverse, Array.length_toList]; exact hlt
    rw [Array.getElem?_eq_getElem h1]
    show some xs[xs.size - 1 - m] = some (xs.toList.reverse[m]?.getD .none)
    rw [List.getElem?_eq_getElem h2, Option.getD_some, List.getElem_reverse]
    simp
  rw [e]
  congr 1
  refine List.ext_getElem? fun i => ?_
  rw [List.getElem?_map]
  by_cases hi : i < xs.size
  · have h2 : i < xs.toList.reverse.length := by rw [List.length_reverse, Array.length_toList]; exact hi
    rw [List.getElem?_range hi]
    show some (xs.toList.reverse[i]?.getD .none) = _
    rw [List.getElem?_eq_getElem h2, Option.getD_some]
  · rw [List.getElem?_eq_none (by rw [List.length_range]; omega), List.getElem?_eq_none (by rw [List.length_reverse, Array.length_toList]; omega)]
    rfl
theorem getItem_back {t sl : Addr} {items : Array Value} {vl vu vs : Value} {Q : Value → Shared → Prop} (ht : IsTup s.heap t items) (hs : s.heap.IsSliceOf sl vl vu vs) (pl : IsPart vl none) (pu : IsPart vu none) (ps : IsPart vs (some (-1)))
    (h : Q (.ref s.heap.objs.size) { s with heap := s.heap.push { cls := .type "tuple", data := .seq items.toList.reverse.toArray } }) (hsz : items.size ≤ sizeLine) : wpAny (model prog w) A (getItem (.ref t) (.ref sl)) Q E s := by
  obtain ⟨os, hos, hcs, hds⟩ := id hs
  have hTs : s.TypeIs (.ref sl) "slice" := ⟨os, hos, hcs⟩
  have hok : sizeOk (.seq items.toList.reverse.toArray) := by
    show items.toList.reverse.toArray.size ≤ sizeLine
    rw [List.size_toArray, List.length_reverse, Array.length_toList]
    exact hsz
  unfold getItem
  try with_reducible refine wpAny_holding ?_
  first | refine wpAny_bind (wpAny_pure ?_) | skip
  refine wpAny_bind (wpAny_sequenceKey ht.typeIs (by decide) ?_)
  refine wpAny_bind (wpAny_callSpecial?_slot (name := Str.ofString "__getitem__") ht.typeIs PyProof.Rows.slot_tuple_getitem
    (wpAny_call_entry PyProof.Rows.slot_tuple_getitem ht.typeIs PyProof.Rows.entry_tuple_getitem ?_ (PyProof.Rows.args_tuple_getitem _ _)))
  show wpAny _ _ (Builtin.Tuple.tupleItemsOf (.ref t) >>= _) _ _ s
  refine wpAny_bind (tupleItemsOf_ ht (wpAny_bind (wpAny_typeOf hTs ?_)))
  rw [if_pos (by decide)]
  refine wpAny_bind (cut_back hs pl pu ps ?_)
  have hno : ¬ ((((items.size : Int) - 1) == 0 && (-1 : Int) == 1 && items.size == items.size) = true) := by
    intro q
    rw [Bool.and_eq_true, Bool.and_eq_true] at q
    exact absurd q.1.2 (by decide)
  show wpAny _ _ (if (((items.size : Int) - 1) == 0 && (-1 : Int) == 1 && items.size == items.size) = true then _ else _) _ _ s
  rw [if_neg hno, pick_back]
  first
    | exact wpAny_bind (m := Builtin.Tuple.tupleExact _) (wpAny_newObj_type (wpAny_pure ⟨_, rfl, wpAny_pure h⟩) hok)
    | exact wpAny_bind (m := Builtin.Tuple.tupleExact _) (wpAny_newObj_type (wpAny_bind (wpAny_pure (wpAny_pure ⟨_, rfl, wpAny_pure h⟩))) hok)
    | exact wpAny_bind (wpAny_bind (m := Builtin.Tuple.tupleExact _) (wpAny_newObj_type (wpAny_pure (wpAny_pure ⟨_, rfl, wpAny_pure h⟩)) hok))
    | exact wpAny_bind (wpAny_bind (m := Builtin.Tuple.tupleExact _) (wpAny_newObj_type (wpAny_pure ⟨_, rfl, wpAny_pure h⟩) hok))
end
section
variable {X : Cx}
def tBackT (K : PySem.W.Frag) (te ts : TE) : TE := fun σ H Q => te σ H fun x H1 => ts σ H1 fun y H2 => ∃ i, y = .int i ∧ some i = some (-1 : Int) ∧ ∃ a xs, x = .ref a ∧ SqT K H2 a xs ∧ ∀ p, H2 p = none → Q (.ref p) (upd H2 p (.tup xs.reverse))
theorem pe_backT {e st : Expr} {te ts : TE} {p3 pos : Pos} (he : PE X e te) (hs : PE X st ts) (hty : ∀ v i, subscripted (.Slice none none (some st) p3) false v i = operate [v, i] (getItem v i) := by intro _ _; rfl) :
    PE X (.Subscript e (.Slice none none (some st) p3) pos) (tBackT X.K te ts) := by
  refine ⟨fun pins s σ H Q I h => ?_⟩
  refine Subscript_ (thn (he.run pins s σ H _ I h) fun v s1 ⟨x, H1, I1, r1, q1⟩ => ?_)
  refine wpAny_Slice (thn (po_none.run pins s1 σ H1 (fun o H2 => o = none ∧ H2 = H1) I1 ⟨rfl, rfl⟩) fun vl s2 ⟨l, H2, I2, pl, el, e2⟩ => ?_)
  subst el e2
  refine thn (po_none.run pins s2 σ H2 (fun o H3 => o = none ∧ H3 = H2) I2 ⟨rfl, rfl⟩) fun vu s3 ⟨u, H3, I3, pu, eu, e3⟩ => ?_
  subst eu e3
  refine thn ((po_some hs).run pins s3 σ H3 (fun o H4 => o = some (-1) ∧ ∃ a xs, x = .ref a ∧ SqT X.K H4 a xs ∧ ∀ p, H4 p = none → Q (.ref p) (upd H4 p (.tup xs.reverse))) I3 q1) fun vs s4 ⟨o, H4, I4, ps, eo, a, xs, ex, hx, q⟩ => ?_
  subst eo ex
  cases r1
  have I5 : Inv X pins σ H4 { s4 with heap := s4.heap.push { cls := .type "slice", data := .fields #[vl, vu, vs] } } := I4.kept (t' := s4.toks) fun b ob q => Heap.get?_push_of_some _ q
  obtain ⟨its, r, ht, hz⟩ := I5.tuple hx
  have hlen := r.length
  refine tail_any (ops := [.ref a, .ref s4.heap.objs.size]) ht.typeIs (PyProof.Rows.slot_tuple_getitem.lookup) ?_ (hty _ _)
  refine getItem_back ht (Heap.IsSliceOf.new _ vl vu vs) pl pu ps ?_ (by rw [List.size_toArray]; omega)
  refine ⟨.ref _, _, I5.laid (t' := s4.toks) (o := .tup xs.reverse) (fun b ob q => Heap.get?_push_of_some _ q) (Nat.le_refl _) ?_, rfl, q _ (I5.hok.fresh (Nat.le_refl _))⟩
  exact ⟨by rw [List.length_reverse]; exact hz, _, r.reverse, IsTup.new _ _⟩
end
end Ov


namespace Ov
open PySem PySem.Spec PyProof.Rows L2
/-! ### len(set(xs)) of any texts without twins -/
section
variable {prog : Program} {w : World} {A : Around}
/-- the set at a holds just these texts -/
abbrev HasTexts (prog : Program) (w : World) (h : Heap) (a : Addr) (ts : List Str) : Prop := h.SetOf (strKind prog w) a (fun t => decide (t ∈ ts)) ts.length
theorem has_moved {h h' : Heap} {a : Addr} {ts : List Str} (S : HasTexts prog w h a ts) (k : ∀ o, h.get? a = some o → h'.get? a = some o) : HasTexts prog w h' a ts := by
  obtain ⟨o, es, ep, tb, ho, r⟩ := S
  exact ⟨o, es, ep, tb, k o ho, r⟩
theorem has_more {h : Heap} {a : Addr} {ts : List Str} {t : Str} (no : t ∉ ts) (S : h.SetOf (strKind prog w) a (fun k => decide (k ∈ ts) || decide (k = t)) (if decide (t ∈ ts) = true then ts.length else ts.length + 1)) : HasTexts prog w h a (ts ++ [t]) := by
  refine SetOf_congr S (fun k => ?_) ?_
  · by_cases h1 : k ∈ ts <;> by_cases h2 : k = t <;> simp [h1, h2]
  · simp [no]
theorem take_new {ts : List Str} (nd : ts.Nodup) {i : Nat} {t : Str} (h : ts[i]? = some t) : t ∉ ts.take i ∧ ts.take (i + 1) = ts.take i ++ [t] := by
  have e : ts.take (i + 1) = ts.take i ++ [t] := by rw [List.take_add_one, h]; rfl
  refine ⟨fun z => ?_, e⟩
  have q : (ts.take (i + 1)).Nodup := nd.sublist (List.take_sublist _ _)
  rw [e] at q
  exact (List.nodup_append.mp q).2.2 t z t (List.mem_singleton.mpr rfl) rfl
/-- the loop of set.update over what yields these texts -/
theorem texts_in {I D : Addr} {fp wr : List Addr} {G : Array GenState → Array GenState → Prop} {ts : List Str} {Pv : Nat → Value → Prop} {St : Nat → Shared → Prop} {R : Result → Shared → Prop} (W : WalksS prog w A.in1 I fp wr G ts.length Pv St) (far : D ∉ fp) (nd : ts.Nodup) (few : ts.length < 4000)
    (val : ∀ i v, Pv i v → ∃ x t, ts[i]? = some x ∧ v = .str x t) (m : Nat) : ∀ (i : Nat) (s : Shared), m + i = ts.length → St i s → HasTexts prog w s.heap D (ts.take i) → (∀ s', Moved (D :: wr) G s s' → HasTexts prog w s'.heap D ts → R (.ok (.ret .none)) s') →
      codeAny (model prog w) A (.builtin "set.update.loop" ⟨[.ref D, .ref I], []⟩) R s := by
  have nw : D ∉ wr := fun z => far (W.sub _ z)
  induction m with
  | zero =>
    intro i s e st S k
    obtain rfl : i = ts.length := by omega
    rw [List.take_length] at S
    refine codeAny_builtin F.entry_set_update_loop ?_
    rw [Around.under_plainId F.plain_set_update_loop]
    refine wpAny_bind (m := pyNext (.ref I)) (W.done s _ _ st fun s1 mv => wpAny_pure ?_)
    exact k s1 (mv.mono fun b z => List.mem_cons_of_mem _ z) (has_moved S fun o => mv.heap D o nw)
  | succ m ih =>
    intro i s e st S k
    have lt : i < ts.length := by omega
    refine codeAny_builtin F.entry_set_update_loop ?_
    rw [Around.under_plainId F.plain_set_update_loop]
    refine wpAny_bind (m := pyNext (.ref I)) (W.item i s _ _ lt st fun v s1 pv st1 mv => ?_)
    obtain ⟨x, t, hx, rfl⟩ := val i v pv
    obtain ⟨no, grow⟩ := take_new nd hx
    have S1 : HasTexts prog w s1.heap D (ts.take i) := has_moved S fun o => mv.heap D o nw
    have room : (ts.take i).length + 1 < scanBound := by rw [List.length_take]; unfold scanBound; omega
    refine wpAny_bind (m := holding [Value.str x t] (setAdd D (.str x t))) (wpAny_holding ?_)
    unfold setAdd
    refine wpAny_holding (wpAny_bind ((strKind prog w).pyHash (k := x) (strKind_is _ _ _ _) ?_))
    refine wpAny_setAddHashed_of (s := { s1 with toks := s1.toks + 1 }) (strKind_is _ _ _ _) rfl S1 room fun h2 same S2 => ?_
    have S3 : HasTexts prog w h2 D (ts.take (i + 1)) := by rw [grow]; exact has_more no S2
    have st2 : St (i + 1) { s1 with heap := h2, toks := s1.toks + 1 } := W.frame _ s1 _ _ st1 (Nat.le_succ _) fun b hb o z => by rw [same.2 b fun y : b = D => far (y ▸ hb)]; exact z
    refine wpAny_pure ⟨plainId_quiet F.plain_set_update_loop _, ih (i + 1) _ (by omega) st2 S3 fun s4 mv4 S4 => k s4 ?_ S4⟩
    refine Moved.trans W.gtrans ((mv.mono fun b z => List.mem_cons_of_mem _ z).then_heap (Nat.le_succ _) fun b o nb z => ?_) mv4
    rw [same.2 b fun y : b = D => nb (y ▸ List.mem_cons_self)]
    exact z
theorem text_of {its : List Value} {ts : List Str} (r : StrsAre its ts) {i : Nat} {v : Value} (h : its.toArray[i]? = some v) : ∃ x t, ts[i]? = some x ∧ v = .str x t := by
  rw [List.getElem?_toArray] at h
  have lt : i < ts.length := by
    have := (List.getElem?_eq_some_iff.mp h).1
    rw [r.len_eq] at this
    exact this
  obtain ⟨t, e⟩ := r.at (List.getElem?_eq_getElem lt)
  rw [h] at e
  exact ⟨_, t, List.getElem?_eq_getElem lt, Option.some.inj e⟩
abbrev freshSet (led : Bool) : Obj := { cls := .type "set", dict := none, data := .set #[] 0 (.fresh 0 0 led) }
variable {E : Value → Shared → Prop} {s : Shared}
/-- what set(l) leaves -/
abbrev SetMade (prog : Program) (w : World) (s : Shared) (ts : List Str) (s2 : Shared) : Prop := ∃ h2 tk, s2 = { s with heap := h2, toks := tk } ∧ HasTexts prog w h2 s.heap.objs.size ts ∧ ∀ b o, b < s.heap.objs.size → s.heap.get? b = some o → h2.get? b = some o
theorem set_init {l : Addr} {its : List Value} {ts : List Str} {led : Bool} (hh : A.handled = none) (hl : s.heap.IsList l its.toArray ∨ s.heap.IsTuple l its.toArray) (r : StrsAre its ts) (nd : ts.Nodup) (few : ts.length < 4000) {Q : Fin → Shared → Prop}
    (k : ∀ s2, SetMade prog w s ts s2 → Q (.done (.ret .none)) s2) : wpAny (model prog w) A (Builtin.«set.__init__» ⟨[.ref s.heap.objs.size, .ref l], []⟩) Q E { s with heap := s.heap.push (freshSet led) } := by
  have hn : its.toArray.size = ts.length := by rw [List.size_toArray, r.len_eq]
  have new : (s.heap.push (freshSet led)).get? s.heap.objs.size = some (freshSet led) := Heap.get?_push_size _ rfl
  rcases hl with hl | hl
  all_goals
    have hlS : l < s.heap.objs.size := by obtain ⟨o, ho, _⟩ := hl; exact Heap.lt_size ho
    obtain ⟨⟨cl, dd, dt, sl⟩, hol, hcl, n, hdl⟩ := id hl
    simp only at hcl hdl
    subst hcl hdl
    have hol2 := Heap.get?_push_of_some (freshSet led) hol
    have hl1 := hl.push (freshSet led)
    have f1 := PySem.F.sub_list_set
    have f2 := PySem.F.sub_list_frozenset
    have f3 := PySem.F.sub_tuple_set
    have f4 := PySem.F.sub_tuple_frozenset
    have f5 : (Value.type "list" == Value.type "dict") = false := by decide
    have f6 : (Value.type "tuple" == Value.type "dict") = false := by decide
    unfold Builtin.«set.__init__» noKeywords Builtin.Frozenset.updateFrom
    generalize hPI : pyIter = PI
    wp_walk
    subst hPI
    have hq : A.in1.handled = none := by simp [hh]
    have sz : (s.heap.push (freshSet led)).objs.size = s.heap.objs.size + 1 := Heap.size_push _ _
    have ne : l ≠ (s.heap.push (freshSet led)).objs.size := by
      rw [sz]
      exact Nat.ne_of_lt (Nat.lt_succ_of_lt hlS)
    have far : s.heap.objs.size ∉ [(s.heap.push (freshSet led)).objs.size, l] := by
      rw [sz]
      intro z
      rcases List.mem_cons.mp z with z | z
      · exact Nat.ne_of_lt (Nat.lt_succ_self _) z
      · exact Nat.ne_of_gt hlS (List.mem_singleton.mp z)
    have empty : ∀ {o : Obj}, HasTexts prog w ((s.heap.push (freshSet led)).push o) s.heap.objs.size (ts.take 0) := fun {o} =>
      SetOf_congr ((setObjOf_fresh (knd := strKind prog w) led).setOf (Heap.get?_push_of_some o new) (by decide)) (fun _ => by simp) rfl
    have done : ∀ {o : Obj} (s2 : Shared), Moved (s.heap.objs.size :: [(s.heap.push (freshSet led)).objs.size]) (fun a b => b = a) { s with heap := (s.heap.push (freshSet led)).push o } s2 → HasTexts prog w s2.heap s.heap.objs.size ts → SetMade prog w s ts s2 := fun {o} s2 mv S => by
      obtain ⟨h2, g2, d2, tk, os2⟩ := s2
      obtain rfl : g2 = s.gens := mv.gens
      obtain rfl : d2 = s.drawn := mv.drawn
      obtain rfl : os2 = s.os := mv.os
      refine ⟨h2, tk, rfl, S, fun b u hb e => mv.heap b u (fun z => ?_) (Heap.get?_push_of_some _ (Heap.get?_push_of_some _ e))⟩
      rw [sz] at z
      rcases List.mem_cons.mp z with z | z
      · exact Nat.ne_of_lt hb z
      · exact Nat.ne_of_lt (Nat.lt_succ_of_lt hb) (List.mem_singleton.mp z)
    first
      | (refine wpAny_pyIter_list hl1 (wpAny_bind (wpAny_runValue ?_))
         have W := (Walks.list (prog := prog) (w := w) hq _ l ne its.toArray).toS
         rw [hn] at W
         refine texts_in W far nd few (fun i v pv => text_of r pv) ts.length 0 _ (by omega) ⟨⟨_, Heap.get?_push_size _ rfl, rfl, rfl⟩, hl1.push _⟩ empty fun s2 mv S => ?_)
      | (refine wpAny_pyIter_tuple hl1 (wpAny_bind (wpAny_runValue ?_))
         have W := (Walks.tuple (prog := prog) (w := w) hq _ l ne its.toArray).toS
         rw [hn] at W
         refine texts_in W far nd few (fun i v pv => text_of r pv) ts.length 0 _ (by omega) ⟨⟨_, Heap.get?_push_size _ rfl, rfl, rfl⟩, hl1.push _⟩ empty fun s2 mv S => ?_)
    exact wpAny_pure (wpAny_pure (k s2 (done s2 mv S)))
/-- set(l), l a list or a tuple of texts without twins -/
theorem set_of_texts {l : Addr} {its : List Value} {ts : List Str} {Q : Value → Shared → Prop} (hh : A.handled = none) (hl : s.heap.IsList l its.toArray ∨ s.heap.IsTuple l its.toArray) (r : StrsAre its ts) (nd : ts.Nodup) (few : ts.length < 4000)
    (k : ∀ s2, SetMade prog w s ts s2 → Q (.ref s.heap.objs.size) s2) : wpAny (model prog w) A (call (.type "set") [.ref l]) Q E s := by
  obtain ⟨top, tail, c4⟩ := PySem.F.called_set.mro
  have c := PySem.F.called_set
  have c1 := c.notType
  have c2 := c.canCreate
  have c5 := c.made
  have c6 := c.sub
  have c3 := PySem.F.typeCall_set_1 (.ref l)
  have c7 := c.init.lookup
  have c8 := c.init.bind (.ref s.heap.objs.size)
  refine wpAny_call (codeAny_of_tree (id (wpAny_pure ⟨Code.quiet_builtin _ (by decide +kernel), codeAny_builtin PySem.F.entry_type_call ?_⟩ : wpAny (model prog w) _ (callAny (.type "set") ⟨[.ref l], []⟩) _ _ s)))
  rw [Around.under_plain (c := Code.builtin "type.__call__" ⟨[.type "set", .ref l], []⟩) (weight_type_call_type _ _ _) rfl]
  repeat any_goals first | assumption | wp_step
  have fresh : ∀ led : Bool, (s.heap.push (freshSet led)).get? s.heap.objs.size = some (freshSet led) := fun led => Heap.get?_push_size _ rfl
  refine codeAny_mono (code_set_new_1 (E := E) (.ref l) (Q₁ := fun D s1 => ∃ led, D = .ref s.heap.objs.size ∧ s1 = { s with heap := s.heap.push (freshSet led) }) fun led => ⟨led, rfl, rfl⟩) ?_
  intro a s1 h1
  match a, h1 with
  | .error e, h1 => exact h1
  | .ok (.ret D), h1 =>
    obtain ⟨led, rfl, rfl⟩ := h1
    have isSet : Shared.TypeIs { s with heap := s.heap.push (freshSet led) } (.ref s.heap.objs.size) "set" := ⟨_, fresh led, rfl⟩
    repeat any_goals first | assumption | wp_step
    refine codeAny_mono (codeAny_call_builtin (R := wants (fun v s2 => v = .none ∧ SetMade prog w s ts s2) E) c.init.plain PySem.F.entry_set_init (check_set_init_1 isSet (set_init (by simp [hh]) hl r nd few fun s2 m => ⟨rfl, m⟩))) ?_
    intro a2 s2 h2
    match a2, h2 with
    | .error e, h2 => exact h2
    | .ok (.ret v), h2 =>
      obtain ⟨rfl, m⟩ := h2
      repeat any_goals first | assumption | wp_step
      exact k s2 m
end
def tLenSetG (K : PySem.W.Frag) (ta : TE) : TE := fun σ H Q => ta σ H fun x H1 => ∃ (l : Addr) (ts : List Str), x = .ref l ∧ (SqL K H1 l (ts.map V.str) ∨ SqT K H1 l (ts.map V.str)) ∧ ts.Nodup ∧ ts.length < 4000 ∧ Q (.int ts.length) H1
theorem texts_vals : ∀ {ts : List Str} {us : List Value}, Vals (ts.map V.str) us → StrsAre us ts
  | [], _, .nil => .nil
  | t :: ts, _, .cons ⟨k, h⟩ r => h ▸ .cons t k (texts_vals r)
theorem pe_lenSetG {X : Cx} {a : Expr} {ta : TE} {p p2 q pos : Pos} (calm : X.calm = true) (gl : Gl X "len") (ml : X.mg "len" = none) (gs : Gl X "set") (ms : X.mg "set" = none) (h : PE X a ta)
    (one : starEach [a] X.env = (false, eval a X.env) :: starEach [] X.env := by rfl) : PE X (.Call (.Name "len" p) [.Call (.Name "set" p2) [a] [] q] [] pos) (tLenSetG X.K ta) := by
  refine ⟨fun pins s σ H Q I hw => ?_⟩
  refine Call_ (ld_blt I gl ml boot_len (callWith_builtin1 (args_cons ?_ rfl) rfl rfl))
  refine Call_ (ld_blt I gs ms boot_set (callWith_type1 (args_cons (thn (h.run pins s σ H _ I hw) fun v s1 ⟨x, H1, I1, r1, q1⟩ => args_nil ?_) one) one rfl))
  obtain ⟨l, ts, rfl, sq, nd, few, q1⟩ := q1
  cases r1
  obtain ⟨its, r, at1⟩ : ∃ its : List Value, Vals (ts.map V.str) its ∧ (s1.heap.IsList l its.toArray ∨ s1.heap.IsTuple l its.toArray) := by
    rcases sq with sq | sq
    · obtain ⟨its, r, pl, _⟩ := I1.list sq
      exact ⟨its, r, .inl pl.isList⟩
    · obtain ⟨its, r, pl, _⟩ := I1.tuple sq
      exact ⟨its, r, .inr pl⟩
  refine set_of_texts (I1.ok.hd calm) at1 (texts_vals r) nd few fun s2 ⟨h2, tk, e, ⟨o, es, ep, tb, ho, ex, hd, _, _, _, fit, n⟩, keep⟩ => ?_
  subst e
  have I2 : Inv X pins σ H1 { s1 with heap := h2, toks := tk } := I1.kept fun b u z => keep b u (Heap.lt_size z) z
  exact args_nil (call_len_set ho ex hd fit (by rw [n]; omega) ⟨.int ts.length, H1, I2.tok _, ⟨_, by rw [n]⟩, q1⟩)
end Ov

namespace Ov
open PySem PySem.Spec PyProof.Rows L2
open Evl (pss_cut tCut)

/-! ### the text by places -/
def topS (i : Nat) : Stmt := PySem.Challenge.pw_overtaken_k08_plans_put_together.main.body.getD i (.Pass ⟨0, 0, 0, 0⟩)
abbrev sDeal : Stmt := topS 30
theorem scDeal : FnScope ["_law_script", "_law_base", "_law_cell", "_law_cells", "_law_mixed_here"] ["_law_script", "_law_base"] (defScope sDeal) := ⟨rfl, rfl, rfl, by decide +kernel, rfl, by decide +kernel, by decide +kernel⟩
abbrev sDraw : Stmt := topS 31
theorem scDraw : FnScope ["_law_deal_here", "_law_many", "_law_left"] ["_law_deal_here", "_law_many"] (defScope sDraw) := ⟨rfl, rfl, rfl, by decide +kernel, rfl, by decide +kernel, by decide +kernel⟩

/-! ### heaps: all but two places stays -/
def Kp (a b : Addr) (H H' : Hp) : Prop := ∀ x o, x ≠ a → x ≠ b → H x = some o → H' x = some o
theorem Kp.refl (a b : Addr) (H : Hp) : Kp a b H H := fun _ _ _ _ h => h
theorem Kp.trans {a b : Addr} {H H1 H2 : Hp} (x : Kp a b H H1) (y : Kp a b H1 H2) : Kp a b H H2 := fun c o h1 h2 h => y c o h1 h2 (x c o h1 h2 h)
theorem Kp.at_a {a b : Addr} {H : Hp} {o : HO} : Kp a b H (upd H a o) := fun c u h1 _ h => by rw [upd_ne h1]; exact h
theorem Kp.at_b {a b : Addr} {H : Hp} {o : HO} : Kp a b H (upd H b o) := fun c u _ h2 h => by rw [upd_ne h2]; exact h
theorem Kp.new {a b : Addr} {H : Hp} {p : Addr} {o : HO} (h : H p = none) : Kp a b H (upd H p o) := fun c u _ _ e => by rw [upd_ne (ne_of_none e h)]; exact e
theorem Kp.same {a b : Addr} {H H' : Hp} (h : Same H H') : Kp a b H H' := fun c u _ _ e => h c u e

/-! ### a deal: its great cells, its mixed number -/
structure Deal (H : Hp) (a b : Addr) : Prop where
  ex : ∃ (ns : List Int) (m : Int), H a = some (.lst [.ref b, .int m]) ∧ H b = some (.lst (ns.map V.int)) ∧ ns.length ≤ 63 ∧ 0 ≤ m ∧ m < 2147483647
theorem Deal.ne {H : Hp} {a b : Addr} (D : Deal H a b) : a ≠ b := by
  obtain ⟨ns, m, h1, h2, _⟩ := D.ex
  refine ne_of h1 h2 fun z => ?_
  cases ns with
  | nil => cases z
  | cons n r => cases z
theorem Deal.is {H : Hp} {a b : Addr} (D : Deal H a b) : (H a ≠ none) ∧ (H b ≠ none) := by
  obtain ⟨ns, m, h1, h2, _⟩ := D.ex
  exact ⟨by rw [h1]; exact fun z => (by cases z), by rw [h2]; exact fun z => (by cases z)⟩
theorem Deal.nea {H : Hp} {a b p : Addr} (D : Deal H a b) (h : H p = none) : p ≠ a := fun z => D.is.1 (by rw [← z]; exact h)
theorem Deal.neb {H : Hp} {a b p : Addr} (D : Deal H a b) (h : H p = none) : p ≠ b := fun z => D.is.2 (by rw [← z]; exact h)
theorem Deal.new {H : Hp} {a b p : Addr} {o : HO} (D : Deal H a b) (h : H p = none) : Deal (upd H p o) a b := by
  have na := D.nea h
  have nb := D.neb h
  obtain ⟨ns, m, h1, h2, r⟩ := D.ex
  exact ⟨ns, m, by rw [upd_ne na.symm]; exact h1, by rw [upd_ne nb.symm]; exact h2, r⟩
theorem Deal.keep {H H' : Hp} {a b : Addr} (D : Deal H a b) (s : Same H H') : Deal H' a b := by
  obtain ⟨ns, m, h1, h2, r⟩ := D.ex
  exact ⟨ns, m, s _ _ h1, s _ _ h2, r⟩
/-- a new object behind a drawing is new before it -/
theorem Kp.none {H H' : Hp} {a b p : Addr} (k : Kp a b H H') (D : Deal H' a b) (h : H' p = none) : H p = none := by
  cases e : H p with
  | none => rfl
  | some o =>
    have q := k p o (D.nea h) (D.neb h) e
    rw [h] at q
    cases q

theorem same_upd {H : Hp} {p : Addr} {o : HO} (h : H p = none) : Same H (upd H p o) := fun b x e => by
  rw [upd_ne (ne_of_none e h)]
  exact e
/-- a place that wasn't tracked may be written again -/
theorem _root_.L2.Same.put {H H' : Hp} {p : Addr} {o : HO} (s : Same H H') (h : H p = none) : Same H (upd H' p o) := fun b x e => by
  rw [upd_ne (ne_of_none e h)]
  exact s b x e
theorem get_ints {ns : List Int} {i : Nat} {x : V} (h : (ns.map V.int)[i]? = some x) : ∃ n, x = .int n := by
  rw [List.getElem?_map] at h
  cases e : ns[i]? with
  | none =>
    rw [e] at h
    cases h
  | some n =>
    rw [e] at h
    exact ⟨n, (Option.some.inj h).symm⟩
theorem cut_ints (ns : List Int) (lo hi : Option Int) : ∃ cs : List Int, cutV (ns.map V.int) lo hi = cs.map V.int ∧ cs.length ≤ ns.length := by
  refine ⟨(ns.drop (HT.sIx ns.length 0 lo)).take (HT.sIx ns.length ns.length hi - HT.sIx ns.length 0 lo), ?_, ?_⟩
  · unfold cutV
    rw [List.length_map, ← List.map_drop, ← List.map_take]
  · rw [List.length_take, List.length_drop]
    omega
theorem fmod_lt {x k : Int} (h : 0 < k) : 0 ≤ x.fmod k ∧ x.fmod k < k := by
  rw [Int.fmod_eq_emod_of_nonneg x (Int.le_of_lt h)]
  exact ⟨Int.emod_nonneg x (by omega), Int.emod_lt_of_pos x h⟩

def spDraw : Sp := fun vs H Q _ => ∃ (a b : Addr) (k : Int), vs = [.ref a, .int k] ∧ Deal H a b ∧ 0 < k ∧ k < 1000000 ∧
  ∀ r H', 0 ≤ r → r < k → Kp a b H H' → Deal H' a b → Q (.int r) H'

section
variable {P : Program} {w : World} {K : PySem.W.Frag} {mg : Str → Option Value} {base : Heap}
theorem dp_ints {K : PySem.W.Frag} {H : Hp} : ∀ ns : List Int, DpAll K H (ns.map V.int) (ns.map PyData.int)
  | [] => .nil
  | n :: r => .cons (.int n) (dp_ints r)
theorem canLay_ints : ∀ ns : List Int, PyData.canLayAll0 (ns.map PyData.int) = true
  | [] => rfl
  | n :: r => by
    show (PyData.canLay0 (.int n) && PyData.canLayAll0 (r.map PyData.int)) = true
    rw [canLay_ints r]
    rfl
theorem depth_ints : ∀ ns : List Int, PyData.depthAll (ns.map PyData.int) = 0
  | [] => rfl
  | n :: r => by
    show max (PyData.depth (.int n)) (PyData.depthAll (r.map PyData.int)) = 0
    rw [depth_ints r]
    rfl
theorem shaped_ints (ns : List Int) : SeqAt.shaped (.list (ns.map PyData.int)) = true := by
  show (PyData.canLay0 (.list (ns.map PyData.int)) && decide ((PyData.list (ns.map PyData.int)).depth ≤ 64)) = true
  have h1 : PyData.canLay0 (.list (ns.map PyData.int)) = true := canLay_ints ns
  have h2 : (PyData.list (ns.map PyData.int)).depth = 0 + 1 := by
    show PyData.depthAll (ns.map PyData.int) + 1 = 0 + 1
    rw [depth_ints]
  rw [h1, h2]
  rfl
theorem eqv_nil (ns : List Int) : PyData.eqv (.list (ns.map PyData.int)) (.list []) = ns.isEmpty := by
  cases ns with
  | nil => rfl
  | cons n r => rfl
theorem atI_lastInt (ns : List Int) (n : Int) : atI ((ns ++ [n]).map V.int) (-1) = some (.int n) := by
  rw [List.map_append]
  exact atI_last _ _
theorem ok_draw {f : Addr} {fd : FuncData} (F : Fun K "_law_draw" "_law_draw" sDraw f fd) (nInt : mg "int" = none) : FnOk P w K mg base CX0 1 f fd ["_law_deal_here", "_law_many"] spDraw := by
  refine F.ok scDraw (fun vs H Q E h => ?_) (fun cdv A outer s H vs Q E hr h => ?_)
  · obtain ⟨a, b, k, rfl, _⟩ := h
    rfl
  · obtain ⟨a, b, k, rfl, D, k0, k1, q⟩ := h
    refine ⟨_, pss_cut (ps_while PassesOwn.never (PW.pt (pw_and (pt_cmpR (op_neD hr.units) (pe_ix ix_list (pv 0) pe_int (fun _ _ => rfl)) (pe_lst pa_nil) (nomark _)) (pw_and1 (pt_cmpR op_eq (pe_ix ix_list (pe_ix ix_list (pv 0) pe_int (fun _ _ => rfl)) (pe_un un_neg pe_int) (fun _ _ => rfl)) pe_int (nomark _))))) (pss_one (ps_expr (pe_bm0 PySem.F.plainAttrs_list PySem.F.slot_list_pop PySem.F.type_list_pop mt_pop (pe_ix ix_list (pv 0) pe_int (fun _ _ => rfl))))))
      (pss_cons (ps_if (pt_cmpR (op_neD hr.units) (pe_ix ix_list (pv 0) pe_int (fun _ _ => rfl)) (pe_lst pa_nil) (nomark _)) (pss_cons (ps_set (i := 2) scDraw.nd rfl (.inl rfl) (pe_bm0 PySem.F.plainAttrs_list PySem.F.slot_list_pop PySem.F.type_list_pop mt_pop (pe_ix ix_list (pv 0) pe_int (fun _ _ => rfl))))
      (pss_cons (ps_expr (pe_bm PySem.F.plainAttrs_list PySem.F.slot_list_append PySem.F.type_list_append mt_append (pe_ix ix_list (pv 0) pe_int (fun _ _ => rfl)) (pa_cons (pe_op op_fdivN (pv 2) (pv 1)) pa_nil)))
      (pss_one (ps_ret (pe_op op_modN (pe_callTy call_int1 (by rfl) nInt (by decide +kernel) (pa_cons (pv 2) pa_nil)) (pv 1)))))) pss_nil)
      (pss_cons (ps_asg (pe_op op_modN (pe_callTy call_int1 (by rfl) nInt (by decide +kernel) (pa_cons (pe_op op_add (pe_op op_mul (pe_ix ix_list (pv 0) pe_int (fun _ _ => rfl)) pe_int) pe_int) pa_nil)) pe_int) (pg_sub (pv 0) pe_int set_list))
      (pss_one (ps_ret (pe_op op_modN (pe_callTy call_int1 (by rfl) nInt (by decide +kernel) (pa_cons (pe_op op_fdivN (pe_ix ix_list (pv 0) pe_int (fun _ _ => rfl)) pe_int) pa_nil)) (pv 1)))))), ?_⟩
    refine ⟨fun σ H' => σ = [some (.ref a), some (.int k), none] ∧ Kp a b H H' ∧ Deal H' a b, ?_, ?_⟩
    -- the while: zeros at the end are dropped
    · refine ⟨fun m σ H' => ∃ (ns : List Int) (mm : Int), σ = [some (.ref a), some (.int k), none] ∧ m = ns.length ∧ Kp a b H H' ∧ H' a = some (.lst [.ref b, .int mm]) ∧ H' b = some (.lst (ns.map V.int)) ∧ ns.length ≤ 63 ∧ 0 ≤ mm ∧ mm < 2147483647,
        ?_, ?_⟩
      · obtain ⟨ns, mm, h1, h2, h3, h4, h5⟩ := D.ex
        exact ⟨ns.length, ns, mm, rfl, rfl, Kp.refl _ _ _, h1, h2, h3, h4, h5⟩
      · rintro m σ H1 ⟨ns, mm, rfl, rfl, kp, h1, h2, h3, h4, h5⟩
        refine ⟨_, rfl, _, _, _, _, rfl, rfl, SqL.of h1, rfl, Nat.zero_le _, fun p np => ?_⟩
        have nb : b ≠ p := ne_of_none h2 np
        have na : a ≠ p := ne_of_none h1 np
        refine ⟨_, .list [], .lst (SqL.of (by rw [upd_ne nb]; exact h2)) (dp_ints ns), .lst (SqL.of upd_same) .nil, shaped_ints ns, shaped_ints [], _, rfl, ?_⟩
        rw [eqv_nil]
        have kp2 : Kp a b H (upd H1 p (.lst [])) := kp.trans (Kp.new np)
        have a2 : (upd H1 p (.lst [])) a = some (.lst [.ref b, .int mm]) := by rw [upd_ne na]; exact h1
        have b2 : (upd H1 p (.lst [])) b = some (.lst (ns.map V.int)) := by rw [upd_ne nb]; exact h2
        rcases List.eq_nil_or_concat ns with rfl | ⟨ns', n, rfl⟩
        · exact iteF (iteF ⟨rfl, kp2, ⟨[], mm, a2, b2, h3, h4, h5⟩⟩)
        · rw [List.concat_eq_append] at b2 h3 ⊢
          rw [show (ns' ++ [n]).isEmpty = false by simp]
          refine iteT ?_
          refine ⟨_, rfl, _, _, _, _, rfl, rfl, SqL.of a2, rfl, 1, rfl, _, _, _, _, rfl, rfl, SqL.of b2, atI_lastInt ns' n, rfl, _, rfl, ?_⟩
          refine ite2 (fun _ => ?_) (fun _ => ?_)
          · refine ⟨fun σ H' => ∃ (mm : Int), σ = [some (.ref a), some (.int k), none] ∧ Kp a b H H' ∧ H' a = some (.lst [.ref b, .int mm]) ∧ H' b = some (.lst (ns'.map V.int)) ∧ ns'.length ≤ 63 ∧ 0 ≤ mm ∧ mm < 2147483647,
              fun σ' H' ⟨mm, e1, e2, e3, e4, e5, e6⟩ => ⟨ns'.length, by simp, ns', mm, e1, rfl, e2, e3, e4, e5, e6⟩, ?_⟩
            refine ⟨_, rfl, _, _, _, _, rfl, rfl, SqL.of a2, rfl, .inl ⟨rfl, _, SqL.of b2⟩, b, _, .int n, rfl, rfl, b2, ?_, ?_⟩
            · rw [List.map_append, List.length_append]
              show (List.map V.int ns' ++ [V.int n])[(List.map V.int ns').length + 1 - 1]? = some (V.int n)
              simp
            · refine ⟨mm, rfl, kp2.trans Kp.at_b, ?_, ?_, ?_, h4, h5⟩
              · rw [upd_ne D.ne]
                exact a2
              · rw [upd_same, List.map_append]
                show some (HO.lst (List.map V.int ns' ++ [V.int n]).dropLast) = _
                rw [List.dropLast_concat]
              · rw [List.length_append, List.length_singleton] at h3
                omega
          · exact ⟨rfl, kp2, ⟨ns' ++ [n], mm, a2, b2, h3, h4, h5⟩⟩
    · rintro σ H1 ⟨rfl, kp, D1⟩
      obtain ⟨ns, mm, h1, h2, h3, h4, h5⟩ := D1.ex
      -- if deal[0] != []
      refine ⟨_, rfl, _, _, _, _, rfl, rfl, SqL.of h1, rfl, Nat.zero_le _, fun p np => ?_⟩
      have nb : b ≠ p := ne_of_none h2 np
      have na : a ≠ p := ne_of_none h1 np
      refine ⟨_, .list [], .lst (SqL.of (by rw [upd_ne nb]; exact h2)) (dp_ints ns), .lst (SqL.of upd_same) .nil, shaped_ints ns, shaped_ints [], _, rfl, ?_⟩
      rw [eqv_nil]
      have kp2 : Kp a b H (upd H1 p (.lst [])) := kp.trans (Kp.new np)
      have a2 : (upd H1 p (.lst [])) a = some (.lst [.ref b, .int mm]) := by rw [upd_ne na]; exact h1
      have b2 : (upd H1 p (.lst [])) b = some (.lst (ns.map V.int)) := by rw [upd_ne nb]; exact h2
      rcases List.eq_nil_or_concat ns with rfl | ⟨ns', n, rfl⟩
      · refine iteF ?_
        -- deal[1] = int(deal[1] * 69621 + 40961) % 2147483647
        refine ⟨_, rfl, _, _, _, _, rfl, rfl, SqL.of a2, rfl, _, _, rfl, rfl, .inl (by omega), _, _, rfl, rfl, .inl ⟨_, rfl, _, _, rfl, rfl, (by show (2147483647 : Int) ≠ 0; decide), ?_⟩⟩
        refine ⟨_, rfl, a, _, 1, 1, rfl, rfl, a2, rfl, ?_⟩
        -- return int(deal[1] // 16) % many
        obtain ⟨m0, m1⟩ := fmod_lt (x := mm * 69621 + 40961) (k := 2147483647) (by decide)
        refine ⟨_, rfl, _, _, _, _, rfl, rfl, SqL.of upd_same, rfl, _, _, rfl, rfl, ⟨by show (16 : Int) ≠ 0; decide, by show (16 : Int).natAbs < 1073741824; decide⟩, .inl ⟨_, rfl, _, rfl, _, _, rfl, rfl, by omega, ?_⟩⟩
        obtain ⟨r0, r1⟩ := fmod_lt (x := ((mm * 69621 + 40961).fmod 2147483647).fdiv 16) k0
        exact q _ _ r0 r1 (kp2.trans Kp.at_a) ⟨[], _, upd_same, by rw [upd_ne D.ne.symm]; exact b2, h3, m0, m1⟩
      · rw [List.concat_eq_append] at b2 h3 ⊢
        rw [show (ns' ++ [n]).isEmpty = false by simp]
        refine iteT ?_
        refine ⟨_, rfl, _, _, _, _, rfl, rfl, SqL.of a2, rfl, .inl ⟨rfl, _, SqL.of b2⟩, b, _, .int n, rfl, rfl, b2, ?_, ?_⟩
        · rw [List.map_append, List.length_append]
          show (List.map V.int ns' ++ [V.int n])[(List.map V.int ns').length + 1 - 1]? = some (V.int n)
          simp
        · have b3 : upd (upd H1 p (.lst [])) b (.lst (List.map V.int (ns' ++ [n])).dropLast) = upd (upd H1 p (.lst [])) b (.lst (ns'.map V.int)) := by
            rw [List.map_append]
            show upd _ b (.lst (List.map V.int ns' ++ [V.int n]).dropLast) = _
            rw [List.dropLast_concat]
          rw [b3]
          have a3 : (upd (upd H1 p (.lst [])) b (.lst (ns'.map V.int))) a = some (.lst [.ref b, .int mm]) := by rw [upd_ne D.ne]; exact a2
          refine ⟨_, rfl, _, _, _, _, rfl, rfl, SqL.of a3, rfl, .inl ⟨rfl, _, SqL.of upd_same⟩, _, rfl, _, rfl, _, _, rfl, rfl, ⟨by omega, by omega⟩, b, _, _, rfl, rfl, upd_same, ?_, ?_⟩
          · rw [List.length_map]
            rw [List.length_append, List.length_singleton] at h3
            exact small1000 (by omega)
          · refine ⟨_, rfl, .inl ⟨_, rfl, _, rfl, _, _, rfl, rfl, by omega, ?_⟩⟩
            obtain ⟨r0, r1⟩ := fmod_lt (x := n) k0
            refine q _ _ r0 r1 ((kp2.trans Kp.at_b).trans Kp.at_b) ⟨ns' ++ [n.fdiv k], mm, ?_, ?_, ?_, h4, h5⟩
            · rw [upd_ne D.ne]
              exact a3
            · rw [upd_same, List.map_append]
              rfl
            · rw [List.length_append] at h3 ⊢
              exact h3

/-! ### _law_deal -/
structure TxB (mg : Str → Option Value) : Prop where
  n_int : mg "int" = none
  n_abs : mg "abs" = none
  n_len : mg "len" = none
  n_range : mg "range" = none
  n_max : mg "max" = none
  n_min : mg "min" = none
  n_list : mg "list" = none
  n_tuple : mg "tuple" = none
def spDeal (K : PySem.W.Frag) : Sp := fun vs H Q _ => ∃ (s : Addr) (ns : List Int) (k : Nat), vs = [.ref s, .int (k : Int)] ∧ SqL K H s (ns.map V.int) ∧ ns.length ≤ 63 ∧ k ≤ 60 ∧
  ∀ (a b : Addr) (H' : Hp), Same H H' → H a = none → H b = none → Deal H' a b → Q (.ref a) H'
theorem ok_deal {f : Addr} {fd : FuncData} (F : Fun K "_law_deal" "_law_deal" sDeal f fd) (T : TxB mg) : FnOk P w K mg base CX0 1 f fd ["_law_script", "_law_base"] (spDeal K) := by
  refine F.ok scDeal (fun vs H Q E h => ?_) (fun cdv A outer s H vs Q E hr h => ?_)
  · obtain ⟨a, ns, k, rfl, _⟩ := h
    rfl
  · obtain ⟨sa, ns, k, rfl, hS, hlen, hk, q⟩ := h
    refine ⟨_, pss_cons (ps_setLc (i := 3) (own := [("_law_cell", 2)]) (g := gName 2) (tt := tYes) rfl scDeal.nd rfl rfl (sw_true rfl rfl rfl (by decide +kernel)) (pi_list (pe_slice sl_list (pv 0) (po_some (pv 1)) (po_some pe_int))) (blkOk_by (own := [("_law_cell", 2)]) (N := ["_law_script", "_law_base", "_law_cell", "_law_cells", "_law_mixed_here"]) (sc := defScope sDeal) (by decide +kernel)) (fun _ _ _ _ _ => (pg_name (i := 2) scDeal.nd rfl (Or.inl rfl))) (fun _ _ _ _ _ => pts_nil) (fun _ _ _ _ _ => (pe_callB call_abs (by rfl) T.n_abs (by decide +kernel) (pa_cons (pv 2) pa_nil))))
      (pss_cons (ps_set (i := 4) scDeal.nd rfl (.inl rfl) (pe_op op_add pe_int (pe_op op_mul pe_int (pv 1))))
      (pss_cut (ps_for PassesOwn.never rfl (pi_list (pv 3)) (pg_name (i := 2) scDeal.nd rfl (Or.inl rfl)) (pss_one (ps_set (i := 4) scDeal.nd rfl (.inl rfl) (pe_op op_modN (pe_callTy call_int1 (by rfl) T.n_int (by decide +kernel) (pa_cons (pe_op op_add (pe_op op_mul (pv 4) pe_int) (pe_op op_modN (pe_callTy call_int1 (by rfl) T.n_int (by decide +kernel) (pa_cons (pv 2) pa_nil)) pe_int)) pa_nil)) pe_int))))
      (pss_one (ps_ret (pe_lst (pa_cons (pe_revL (pe_lc (own := [("_law_cell", 2)]) (g := gName 2) rfl scDeal.nd (pi_list (pv 3)) (blkOk_by (own := [("_law_cell", 2)]) (N := ["_law_script", "_law_base", "_law_cell", "_law_cells", "_law_mixed_here"]) (sc := defScope sDeal) (by decide +kernel)) (fun _ _ _ _ _ => (pg_name (i := 2) scDeal.nd rfl (Or.inl rfl))) (fun _ _ _ _ _ => (pts_one (pt_cmpR op_ge (pv 2) (pe_op op_pow pe_int pe_int) (nomark _)))) (fun _ _ _ _ _ => (pv 2)))) (pa_cons (pv 4) pa_nil))))))), ?_⟩
    obtain ⟨cs, ec, lc⟩ := cut_ints ns (some (k : Int)) (some 63)
    refine ⟨_, rfl, _, rfl, _, rfl, _, rfl, sa, _, rfl, hS, fun p np => ⟨p, rfl, ⟨_, SqL.of upd_same⟩, fun L nL => ?_⟩⟩
    rw [ec] at nL ⊢
    have sp : Same H (upd H p (.lst (cs.map V.int))) := same_upd np
    refine lc_list (xs := cs.map V.int) (fun i H' => Same (upd H p (.lst (cs.map V.int))) H' ∧ ∃ ds : List Int, ds.length = i ∧ H' L = some (.lst (ds.map V.int)))
      ⟨same_upd nL, [], rfl, upd_same⟩ (fun i H' _ h => SqL.of (h.1 _ _ upd_same)) (fun i x H' hx h => ?_) (fun H1 h1 => ?_)
    · obtain ⟨n, rfl⟩ := get_ints hx
      obtain ⟨sm, ds, dl, hd⟩ := h
      refine ⟨rfl, _, rfl, n, rfl, _, hd, ?_, ?_, ds ++ [if n < 0 then -n else n], ?_, ?_⟩
      · have := (List.getElem?_eq_some_iff.mp hx).1
        rw [List.length_map] at this ⊢
        exact small1000 (by omega)
      · exact sm.put nL
      · rw [List.length_append, dl]
        rfl
      · rw [upd_same, List.map_append]
        rfl
    · obtain ⟨sm, ds, dl, hd⟩ := h1
      rw [List.length_map] at dl
      have sH : Same H H1 := sp.trans sm
      -- 16127 + 7919 * base
      refine ⟨_, rfl, _, _, rfl, rfl, .inl (by omega), _, _, rfl, rfl, ?_⟩
      refine ⟨fun σ H2 => ∃ (v : Option V) (m : Int), σ = [some (.ref sa), some (.int (k : Int)), v, some (.ref L), some (.int m)] ∧ 0 ≤ m ∧ m < 2147483647 ∧ H2 = H1, ?_, ?_⟩
      · refine ⟨.ref L, rfl, L, rfl, ⟨_, SqL.of hd⟩, for_list (K := K) (a := L) (xs := ds.map V.int) (fun i σ H2 => ∃ (v : Option V) (m : Int), σ = [some (.ref sa), some (.int (k : Int)), v, some (.ref L), some (.int m)] ∧ 0 ≤ m ∧ m < 2147483647 ∧ H2 = H1)
          ⟨_, _, rfl, by omega, by omega, rfl⟩ (fun i σ H2 _ ⟨_, _, _, _, _, e⟩ => by rw [e]; exact SqL.of hd) ?_ ?_⟩
        · rintro i x σ H2 hx ⟨v, m, rfl, m0, m1, rfl⟩
          obtain ⟨n, rfl⟩ := get_ints hx
          obtain ⟨r0, r1⟩ := fmod_lt (x := n) (k := 2147483629) (by decide)
          refine ⟨_, rfl, _, _, rfl, rfl, .inl (by omega), _, rfl, .inl ⟨_, rfl, _, _, rfl, rfl, (by show (2147483629 : Int) ≠ 0; decide), _, _, rfl, rfl, .inl ⟨_, rfl, _, _, rfl, rfl, (by show (2147483647 : Int) ≠ 0; decide), ?_⟩⟩⟩
          obtain ⟨t0, t1⟩ := fmod_lt (x := m * 48271 + n.fmod 2147483629) (k := 2147483647) (by decide)
          exact ⟨_, _, rfl, t0, t1, rfl⟩
        · rintro σ H2 ⟨v, m, rfl, m0, m1, rfl⟩
          exact ⟨_, _, rfl, m0, m1, rfl⟩
      · rintro σ H2 ⟨v, m, rfl, m0, m1, rfl⟩
        refine ⟨.ref L, rfl, L, rfl, ⟨_, SqL.of hd⟩, fun D nD => ?_⟩
        refine lc_list (xs := ds.map V.int) (fun i H' => Same H2 H' ∧ ∃ es : List Int, es.length ≤ i ∧ H' D = some (.lst (es.map V.int)))
          ⟨same_upd nD, [], Nat.le_refl _, upd_same⟩ (fun i H' _ h => SqL.of (h.1 _ _ hd)) (fun i x H' hx h => ?_) (fun H3 h3 => ?_)
        · obtain ⟨n, rfl⟩ := get_ints hx
          obtain ⟨sm3, es, el, he⟩ := h
          have hi := (List.getElem?_eq_some_iff.mp hx).1
          rw [List.length_map] at hi
          refine ⟨rfl, _, rfl, _, _, rfl, rfl, ⟨by decide, by decide, by decide⟩, _, _, rfl, rfl, _, rfl, ite2 (fun _ => ?_) (fun _ => ?_)⟩
          · refine ⟨_, rfl, _, he, ?_, sm3.put nD, es ++ [n], ?_, ?_⟩
            · rw [List.length_map]
              exact small1000 (by omega)
            · rw [List.length_append]
              exact Nat.succ_le_succ el
            · rw [upd_same, List.map_append]
              rfl
          · exact ⟨sm3, es, by omega, he⟩
        · obtain ⟨sm3, es, el, he⟩ := h3
          rw [List.length_map] at el
          have s3 : Same H H3 := sH.trans sm3
          refine ⟨D, _, rfl, SqL.of he, fun b nb => ⟨_, rfl, (by show 2 ≤ sizeLine; decide), fun a na => ?_⟩⟩
          have sb : Same H (upd H3 b (.lst (es.map V.int).reverse)) := s3.trans (same_upd nb)
          have nab : b ≠ a := fun z => by
            rw [← z, upd_same] at na
            cases na
          refine q a b _ (sb.trans (same_upd na)) (sb.free na) (s3.free nb) ⟨es.reverse, m, upd_same, ?_, ?_, m0, m1⟩
          · rw [upd_ne nab, upd_same, List.map_reverse]
          · rw [List.length_reverse]
            omega
end
end Ov

namespace Ov
open PySem PySem.Spec PyProof.Rows L2
open Evl (pss_cut tCut)

/-- a def of the text: where it stands, its name, how its arguments bind -/
structure Df (K : PySem.W.Frag) (mg : Str → Option Value) (x : Str) (st : Stmt) (ps : List Str) (f : Addr) (fd : FuncData) : Prop where
  F : Fun K x x st f fd
  g : mg x = some (.ref f)
  b : Binds K fd ps []

/-! ### what stands apart from a deal -/
theorem Kp.put {a b : Addr} {H H' : Hp} {p : Addr} {o : HO} (k : Kp a b H H') (h : H p = Option.none) : Kp a b H (upd H' p o) := fun c u h1 h2 e => by
  rw [upd_ne (ne_of_none e h)]
  exact k c u h1 h2 e
theorem Kp.sqL {K : PySem.W.Frag} {a b : Addr} {H H' : Hp} {l : Addr} {xs : List V} (k : Kp a b H H') (h1 : l ≠ a) (h2 : l ≠ b) (h : SqL K H l xs) : SqL K H' l xs := by
  rcases h with (h | ⟨o, h⟩) | h
  · exact .inl (.inl (k _ _ h1 h2 h))
  · exact .inl (.inr ⟨o, k _ _ h1 h2 h⟩)
  · exact .inr h
theorem Kp.sqT {K : PySem.W.Frag} {a b : Addr} {H H' : Hp} {l : Addr} {xs : List V} (k : Kp a b H H') (h1 : l ≠ a) (h2 : l ≠ b) (h : SqT K H l xs) : SqT K H' l xs := by
  rcases h with (h | ⟨o, h⟩) | h
  · exact .inl (.inl (k _ _ h1 h2 h))
  · exact .inl (.inr ⟨o, k _ _ h1 h2 h⟩)
  · exact .inr h
theorem Deal.netup {H : Hp} {a b p : Addr} {xs : List V} (D : Deal H a b) (h : H p = some (.tup xs)) : p ≠ a ∧ p ≠ b := by
  obtain ⟨ns, m, h1, h2, _⟩ := D.ex
  exact ⟨ne_of h h1 (fun z => nomatch z), ne_of h h2 (fun z => nomatch z)⟩
theorem Deal.put {H : Hp} {a b p : Addr} {o : HO} (D : Deal H a b) (na : p ≠ a) (nb : p ≠ b) : Deal (upd H p o) a b := by
  obtain ⟨ns, m, h1, h2, r⟩ := D.ex
  exact ⟨ns, m, by rw [upd_ne na.symm]; exact h1, by rw [upd_ne nb.symm]; exact h2, r⟩

/-! ### rules as data -/
def kindsAll : List Str := ["ask", "day", "off", "stop", "answer"]
def testsL : List Str := ["whole", "own", "above whole", "above own", "level whole", "level own", "later whole", "later own"]
def testsOf (k : Str) : List Str := if k = "answer" then ["level"] else testsL
def deedsOf (k : Str) : List Str := if k = "answer" then ["count", "count", "drop"] else ["take", "take", "wipe"]
def testsNot (k : Str) : List Str := testsOf k ++ (testsOf k).map (("not " : Str) ++ ·)
structure RuleD where
  k : Str
  ts : List Str
  ds : List Str
structure RuleD.Ok (r : RuleD) : Prop where
  k : r.k ∈ kindsAll
  ts : ∀ t ∈ r.ts, t ∈ testsNot r.k
  ds : ∀ d ∈ r.ds, d ∈ deedsOf r.k
  nt : r.ts.length ≤ 4
  nd : r.ds.length ≤ 4
/-- a drawn rule: a tuple of its kind, tests, deeds -/
def RuleAt (H : Hp) (p : Addr) (r : RuleD) : Prop := ∃ t d : Addr, H p = some (.tup [.str r.k, .ref t, .ref d]) ∧ H t = some (.tup (r.ts.map V.str)) ∧ H d = some (.tup (r.ds.map V.str))
theorem RuleAt.same {H H' : Hp} {p : Addr} {r : RuleD} (h : RuleAt H p r) (s : Same H H') : RuleAt H' p r := by
  obtain ⟨t, d, h1, h2, h3⟩ := h
  exact ⟨t, d, s _ _ h1, s _ _ h2, s _ _ h3⟩
theorem RuleAt.kp {H H' : Hp} {a b p : Addr} {r : RuleD} (h : RuleAt H p r) (k : Kp a b H H') (D : Deal H a b) : RuleAt H' p r := by
  obtain ⟨t, d, h1, h2, h3⟩ := h
  have n1 := D.netup h1
  have n2 := D.netup h2
  have n3 := D.netup h3
  exact ⟨t, d, k _ _ n1.1 n1.2 h1, k _ _ n2.1 n2.2 h2, k _ _ n3.1 n3.2 h3⟩
theorem str_nil_app (y : Str) : (("" : Str) ++ y) = y := by
  have e : ("" : Str) = Str.empty := by decide +kernel
  rw [e]
  exact Str.empty_append y
theorem mem_len {l : List Str} (n : Nat) (h : ∀ x ∈ l, x.length ≤ n) {x : Str} (hx : x ∈ l) : x.length ≤ n := h x hx
theorem testsNot_len {k t : Str} (h : t ∈ testsNot k) : t.length ≤ 16 := by
  have h1 : ∀ t ∈ testsL ++ testsL.map (("not " : Str) ++ ·), t.length ≤ 16 := by decide +kernel
  have h2 : ∀ t ∈ (["level"] : List Str) ++ (["level"] : List Str).map (("not " : Str) ++ ·), t.length ≤ 16 := by decide +kernel
  unfold testsNot testsOf at h
  split at h
  · exact h2 t h
  · exact h1 t h
theorem deedsOf_len {k t : Str} (h : t ∈ deedsOf k) : t.length ≤ 16 := by
  have h1 : ∀ t ∈ (["count", "count", "drop"] : List Str), t.length ≤ 16 := by decide +kernel
  have h2 : ∀ t ∈ (["take", "take", "wipe"] : List Str), t.length ≤ 16 := by decide +kernel
  unfold deedsOf at h
  split at h
  · exact h1 t h
  · exact h2 t h
theorem testsOf_len {k t : Str} (h : t ∈ testsOf k) : t.length ≤ 16 := testsNot_len (List.mem_append_left _ h)
theorem kinds_len {k : Str} (h : k ∈ kindsAll) : k.length ≤ 16 := by
  have h1 : ∀ t ∈ kindsAll, t.length ≤ 16 := by decide +kernel
  exact h1 k h
theorem size_of {n : Nat} (h : n ≤ 100000) : n ≤ sizeLine := Nat.le_trans h (by decide)

def spPick (K : PySem.W.Frag) : Sp := fun vs H Q _ => ∃ (a b l : Addr) (xs : List V), vs = [.ref a, .ref l] ∧ Deal H a b ∧ l ≠ a ∧ l ≠ b ∧ (SqL K H l xs ∨ SqT K H l xs) ∧ 0 < xs.length ∧ xs.length < 1000000 ∧
  ∀ x H', x ∈ xs → Kp a b H H' → Deal H' a b → Q x H'
def spTestsOf : Sp := fun vs H Q _ => ∃ k : Str, vs = [.str k] ∧ ∀ l H', Same H H' → H l = none → H' l = some (.lst ((testsOf k).map V.str)) → Q (.ref l) H'
def spDeedsOf : Sp := fun vs H Q _ => ∃ k : Str, vs = [.str k] ∧ ∀ l H', Same H H' → H l = none → H' l = some (.lst ((deedsOf k).map V.str)) → Q (.ref l) H'
def spWideRule : Sp := fun vs H Q _ => ∃ (a b : Addr), vs = [.ref a] ∧ Deal H a b ∧ ∀ p (r : RuleD) H', r.Ok → Kp a b H H' → Deal H' a b → RuleAt H' p r → Q (.ref p) H'

section
variable {P : Program} {w : World} {K : PySem.W.Frag} {mg : Str → Option Value} {base : Heap}
abbrev sPick : Stmt := topS 32
theorem scPick : FnScope ["_law_deal_here", "_law_some"] ["_law_deal_here", "_law_some"] (defScope sPick) := ⟨rfl, rfl, rfl, by decide +kernel, rfl, by decide +kernel, by decide +kernel⟩
abbrev sTestsOf : Stmt := topS 34
theorem scTestsOf : FnScope ["_law_kind", "_law_found", "_law_word"] ["_law_kind"] (defScope sTestsOf) := ⟨rfl, rfl, rfl, by decide +kernel, rfl, by decide +kernel, by decide +kernel⟩
abbrev sDeedsOf : Stmt := topS 35
theorem scDeedsOf : FnScope ["_law_kind"] ["_law_kind"] (defScope sDeedsOf) := ⟨rfl, rfl, rfl, by decide +kernel, rfl, by decide +kernel, by decide +kernel⟩
abbrev sWideRule : Stmt := topS 42
theorem scWideRule : FnScope ["_law_deal_here", "_law_kind", "_law_found", "_law_done", "_law_turn"] ["_law_deal_here"] (defScope sWideRule) := ⟨rfl, rfl, rfl, by decide +kernel, rfl, by decide +kernel, by decide +kernel⟩
theorem ok_pick {f fDraw : Addr} {fd fdDraw : FuncData} (F : Fun K "_law_pick" "_law_pick" sPick f fd) (T : TxB mg) (D_draw : Df K mg "_law_draw" sDraw ["_law_deal_here", "_law_many"] fDraw fdDraw) :
    FnOk P w K mg base CX0 2 f fd ["_law_deal_here", "_law_some"] (spPick K) := by
  have G_draw : FnOk P w K mg base CX0 1 fDraw fdDraw ["_law_deal_here", "_law_many"] spDraw := ok_draw D_draw.F T.n_int
  refine F.ok scPick (fun vs H Q E h => ?_) (fun cdv A outer s H vs Q E hr h => ?_)
  · obtain ⟨a, b, l, xs, rfl, _⟩ := h
    rfl
  · obtain ⟨a, b, l, xs, rfl, D, na, nb, hS, h0, h1, q⟩ := h
    refine ⟨_, pss_one (ps_ret (pe_ix ix_seq (pv 1) (pe_call G_draw (hr.mono (by decide)) rfl D_draw.g D_draw.F.kp D_draw.b .nil pass0 (pa_cons (pv 0) (pa_cons (pe_callB call_len_seq (by rfl) T.n_len (by decide +kernel) (pa_cons (pv 1) pa_nil)) pa_nil))) (fun _ _ => rfl))), ?_⟩
    refine ⟨_, rfl, _, rfl, _, rfl, l, xs, rfl, hS, a, b, _, rfl, D, by omega, by omega, fun r H1 r0 r1 kp D1 => ?_⟩
    obtain ⟨i, rfl⟩ := Int.eq_ofNat_of_zero_le r0
    have hi : i < xs.length := by omega
    have e := List.getElem?_eq_getElem hi
    have m := List.getElem_mem hi
    rcases hS with hS | hS
    · exact .inl ⟨l, xs, _, _, rfl, rfl, kp.sqL na nb hS, atI_nat e, q _ _ m kp D1⟩
    · exact .inr (.inl ⟨l, xs, _, _, rfl, rfl, kp.sqT na nb hS, atI_nat e, q _ _ m kp D1⟩)
theorem ok_tests_of {f : Addr} {fd : FuncData} (F : Fun K "_law_tests_of" "_law_tests_of" sTestsOf f fd) : FnOk P w K mg base CX0 1 f fd ["_law_kind"] spTestsOf := by
  refine F.ok scTestsOf (fun vs H Q E h => ?_) (fun cdv A outer s H vs Q E hr h => ?_)
  · obtain ⟨k, rfl, _⟩ := h
    rfl
  · obtain ⟨k, rfl, q⟩ := h
    refine ⟨_, pss_cons (ps_if (pt_cmpR op_eq (pv 0) pe_str (nomark _)) (pss_one (ps_ret (pe_lst (pa_cons pe_str pa_nil)))) pss_nil)
      (pss_cons (ps_set (i := 1) scTestsOf.nd rfl (.inl rfl) (pe_lst (pa_cons pe_str (pa_cons pe_str pa_nil))))
      (pss_cut (ps_for PassesOwn.never rfl (pi_tup (pe_tup (pa_cons pe_str (pa_cons pe_str (pa_cons pe_str pa_nil))))) (pg_name (i := 2) scTestsOf.nd rfl (Or.inl rfl)) (pss_one (ps_expr (pe_bm PySem.F.plainAttrs_list PySem.F.slot_list_extend PySem.F.type_list_extend mt_extend (pv 1) (pa_cons (pe_lst (pa_cons (pe_op op_add_str (pv 2) pe_str) (pa_cons (pe_op op_add_str (pv 2) pe_str) pa_nil))) pa_nil)))))
      (pss_one (ps_ret (pv 1))))), ?_⟩
    refine ⟨_, rfl, rfl, _, rfl, ite2 (fun e => ?_) (fun e => ?_)⟩
    · refine ⟨by show 1 ≤ sizeLine; decide, fun p np => ?_⟩
      have ek : k = "answer" := by
        have := of_decide_eq_true e
        injection this
      refine q p _ (same_upd np) np ?_
      rw [upd_same, ek]
      rfl
    · refine ⟨by show 2 ≤ sizeLine; decide, fun l nl => ?_⟩
      have ek : ¬ k = "answer" := fun z => e (decide_eq_true (by rw [z]))
      have s1 : Same H (upd H l (.lst [.str "whole", .str "own"])) := same_upd nl
      refine ⟨fun σ H' => ∃ v, σ = [some (.str k), some (.ref l), v] ∧ Same H H' ∧ H' l = some (.lst (testsL.map V.str)), ?_, ?_⟩
      · refine ⟨by show 3 ≤ sizeLine; decide, fun t nt => ⟨t, rfl, ⟨_, SqT.of upd_same⟩, ?_⟩⟩
        have ntl : t ≠ l := fun z => by
          rw [z, upd_same] at nt
          cases nt
        refine for_tup (K := K) (a := t) (xs := [.str "above", .str "level", .str "later"]) (fun i σ H' => ∃ v, σ = [some (.str k), some (.ref l), v] ∧ Same H H' ∧ H' t = some (.tup [.str "above", .str "level", .str "later"]) ∧ H' l = some (.lst ((testsL.take (2 + 2 * i)).map V.str)))
          ⟨_, rfl, s1.trans (same_upd nt), upd_same, by rw [upd_ne ntl.symm, upd_same]; rfl⟩ (fun i σ H' _ ⟨_, _, _, e, _⟩ => SqT.of e) ?_ ?_
        · rintro i x σ H' hx ⟨v, rfl, sm, ht, hl⟩
          obtain ⟨y, rfl, ey⟩ : ∃ y : Str, x = .str y ∧ testsL.take (2 + 2 * i) ++ [y ++ " whole", y ++ " own"] = testsL.take (2 + 2 * (i + 1)) ∧ y.length ≤ 5 := by
            match i, hx with
            | 0, hx => exact ⟨_, (Option.some.inj hx).symm, by decide +kernel⟩
            | 1, hx => exact ⟨_, (Option.some.inj hx).symm, by decide +kernel⟩
            | 2, hx => exact ⟨_, (Option.some.inj hx).symm, by decide +kernel⟩
            | i + 3, hx => cases hx
          have hy : ∀ z : Str, z.length ≤ 6 → y.length + z.length ≤ sizeLine := fun z hz => size_of (by omega)
          refine ⟨_, rfl, .inl ⟨rfl, _, SqL.of hl⟩, _, rfl, _, _, rfl, rfl, hy _ (by decide +kernel), _, rfl, _, _, rfl, rfl, hy _ (by decide +kernel), by show 2 ≤ sizeLine; decide, fun m nm => ?_⟩
          have nml : l ≠ m := ne_of_none hl nm
          have nmt : t ≠ m := ne_of_none ht nm
          refine ⟨l, m, _, _, rfl, rfl, by rw [upd_ne nml]; exact hl, upd_same, ?_, ?_⟩
          · rw [List.length_map, List.length_take]
            show _ + 2 ≤ sizeLine
            have e8 : testsL.length = 8 := rfl
            exact size_of (by omega)
          · refine ⟨_, rfl, (sm.trans (same_upd nm)).put nl, ?_, ?_⟩
            · rw [upd_ne ntl, upd_ne nmt]
              exact ht
            · rw [upd_same, ← ey.1, List.map_append]
              rfl
        · rintro σ H' ⟨v, rfl, sm, ht, hl⟩
          exact ⟨_, rfl, sm, hl⟩
      · rintro σ H' ⟨v, rfl, sm, hl⟩
        refine ⟨_, rfl, q l H' sm nl ?_⟩
        rw [hl]
        unfold testsOf
        rw [if_neg ek]
theorem ok_deeds_of {f : Addr} {fd : FuncData} (F : Fun K "_law_deeds_of" "_law_deeds_of" sDeedsOf f fd) : FnOk P w K mg base CX0 1 f fd ["_law_kind"] spDeedsOf := by
  refine F.ok scDeedsOf (fun vs H Q E h => ?_) (fun cdv A outer s H vs Q E hr h => ?_)
  · obtain ⟨k, rfl, _⟩ := h
    rfl
  · obtain ⟨k, rfl, q⟩ := h
    refine ⟨_, pss_one (ps_ret (pe_ifExp (pt_cmpR op_eq (pv 0) pe_str (nomark _)) (pe_lst (pa_cons pe_str (pa_cons pe_str (pa_cons pe_str pa_nil)))) (pe_lst (pa_cons pe_str (pa_cons pe_str (pa_cons pe_str pa_nil)))))), ?_⟩
    refine ⟨_, rfl, rfl, _, rfl, ite2 (fun e => ?_) (fun e => ?_)⟩
    · refine ⟨by show 3 ≤ sizeLine; decide, fun p np => ?_⟩
      have ek : k = "answer" := by
        have := of_decide_eq_true e
        injection this
      refine q p _ (same_upd np) np ?_
      rw [upd_same, ek]
      rfl
    · refine ⟨by show 3 ≤ sizeLine; decide, fun p np => ?_⟩
      have ek : ¬ k = "answer" := fun z => e (decide_eq_true (by rw [z]))
      refine q p _ (same_upd np) np ?_
      rw [upd_same]
      unfold deedsOf
      rw [if_neg ek]
      rfl
theorem ok_wide_rule {f fDraw fPick fTests fDeeds : Addr} {fd fdDraw fdPick fdTests fdDeeds : FuncData} (F : Fun K "_law_wide_rule" "_law_wide_rule" sWideRule f fd) (T : TxB mg)
    (D_draw : Df K mg "_law_draw" sDraw ["_law_deal_here", "_law_many"] fDraw fdDraw) (D_pick : Df K mg "_law_pick" sPick ["_law_deal_here", "_law_some"] fPick fdPick)
    (D_tests_of : Df K mg "_law_tests_of" sTestsOf ["_law_kind"] fTests fdTests) (D_deeds_of : Df K mg "_law_deeds_of" sDeedsOf ["_law_kind"] fDeeds fdDeeds) : FnOk P w K mg base CX0 3 f fd ["_law_deal_here"] spWideRule := by
  have G_draw : FnOk P w K mg base CX0 1 fDraw fdDraw ["_law_deal_here", "_law_many"] spDraw := ok_draw D_draw.F T.n_int
  have G_pick : FnOk P w K mg base CX0 2 fPick fdPick ["_law_deal_here", "_law_some"] (spPick K) := ok_pick D_pick.F T D_draw
  have G_tests_of : FnOk P w K mg base CX0 1 fTests fdTests ["_law_kind"] spTestsOf := ok_tests_of D_tests_of.F
  have G_deeds_of : FnOk P w K mg base CX0 1 fDeeds fdDeeds ["_law_kind"] spDeedsOf := ok_deeds_of D_deeds_of.F
  refine F.ok scWideRule (fun vs H Q E h => ?_) (fun cdv A outer s H vs Q E hr h => ?_)
  · obtain ⟨a, b, rfl, _⟩ := h
    rfl
  · obtain ⟨a, b, rfl, D, q⟩ := h
    refine ⟨_, pss_cons (ps_set (i := 1) scWideRule.nd rfl (.inl rfl) (pe_call G_pick (hr.mono (by decide)) rfl D_pick.g D_pick.F.kp D_pick.b .nil pass0 (pa_cons (pv 0) (pa_cons (pe_lst (pa_cons pe_str (pa_cons pe_str (pa_cons pe_str (pa_cons pe_str (pa_cons pe_str pa_nil)))))) pa_nil))))
      (pss_cons (ps_par (i := 2) (j := 3) (by rfl) scWideRule.nd rfl rfl (by decide) rfl rfl (pa_cons (pe_lst pa_nil) (pa_cons (pe_lst pa_nil) pa_nil)) (by rfl))
      (pss_cut (ps_for PassesOwn.never rfl (pi_range1 rfl T.n_range (pa_cons (pe_call G_draw (hr.mono (by decide)) rfl D_draw.g D_draw.F.kp D_draw.b .nil pass0 (pa_cons (pv 0) (pa_cons pe_int pa_nil))) pa_nil)) (pg_name (i := 4) scWideRule.nd rfl (Or.inl rfl)) (pss_one (ps_expr (pe_bm PySem.F.plainAttrs_list PySem.F.slot_list_append PySem.F.type_list_append mt_append (pv 2) (pa_cons (pe_op op_add_str (pe_call G_pick (hr.mono (by decide)) rfl D_pick.g D_pick.F.kp D_pick.b .nil pass0 (pa_cons (pv 0) (pa_cons (pe_lst (pa_cons pe_str (pa_cons pe_str pa_nil))) pa_nil))) (pe_call G_pick (hr.mono (by decide)) rfl D_pick.g D_pick.F.kp D_pick.b .nil pass0 (pa_cons (pv 0) (pa_cons (pe_call G_tests_of (hr.mono (by decide)) rfl D_tests_of.g D_tests_of.F.kp D_tests_of.b .nil pass0 (pa_cons (pv 1) pa_nil)) pa_nil)))) pa_nil)))))
      (pss_cut (ps_for PassesOwn.never rfl (pi_range1 rfl T.n_range (pa_cons (pe_call G_draw (hr.mono (by decide)) rfl D_draw.g D_draw.F.kp D_draw.b .nil pass0 (pa_cons (pv 0) (pa_cons pe_int pa_nil))) pa_nil)) (pg_name (i := 4) scWideRule.nd rfl (Or.inl rfl)) (pss_one (ps_expr (pe_bm PySem.F.plainAttrs_list PySem.F.slot_list_append PySem.F.type_list_append mt_append (pv 3) (pa_cons (pe_call G_pick (hr.mono (by decide)) rfl D_pick.g D_pick.F.kp D_pick.b .nil pass0 (pa_cons (pv 0) (pa_cons (pe_call G_deeds_of (hr.mono (by decide)) rfl D_deeds_of.g D_deeds_of.F.kp D_deeds_of.b .nil pass0 (pa_cons (pv 1) pa_nil)) pa_nil))) pa_nil)))))
      (pss_one (ps_ret (pe_tup (pa_cons (pv 1) (pa_cons (pe_callTy call_tuple_of (by rfl) T.n_tuple (by decide +kernel) (pa_cons (pv 2) pa_nil)) (pa_cons (pe_callTy call_tuple_of (by rfl) T.n_tuple (by decide +kernel) (pa_cons (pv 3) pa_nil)) pa_nil))))))))), ?_⟩
    refine ⟨_, rfl, by show 5 ≤ sizeLine; decide, fun l nl => ⟨a, b, l, _, rfl, D.new nl, D.nea nl, D.neb nl, .inl (SqL.of upd_same), by decide, by decide, fun x H1 hx kp1 D1 => ?_⟩⟩
    obtain ⟨kd, rfl, hk⟩ : ∃ kd : Str, x = .str kd ∧ kd ∈ kindsAll := by
      have h2 : x ∈ kindsAll.map V.str := hx
      obtain ⟨kd, h3, h4⟩ := List.mem_map.mp h2
      exact ⟨kd, h4.symm, h3⟩
    have k1 : Kp a b H H1 := (Kp.new nl).trans kp1
    -- found, done = [], []
    refine ⟨Nat.zero_le _, fun F1 nF => ⟨Nat.zero_le _, fun G1 nG => ⟨_, _, rfl, ?_⟩⟩⟩
    have nG1 : H1 G1 = none := (same_upd nF).free nG
    have nGF : G1 ≠ F1 := fun z => by
      rw [z, upd_same] at nG
      cases nG
    have k2 : Kp a b H (upd (upd H1 F1 (.lst [])) G1 (.lst [])) := (k1.trans (Kp.new nF)).trans (Kp.new nG)
    have D2 : Deal (upd (upd H1 F1 (.lst [])) G1 (.lst [])) a b := (D1.new nF).new nG
    have zF : H F1 = none := k1.none D1 nF
    have zG : H G1 = none := k1.none D1 nG1
    have Fa := D1.nea nF
    have Fb := D1.neb nF
    have Ga := D1.nea nG1
    have Gb := D1.neb nG1
    -- the tests
    refine ⟨fun σ H' => ∃ (v : Option V) (ts : List Str), σ = [some (.ref a), some (.str kd), some (.ref F1), some (.ref G1), v] ∧ Kp a b H H' ∧ Deal H' a b ∧ H' F1 = some (.lst (ts.map V.str)) ∧ H' G1 = some (.lst []) ∧ (∀ t ∈ ts, t ∈ testsNot kd) ∧ ts.length ≤ 4, ?_, ?_⟩
    · refine ⟨_, rfl, a, b, 5, rfl, D2, by decide, by decide, fun r H2 r0 r1 kp2 D3 => ⟨r, rfl, by omega, by omega, ?_⟩⟩
      refine for_range (lo := 0) (n := r.toNat) (fun i σ H' => ∃ (v : Option V) (ts : List Str), σ = [some (.ref a), some (.str kd), some (.ref F1), some (.ref G1), v] ∧ Kp a b H H' ∧ Deal H' a b ∧ H' F1 = some (.lst (ts.map V.str)) ∧ H' G1 = some (.lst []) ∧ (∀ t ∈ ts, t ∈ testsNot kd) ∧ ts.length = i)
        ⟨_, [], rfl, k2.trans kp2, D3, kp2 _ _ Fa Fb (by rw [upd_ne nGF.symm]; exact upd_same), kp2 _ _ Ga Gb upd_same, fun t ht => absurd ht List.not_mem_nil, rfl⟩ ?_ ?_
      · rintro i σ H3 hi ⟨v, ts, rfl, k3, D3, hF, hG, hts, hlen⟩
        refine ⟨_, rfl, .inl ⟨rfl, _, SqL.of hF⟩, _, rfl, by show 2 ≤ sizeLine; decide, fun l1 n1 => ⟨a, b, l1, _, rfl, D3.new n1, D3.nea n1, D3.neb n1, .inl (SqL.of upd_same), by decide, by decide, fun x H4 hx kp4 D4 => ?_⟩⟩
        obtain ⟨x', rfl, hx'⟩ : ∃ z : Str, x = .str z ∧ z ∈ (["", "not "] : List Str) := by
          have h2 : x ∈ (["", "not "] : List Str).map V.str := hx
          obtain ⟨z, h3, h4⟩ := List.mem_map.mp h2
          exact ⟨z, h4.symm, h3⟩
        refine ⟨_, rfl, _, rfl, kd, rfl, fun l2 H5 s5 n5 h5 => ?_⟩
        have t0 : 0 < (testsOf kd).length ∧ (testsOf kd).length < 1000000 := by
          unfold testsOf
          split
          · decide
          · decide
        refine ⟨a, b, l2, _, rfl, D4.keep s5, D4.nea n5, D4.neb n5, .inl (SqL.of h5), by rw [List.length_map]; exact t0.1, by rw [List.length_map]; exact t0.2, fun y H6 hy kp6 D6 => ?_⟩
        obtain ⟨y', hy', rfl⟩ := List.mem_map.mp hy
        have m : x' ++ y' ∈ testsNot kd := by
          unfold testsNot
          rcases List.mem_cons.mp hx' with e | hx'
          · rw [e]
            refine List.mem_append_left _ ?_
            have e2 : (("" : Str) ++ y') = y' := str_nil_app y'
            rw [e2]
            exact hy'
          · rw [List.mem_singleton.mp hx']
            exact List.mem_append_right _ (List.mem_map_of_mem hy')
        have kk : Kp a b H3 H6 := (((Kp.new n1).trans kp4).trans (Kp.same s5)).trans kp6
        have lx : x'.length ≤ 4 := by
          have h0 : ∀ z ∈ (["", "not "] : List Str), z.length ≤ 4 := by decide +kernel
          exact h0 _ hx'
        have ly := testsOf_len hy'
        refine ⟨_, _, rfl, rfl, size_of (by omega), F1, _, _, rfl, rfl, kk _ _ Fa Fb hF, ?_, ?_⟩
        · rw [List.length_map]
          exact small1000 (by omega)
        · refine ⟨_, ts ++ [x' ++ y'], rfl, (k3.trans kk).put zF, D6.put Fa Fb, ?_, ?_, ?_, ?_⟩
          · rw [upd_same, List.map_append]
            rfl
          · rw [upd_ne nGF]
            exact kk _ _ Ga Gb hG
          · intro t ht
            rcases List.mem_append.mp ht with ht | ht
            · exact hts t ht
            · rw [List.mem_singleton.mp ht]
              exact m
          · rw [List.length_append, hlen]
            rfl
      · rintro σ H3 ⟨v, ts, rfl, k3, D3, hF, hG, hts, hlen⟩
        exact ⟨v, ts, rfl, k3, D3, hF, hG, hts, by omega⟩
    · rintro σ H2 ⟨v, ts, rfl, k2, D2, hF, hG, hts, hlen⟩
      -- the deeds
      refine ⟨fun σ H' => ∃ (v : Option V) (ds : List Str), σ = [some (.ref a), some (.str kd), some (.ref F1), some (.ref G1), v] ∧ Kp a b H H' ∧ Deal H' a b ∧ H' F1 = some (.lst (ts.map V.str)) ∧ H' G1 = some (.lst (ds.map V.str)) ∧ (∀ t ∈ ds, t ∈ deedsOf kd) ∧ ds.length ≤ 4, ?_, ?_⟩
      · refine ⟨_, rfl, a, b, 5, rfl, D2, by decide, by decide, fun r H3 r0 r1 kp2 D3 => ⟨r, rfl, by omega, by omega, ?_⟩⟩
        refine for_range (lo := 0) (n := r.toNat) (fun i σ H' => ∃ (v : Option V) (ds : List Str), σ = [some (.ref a), some (.str kd), some (.ref F1), some (.ref G1), v] ∧ Kp a b H H' ∧ Deal H' a b ∧ H' F1 = some (.lst (ts.map V.str)) ∧ H' G1 = some (.lst (ds.map V.str)) ∧ (∀ t ∈ ds, t ∈ deedsOf kd) ∧ ds.length = i)
          ⟨_, [], rfl, k2.trans kp2, D3, kp2 _ _ Fa Fb hF, kp2 _ _ Ga Gb hG, fun t ht => absurd ht List.not_mem_nil, rfl⟩ ?_ ?_
        · rintro i σ H3 hi ⟨v, ds, rfl, k3, D3, hF, hG, hds, hl⟩
          refine ⟨_, rfl, .inl ⟨rfl, _, SqL.of hG⟩, _, rfl, _, rfl, kd, rfl, fun l2 H5 s5 n5 h5 => ?_⟩
          have t0 : 0 < (deedsOf kd).length ∧ (deedsOf kd).length < 1000000 := by
            unfold deedsOf
            split
            · decide
            · decide
          refine ⟨a, b, l2, _, rfl, D3.keep s5, D3.nea n5, D3.neb n5, .inl (SqL.of h5), by rw [List.length_map]; exact t0.1, by rw [List.length_map]; exact t0.2, fun y H6 hy kp6 D6 => ?_⟩
          obtain ⟨y', hy', rfl⟩ := List.mem_map.mp hy
          have kk : Kp a b H3 H6 := (Kp.same s5).trans kp6
          refine ⟨G1, _, _, rfl, rfl, kk _ _ Ga Gb hG, ?_, ?_⟩
          · rw [List.length_map]
            exact small1000 (by omega)
          · refine ⟨_, ds ++ [y'], rfl, (k3.trans kk).put zG, D6.put Ga Gb, ?_, ?_, ?_, ?_⟩
            · rw [upd_ne nGF.symm]
              exact kk _ _ Fa Fb hF
            · rw [upd_same, List.map_append]
              rfl
            · intro t ht
              rcases List.mem_append.mp ht with ht | ht
              · exact hds t ht
              · rw [List.mem_singleton.mp ht]
                exact hy'
            · rw [List.length_append, hl]
              rfl
        · rintro σ H3 ⟨v, ds, rfl, k3, D3, hF, hG, hds, hl⟩
          exact ⟨v, ds, rfl, k3, D3, hF, hG, hds, by omega⟩
      · rintro σ H3 ⟨v, ds, rfl, k3, D3, hF, hG, hds, hl⟩
        -- (kind, tuple(found), tuple(done))
        refine ⟨_, rfl, _, rfl, F1, _, rfl, .inl ⟨SqL.of hF, fun t nt => ⟨_, rfl, G1, _, rfl, .inl ⟨SqL.of (by rw [upd_ne (ne_of_none hG nt)]; exact hG), fun d nd => ⟨by show 3 ≤ sizeLine; decide, fun p np => ?_⟩⟩⟩⟩⟩
        have s1 := same_upd (o := HO.tup (ts.map V.str)) nt
        have s2 := same_upd (o := HO.tup (ds.map V.str)) nd
        have s3 := same_upd (o := HO.tup [V.str kd, .ref t, .ref d]) np
        refine q p ⟨kd, ts, ds⟩ _ ⟨hk, hts, hds, hlen, hl⟩ (((k3.trans (Kp.same s1)).trans (Kp.same s2)).trans (Kp.same s3)) (((D3.keep s1).keep s2).keep s3) ⟨t, d, upd_same, s3 _ _ (s2 _ _ upd_same), s3 _ _ upd_same⟩
end
end Ov

namespace Ov
open PySem PySem.Spec PyProof.Rows L2
open Evl (pss_cut tCut Ex Ev EvT EvL EvA EvU)

/-! ### what the text has at its top -/
structure TxR (K : PySem.W.Frag) (mg : Str → Option Value) (a_LETTERS a_LETTER_TESTS a_LETTER_DEEDS a_ANSWER_TESTS a_ANSWER_DEEDS CR : Addr) (tA tN : Tok) : Prop extends TxB mg where
  g_LETTERS : mg "LETTERS" = some (.ref a_LETTERS)
  s_LETTERS : ∀ H, SqT K H a_LETTERS ((["ask", "day", "off", "stop"] : List Str).map V.str)
  g_ANSWER : mg "ANSWER" = some (.str "answer" tA)
  g_NOT : mg "NOT" = some (.str "not " tN)
  g_LETTER_TESTS : mg "LETTER_TESTS" = some (.ref a_LETTER_TESTS)
  s_LETTER_TESTS : ∀ H, SqT K H a_LETTER_TESTS (testsL.map V.str)
  g_LETTER_DEEDS : mg "LETTER_DEEDS" = some (.ref a_LETTER_DEEDS)
  s_LETTER_DEEDS : ∀ H, SqT K H a_LETTER_DEEDS ((["take", "wipe"] : List Str).map V.str)
  g_ANSWER_TESTS : mg "ANSWER_TESTS" = some (.ref a_ANSWER_TESTS)
  s_ANSWER_TESTS : ∀ H, SqT K H a_ANSWER_TESTS ((["level"] : List Str).map V.str)
  g_ANSWER_DEEDS : mg "ANSWER_DEEDS" = some (.ref a_ANSWER_DEEDS)
  s_ANSWER_DEEDS : ∀ H, SqT K H a_ANSWER_DEEDS ((["count", "drop"] : List Str).map V.str)
  g_Rule : mg "Rule" = some (.ref CR)
  n_isinstance : mg "isinstance" = none
  n_str : mg "str" = none
  n_all : mg "all" = none
  cl : Cls K CR
  nK : NoAttr K CR "kind"
  nT : NoAttr K CR "tests"
  nD : NoAttr K CR "deeds"
  ci : PySem.W.findIn K (.ref CR) "__class__" = some (some (.builtin "object.__class__"))
  cs : PySem.W.specialIn K (.builtin "object.__class__") "__get__" = some (some (.builtin "getset_descriptor.__get__"))
  ct : PySem.W.takesIn K (.builtin "object.__class__") = some true
  co : PySem.W.mroIn K CR (.type "object") = some true

/-! ### a value's membership among texts -/
theorem inV_strs (k : Str) : ∀ l : List Str, inV (.str k) (l.map V.str) = decide (k ∈ l)
  | [] => rfl
  | x :: r => by
    have ih := inV_strs k r
    unfold inV at ih ⊢
    rw [List.map_cons, List.any_cons, ih]
    show (x == k || decide (k ∈ r)) = decide (k ∈ x :: r)
    by_cases h : x = k
    · rw [h]
      simp
    · have h2 : ¬ k = x := fun z => h z.symm
      simp [h, h2]
theorem flat_strs (l : List Str) : (l.map V.str).all flatV = true := by
  rw [List.all_eq_true]
  intro x hx
  obtain ⟨y, _, rfl⟩ := List.mem_map.mp hx
  rfl
theorem strs_at {l : List Str} {i : Nat} {x : V} (h : (l.map V.str)[i]? = some x) : ∃ y, x = .str y ∧ l[i]? = some y := by
  rw [List.getElem?_map] at h
  cases e : l[i]? with
  | none =>
    rw [e] at h
    cases h
  | some y =>
    rw [e] at h
    exact ⟨y, (Option.some.inj h).symm, rfl⟩
theorem ex_same {H H' : Hp} (h : Ex H H') : Same H H' := fun b o e => h b o e
theorem tyx_list {K : PySem.W.Frag} {H : Hp} {a : Addr} {xs : List V} (h : SqL K H a xs) : TyX K H (.ref a) (.type "list") := by
  rcases h with (h | ⟨o, h⟩) | ⟨o, its, n, h, c, _⟩
  · exact .base (.lst h)
  · exact .base (.frz h)
  · exact .kList h c
theorem tyx_tuple {K : PySem.W.Frag} {H : Hp} {a : Addr} {xs : List V} (h : SqT K H a xs) : TyX K H (.ref a) (.type "tuple") := by
  rcases h with (h | ⟨o, h⟩) | ⟨o, its, n, h, c, _⟩
  · exact .base (.tup h)
  · exact .fTuple h
  · exact .kTuple h c

/-! ### promises -/
def spIsSeq (K : PySem.W.Frag) : Sp := fun vs H Q _ => ∃ (a : Addr) (xs : List V), vs = [.ref a] ∧ (SqL K H a xs ∨ SqT K H a xs) ∧ ∀ H', Ex H H' → Q (.bl true) H'
def spIsKind : Sp := fun vs H Q _ => ∃ k : Str, vs = [.str k] ∧ Q (.bl (decide (k ∈ kindsAll))) H
def spIsTest : Sp := fun vs H Q _ => ∃ k t : Str, vs = [.str k, .str t] ∧ k ∈ kindsAll ∧ t ∈ testsNot k ∧ Q (.bl true) H
def spIsDeed : Sp := fun vs H Q _ => ∃ k t : Str, vs = [.str k, .str t] ∧ k ∈ kindsAll ∧ t ∈ deedsOf k ∧ Q (.bl true) H
/-- a rule's fields -/
def rf (k : Str) (t d : Addr) : List (Str × V) := putF "deeds" (.ref d) (putF "tests" (.ref t) (putF "kind" (.str k) []))
/-- at p a Rule of the class at C -/
def RuleObj (K : PySem.W.Frag) (C : Addr) (H : Hp) (p : Addr) (r : RuleD) : Prop := ∃ (dx t d : Addr), H p = some (.ins C dx (rf r.k t d)) ∧ SqT K H t (r.ts.map V.str) ∧ SqT K H d (r.ds.map V.str)
theorem RuleObj.ex {K : PySem.W.Frag} {C : Addr} {H H' : Hp} {p : Addr} {r : RuleD} (h : RuleObj K C H p r) (e : Ex H H') : RuleObj K C H' p r := by
  obtain ⟨dx, t, d, h1, h2, h3⟩ := h
  exact ⟨dx, t, d, e _ _ h1, Evl.ex_t e h2, Evl.ex_t e h3⟩
/-- its parts are good (the lengths are bounded far above what is drawn) -/
structure RuleD.Good (r : RuleD) : Prop where
  k : r.k ∈ kindsAll
  ts : ∀ t ∈ r.ts, t ∈ testsNot r.k
  ds : ∀ d ∈ r.ds, d ∈ deedsOf r.k
  nt : r.ts.length ≤ 1000
  nd : r.ds.length ≤ 1000
theorem RuleD.Good.pt {r : RuleD} (g : r.Good) : Plain r.ts := fun t ht => by
  have h1 : ∀ t ∈ testsL ++ testsL.map (("not " : Str) ++ ·), PyData.canLay0 (.str t) = true := by decide +kernel
  have h2 : ∀ t ∈ (["level"] : List Str) ++ (["level"] : List Str).map (("not " : Str) ++ ·), PyData.canLay0 (.str t) = true := by decide +kernel
  have h := g.ts t ht
  unfold testsNot testsOf at h
  split at h
  · exact h2 t h
  · exact h1 t h
theorem RuleD.Good.pd {r : RuleD} (g : r.Good) : Plain r.ds := fun t ht => by
  have h1 : ∀ t ∈ (["count", "count", "drop"] : List Str), PyData.canLay0 (.str t) = true := by decide +kernel
  have h2 : ∀ t ∈ (["take", "take", "wipe"] : List Str), PyData.canLay0 (.str t) = true := by decide +kernel
  have h := g.ds t ht
  unfold deedsOf at h
  split at h
  · exact h1 t h
  · exact h2 t h
theorem RuleD.Ok.good {r : RuleD} (h : r.Ok) : r.Good := ⟨h.k, h.ts, h.ds, Nat.le_trans h.nt (by decide), Nat.le_trans h.nd (by decide)⟩
def spRuleInit (K : PySem.W.Frag) (C : Addr) : Sp := fun vs H Q _ => ∃ (p t d dx : Addr) (r : RuleD), vs = [.ref p, .str r.k, .ref t, .ref d] ∧ H p = some (.ins C dx []) ∧ (SqL K H t (r.ts.map V.str) ∨ SqT K H t (r.ts.map V.str)) ∧ (SqL K H d (r.ds.map V.str) ∨ SqT K H d (r.ds.map V.str)) ∧ r.Good ∧
  ∀ H', (∀ b o, b ≠ p → H b = some o → H' b = some o) → RuleObj K C H' p r → Q .non H'

section
variable {P : Program} {w : World} {K : PySem.W.Frag} {mg : Str → Option Value} {base : Heap} {a_LETTERS a_LETTER_TESTS a_LETTER_DEEDS a_ANSWER_TESTS a_ANSWER_DEEDS CR : Addr} {tA tN : Tok}
abbrev sIsSequence : Stmt := topS 8
theorem scIsSequence : FnScope ["value"] ["value"] (defScope sIsSequence) := ⟨rfl, rfl, rfl, by decide +kernel, rfl, by decide +kernel, by decide +kernel⟩
abbrev sIsKind : Stmt := topS 19
theorem scIsKind : FnScope ["value"] ["value"] (defScope sIsKind) := ⟨rfl, rfl, rfl, by decide +kernel, rfl, by decide +kernel, by decide +kernel⟩
abbrev sIsTest : Stmt := topS 20
theorem scIsTest : FnScope ["kind", "value", "known"] ["kind", "value"] (defScope sIsTest) := ⟨rfl, rfl, rfl, by decide +kernel, rfl, by decide +kernel, by decide +kernel⟩
abbrev sIsDeed : Stmt := topS 21
theorem scIsDeed : FnScope ["kind", "value", "known"] ["kind", "value"] (defScope sIsDeed) := ⟨rfl, rfl, rfl, by decide +kernel, rfl, by decide +kernel, by decide +kernel⟩
abbrev sRuleInit : Stmt := inClass (topS 23) 0
theorem scRuleInit : FnScope ["self", "kind", "tests", "deeds", "deed", "test"] ["self", "kind", "tests", "deeds"] (defScope sRuleInit) := ⟨rfl, rfl, rfl, by decide +kernel, rfl, by decide +kernel, by decide +kernel⟩
theorem ok_is_sequence {f : Addr} {fd : FuncData} (F : Fun K "is_sequence" "is_sequence" sIsSequence f fd) (T : TxR K mg a_LETTERS a_LETTER_TESTS a_LETTER_DEEDS a_ANSWER_TESTS a_ANSWER_DEEDS CR tA tN) : FnOk P w K mg base CX0 1 f fd ["value"] (spIsSeq K) := by
  refine F.ok scIsSequence (fun vs H Q E h => ?_) (fun cdv A outer s H vs Q E hr h => ?_)
  · obtain ⟨a, xs, rfl, _⟩ := h
    rfl
  · obtain ⟨a, xs, rfl, hS, q⟩ := h
    refine ⟨_, pss_one (ps_ret (pe_callB call_isiT (by rfl) T.n_isinstance (by decide +kernel) (pa_cons (pv 0) (pa_cons (pe_tup (pa_cons (pe_bltn (v := .ty "list") (by rfl) T.n_list (by decide +kernel) rfl) (pa_cons (pe_bltn (v := .ty "tuple") (by rfl) T.n_tuple (by decide +kernel) rfl) pa_nil))) pa_nil)))), ?_⟩
    refine ⟨_, rfl, by show 2 ≤ sizeLine; decide, fun p np => ?_⟩
    have e1 : Ex H (upd H p (.tup [.ty "list", .ty "tuple"])) := Ex.new np
    rcases hS with hS | hS
    · exact ⟨_, p, _, _, [.type "list", .type "tuple"], true, rfl, upd_same, .cons (.ty _) (.cons (.ty _) .nil), tyx_list (Evl.ex_l e1 hS), kitAny_cons (kit_ty (r := true) (by decide +kernel)) (fun z => nomatch z) (fun _ => rfl), q _ e1⟩
    · exact ⟨_, p, _, _, [.type "list", .type "tuple"], true, rfl, upd_same, .cons (.ty _) (.cons (.ty _) .nil), tyx_tuple (Evl.ex_t e1 hS), kitAny_cons (kit_ty (r := false) (by decide +kernel)) (fun _ => kitAny_cons (kit_ty (r := true) (by decide +kernel)) (fun z => nomatch z) (fun _ => rfl)) (fun z => nomatch z), q _ e1⟩
theorem ok_is_kind {f : Addr} {fd : FuncData} (F : Fun K "is_kind" "is_kind" sIsKind f fd) (T : TxR K mg a_LETTERS a_LETTER_TESTS a_LETTER_DEEDS a_ANSWER_TESTS a_ANSWER_DEEDS CR tA tN) : FnOk P w K mg base CX0 1 f fd ["value"] spIsKind := by
  refine F.ok scIsKind (fun vs H Q E h => ?_) (fun cdv A outer s H vs Q E hr h => ?_)
  · obtain ⟨k, rfl, _⟩ := h
    rfl
  · obtain ⟨k, rfl, q⟩ := h
    refine ⟨_, pss_one (ps_ret (pe_or (pe_cmpR op_in_seq (pv 0) (pe_glob (v := .ref a_LETTERS) rfl T.g_LETTERS rfl) (by rfl)) (pe_one (pe_cmpR op_eq (pv 0) (pe_glob (v := .str "answer") rfl T.g_ANSWER ⟨_, rfl⟩) (nomark _))))), ?_⟩
    refine ⟨_, rfl, _, _, rfl, .inr (T.s_LETTERS _), rfl, flat_strs _, _, rfl, ?_⟩
    rw [inV_strs]
    refine ite2 (fun e => ?_) (fun e => ?_)
    · have h1 : k ∈ (["ask", "day", "off", "stop"] : List Str) := of_decide_eq_true e
      have h2 : k ∈ kindsAll := List.mem_append_left (["answer"] : List Str) h1
      rw [decide_eq_true h2] at q
      exact q
    · refine ⟨_, rfl, rfl, ?_⟩
      have h1 : ¬ k ∈ (["ask", "day", "off", "stop"] : List Str) := fun z => e (decide_eq_true z)
      have h2 : decide (V.str k = V.str "answer") = decide (k ∈ kindsAll) := by
        by_cases hk : k = "answer"
        · rw [hk]
          decide +kernel
        · rw [decide_eq_false (fun z => hk (V.str.inj z)), decide_eq_false]
          intro z
          rcases List.mem_append.mp (show k ∈ (["ask", "day", "off", "stop"] : List Str) ++ (["answer"] : List Str) from z) with z | z
          · exact h1 z
          · exact hk (List.mem_singleton.mp z)
      rw [h2]
      exact q
theorem ok_is_test {f : Addr} {fd : FuncData} (F : Fun K "is_test" "is_test" sIsTest f fd) (T : TxR K mg a_LETTERS a_LETTER_TESTS a_LETTER_DEEDS a_ANSWER_TESTS a_ANSWER_DEEDS CR tA tN) : FnOk P w K mg base CX0 1 f fd ["kind", "value"] spIsTest := by
  refine F.ok scIsTest (fun vs H Q E h => ?_) (fun cdv A outer s H vs Q E hr h => ?_)
  · obtain ⟨k, t, rfl, _⟩ := h
    rfl
  · obtain ⟨k, t, rfl, hk, ht, q⟩ := h
    refine ⟨_, pss_cons (ps_set (i := 2) scIsTest.nd rfl (.inl rfl) (pe_ifExp (pt_cmpR op_eq (pv 0) (pe_glob (v := .str "answer") rfl T.g_ANSWER ⟨_, rfl⟩) (nomark _)) (pe_glob (v := .ref a_ANSWER_TESTS) rfl T.g_ANSWER_TESTS rfl) (pe_glob (v := .ref a_LETTER_TESTS) rfl T.g_LETTER_TESTS rfl)))
      (pss_one (ps_ret (pe_and (pe_callB call_isi (by rfl) T.n_isinstance (by decide +kernel) (pa_cons (pv 1) (pa_cons (pe_bltn (v := .ty "str") (by rfl) T.n_str (by decide +kernel) rfl) pa_nil))) (pe_one (pe_cmpR op_in_seq (pe_bm PySem.F.plainAttrs_str PySem.F.slot_str_removeprefix PySem.F.type_str_removeprefix mt_removeprefix (pv 1) (pa_cons (pe_glob (v := .str "not ") rfl T.g_NOT ⟨_, rfl⟩) pa_nil)) (pv 2) (by rfl)))))), ?_⟩
    have lt := testsNot_len ht
    have h1 : ∀ t ∈ testsL ++ testsL.map (("not " : Str) ++ ·), Txt.removeprefix t "not " ∈ testsL := by decide +kernel
    have h2 : ∀ t ∈ (["level"] : List Str) ++ (["level"] : List Str).map (("not " : Str) ++ ·), Txt.removeprefix t "not " ∈ (["level"] : List Str) := by decide +kernel
    refine ⟨_, rfl, rfl, _, rfl, ite2 (fun e => ?_) (fun e => ?_)⟩
    · have ek : k = "answer" := V.str.inj (of_decide_eq_true e)
      have ht2 : Txt.removeprefix t "not " ∈ (["level"] : List Str) := h2 t (by
        unfold testsNot testsOf at ht
        rw [if_pos ek] at ht
        exact ht)
      refine ⟨_, rfl, _, _, _, _, true, rfl, .ty _, .base (.str _), kit_ty (by decide +kernel), _, rfl, iteT ?_⟩
      refine ⟨_, rfl, rfl, _, _, rfl, rfl, size_of (by omega), _, rfl, _, _, rfl, .inr (T.s_ANSWER_TESTS _), rfl, flat_strs _, ?_⟩
      rw [inV_strs, decide_eq_true ht2]
      exact q
    · have ek : ¬ k = "answer" := fun z => e (decide_eq_true (by rw [z]))
      have ht2 : Txt.removeprefix t "not " ∈ testsL := h1 t (by
        unfold testsNot testsOf at ht
        rw [if_neg ek] at ht
        exact ht)
      refine ⟨_, rfl, _, _, _, _, true, rfl, .ty _, .base (.str _), kit_ty (by decide +kernel), _, rfl, iteT ?_⟩
      refine ⟨_, rfl, rfl, _, _, rfl, rfl, size_of (by omega), _, rfl, _, _, rfl, .inr (T.s_LETTER_TESTS _), rfl, flat_strs _, ?_⟩
      rw [inV_strs, decide_eq_true ht2]
      exact q
theorem ok_is_deed {f : Addr} {fd : FuncData} (F : Fun K "is_deed" "is_deed" sIsDeed f fd) (T : TxR K mg a_LETTERS a_LETTER_TESTS a_LETTER_DEEDS a_ANSWER_TESTS a_ANSWER_DEEDS CR tA tN) : FnOk P w K mg base CX0 1 f fd ["kind", "value"] spIsDeed := by
  refine F.ok scIsDeed (fun vs H Q E h => ?_) (fun cdv A outer s H vs Q E hr h => ?_)
  · obtain ⟨k, t, rfl, _⟩ := h
    rfl
  · obtain ⟨k, t, rfl, hk, ht, q⟩ := h
    refine ⟨_, pss_cons (ps_set (i := 2) scIsDeed.nd rfl (.inl rfl) (pe_ifExp (pt_cmpR op_eq (pv 0) (pe_glob (v := .str "answer") rfl T.g_ANSWER ⟨_, rfl⟩) (nomark _)) (pe_glob (v := .ref a_ANSWER_DEEDS) rfl T.g_ANSWER_DEEDS rfl) (pe_glob (v := .ref a_LETTER_DEEDS) rfl T.g_LETTER_DEEDS rfl)))
      (pss_one (ps_ret (pe_cmpR op_in_seq (pv 1) (pv 2) (by rfl)))), ?_⟩
    have h1 : ∀ t ∈ (["take", "take", "wipe"] : List Str), t ∈ (["take", "wipe"] : List Str) := by decide +kernel
    have h2 : ∀ t ∈ (["count", "count", "drop"] : List Str), t ∈ (["count", "drop"] : List Str) := by decide +kernel
    refine ⟨_, rfl, rfl, _, rfl, ite2 (fun e => ?_) (fun e => ?_)⟩
    · have ek : k = "answer" := V.str.inj (of_decide_eq_true e)
      have ht2 : t ∈ (["count", "drop"] : List Str) := h2 t (by
        unfold deedsOf at ht
        rw [if_pos ek] at ht
        exact ht)
      refine ⟨_, rfl, _, rfl, _, _, rfl, .inr (T.s_ANSWER_DEEDS _), rfl, flat_strs _, ?_⟩
      rw [inV_strs, decide_eq_true ht2]
      exact q
    · have ek : ¬ k = "answer" := fun z => e (decide_eq_true (by rw [z]))
      have ht2 : t ∈ (["take", "wipe"] : List Str) := h1 t (by
        unfold deedsOf at ht
        rw [if_neg ek] at ht
        exact ht)
      refine ⟨_, rfl, _, rfl, _, _, rfl, .inr (T.s_LETTER_DEEDS _), rfl, flat_strs _, ?_⟩
      rw [inV_strs, decide_eq_true ht2]
      exact q
theorem ok_rule_init {f fSeq fKind fTest fDeed : Addr} {fd fdSeq fdKind fdTest fdDeed : FuncData} {dvs : List V} {kws : List (Str × V)} (F : FunD K "__init__" "Rule.__init__" (defArgs sRuleInit) (defBody sRuleInit) (defScope sRuleInit) dvs kws f fd) (T : TxR K mg a_LETTERS a_LETTER_TESTS a_LETTER_DEEDS a_ANSWER_TESTS a_ANSWER_DEEDS CR tA tN)
    (D_is_sequence : Df K mg "is_sequence" sIsSequence ["value"] fSeq fdSeq) (D_is_kind : Df K mg "is_kind" sIsKind ["value"] fKind fdKind) (D_is_test : Df K mg "is_test" sIsTest ["kind", "value"] fTest fdTest) (D_is_deed : Df K mg "is_deed" sIsDeed ["kind", "value"] fDeed fdDeed) :
    FnOk P w K mg base CX0 2 f fd ["self", "kind", "tests", "deeds"] (spRuleInit K CR) := by
  have G_is_sequence : FnOk P w K mg base CX0 1 fSeq fdSeq ["value"] (spIsSeq K) := ok_is_sequence D_is_sequence.F T
  have G_is_kind : FnOk P w K mg base CX0 1 fKind fdKind ["value"] spIsKind := ok_is_kind D_is_kind.F T
  have G_is_test : FnOk P w K mg base CX0 1 fTest fdTest ["kind", "value"] spIsTest := ok_is_test D_is_test.F T
  have G_is_deed : FnOk P w K mg base CX0 1 fDeed fdDeed ["kind", "value"] spIsDeed := ok_is_deed D_is_deed.F T
  refine FunD_ok0 F scRuleInit (fun vs H Q E h => ?_) (fun cdv A outer s H vs Q E hr h => ?_)
  · obtain ⟨p, t, d, dx, r, rfl, _⟩ := h
    rfl
  · obtain ⟨p, t, d, dx, r, rfl, hp, hT, hD, G, q⟩ := h
    refine ⟨_, pss_cons (ps_if (pt_not (pt_val (pe_call G_is_kind (hr.mono (by decide)) rfl D_is_kind.g D_is_kind.F.kp D_is_kind.b .nil pass0 (pa_cons (pv 1) pa_nil)))) (pss_one ps_never) pss_nil)
      (pss_cons (ps_if (PW.pt (pw_or (pt_not (pt_val (pe_call G_is_sequence (hr.mono (by decide)) rfl D_is_sequence.g D_is_sequence.F.kp D_is_sequence.b .nil pass0 (pa_cons (pv 2) pa_nil)))) (pw_or1 (pt_not (pt_val (pe_callB (cr_all rfl) (by rfl) T.n_all (by decide +kernel) (pa_cons (pe_lc (own := [("test", 5)]) (g := gName 5) (tt := tYes) rfl scRuleInit.nd (pi_both (pv 2)) (blkOk_by (own := [("test", 5)]) (N := ["self", "kind", "tests", "deeds", "deed", "test"]) (sc := defScope sRuleInit) (by decide +kernel)) (fun _ _ _ _ _ => (pg_name (i := 5) scRuleInit.nd rfl (Or.inl rfl))) (fun _ _ _ _ _ => pts_nil) (fun _ _ _ _ _ => (pe_call G_is_test (hr.mono (by decide)) rfl D_is_test.g D_is_test.F.kp D_is_test.b .nil pass0 (pa_cons (pv 1) (pa_cons (pv 5) pa_nil))))) pa_nil))))))) (pss_one ps_never) pss_nil)
      (pss_cons (ps_if (PW.pt (pw_or (pt_not (pt_val (pe_call G_is_sequence (hr.mono (by decide)) rfl D_is_sequence.g D_is_sequence.F.kp D_is_sequence.b .nil pass0 (pa_cons (pv 3) pa_nil)))) (pw_or1 (pt_not (pt_val (pe_callB (cr_all rfl) (by rfl) T.n_all (by decide +kernel) (pa_cons (pe_lc (own := [("deed", 4)]) (g := gName 4) (tt := tYes) rfl scRuleInit.nd (pi_both (pv 3)) (blkOk_by (own := [("deed", 4)]) (N := ["self", "kind", "tests", "deeds", "deed", "test"]) (sc := defScope sRuleInit) (by decide +kernel)) (fun _ _ _ _ _ => (pg_name (i := 4) scRuleInit.nd rfl (Or.inl rfl))) (fun _ _ _ _ _ => pts_nil) (fun _ _ _ _ _ => (pe_call G_is_deed (hr.mono (by decide)) rfl D_is_deed.g D_is_deed.F.kp D_is_deed.b .nil pass0 (pa_cons (pv 1) (pa_cons (pv 4) pa_nil))))) pa_nil))))))) (pss_one ps_never) pss_nil)
      (pss_cons (ps_fld (pv 0) (pv 1) rfl)
      (pss_cons (ps_fld (pv 0) (pe_callTy call_tuple_any (by rfl) T.n_tuple (by decide +kernel) (pa_cons (pv 2) pa_nil)) rfl)
      (pss_one (ps_fld (pv 0) (pe_callTy call_tuple_any (by rfl) T.n_tuple (by decide +kernel) (pa_cons (pv 3) pa_nil)) rfl)))))), ?_⟩
    refine ⟨_, rfl, _, rfl, _, rfl, ?_⟩
    rw [decide_eq_true G.k]
    refine iteF ?_
    have lT : (r.ts.map V.str).length ≤ 40000 := by rw [List.length_map]; exact Nat.le_trans G.nt (by decide)
    have lD : (r.ds.map V.str).length ≤ 40000 := by rw [List.length_map]; exact Nat.le_trans G.nd (by decide)
    have exB : ∀ {H H' : Hp} {a : Addr} {xs : List V}, Ex H H' → (SqL K H a xs ∨ SqT K H a xs) → (SqL K H' a xs ∨ SqT K H' a xs) := fun e h => h.imp (Evl.ex_l e) (Evl.ex_t e)
    refine Evl.q_when (b := false) (Evl.et_is (Evl.et_or (Evl.et_not (Evl.et_B (ev_call (v := .bl true) (Evl.ea_cons (Evl.ev_var rfl) Evl.ea_nil) fun H1 e1 Q1 q1 => ⟨t, _, rfl, exB e1 hT, fun H2 e2 => q1 H2 e2⟩)))
      (fun _ => Evl.et_not (Evl.et_B (ev_all (bs := List.replicate (r.ts.map V.str).length true) ?_)))) (by rw [all_true]; rfl)) (fun z => nomatch z) (fun _ H1 e1 => ?_)
    · rw [← range_true]
      refine el_lcB (fun _ => .bl true) (Evl.ev_var rfl) hT lT (fun x => rfl) (fun i x H2 e2 hi => ?_)
      obtain ⟨y, rfl, hy⟩ := strs_at hi
      exact ev_call (Evl.ea_cons (Evl.ev_var rfl) (Evl.ea_cons (Evl.ev_var rfl) Evl.ea_nil)) fun H3 e3 Q3 q3 => ⟨r.k, y, rfl, G.k, G.ts y (List.mem_of_getElem? hy), q3 H3 (Ex.refl _)⟩
    refine Evl.q_when (b := false) (Evl.et_is (Evl.et_or (Evl.et_not (Evl.et_B (ev_call (v := .bl true) (Evl.ea_cons (Evl.ev_var rfl) Evl.ea_nil) fun H2 e2 Q1 q1 => ⟨d, _, rfl, exB (e1.trans e2) hD, fun H3 e3 => q1 H3 e3⟩)))
      (fun _ => Evl.et_not (Evl.et_B (ev_all (bs := List.replicate (r.ds.map V.str).length true) ?_)))) (by rw [all_true]; rfl)) (fun z => nomatch z) (fun _ H2 e2 => ?_)
    · rw [← range_true]
      refine el_lcB (fun _ => .bl true) (Evl.ev_var rfl) (exB e1 hD) lD (fun x => rfl) (fun i x H2 e2 hi => ?_)
      obtain ⟨y, rfl, hy⟩ := strs_at hi
      exact ev_call (Evl.ea_cons (Evl.ev_var rfl) (Evl.ea_cons (Evl.ev_var rfl) Evl.ea_nil)) fun H3 e3 Q3 q3 => ⟨r.k, y, rfl, G.k, G.ds y (List.mem_of_getElem? hy), q3 H3 (Ex.refl _)⟩
    -- the fields
    have e12 := e1.trans e2
    have ntp : ∀ {H' : Hp} {a : Addr} {xs : List V} {fs : List (Str × V)}, H' p = some (.ins CR dx fs) → SqT K H' a xs → ∀ o, SqT K (upd H' p o) a xs := by
      intro H' a xs fs hp' h o
      rcases h with (h | ⟨u, h⟩) | h
      · exact .inl (.inl (by rw [upd_ne (ne_of h hp' (fun z => nomatch z))]; exact h))
      · exact .inl (.inr ⟨u, by rw [upd_ne (ne_of h hp' (fun z => nomatch z))]; exact h⟩)
      · exact .inr h
    have ntl : ∀ {H' : Hp} {a : Addr} {xs : List V} {fs : List (Str × V)}, H' p = some (.ins CR dx fs) → SqL K H' a xs → ∀ o, SqL K (upd H' p o) a xs := by
      intro H' a xs fs hp' h o
      rcases h with (h | ⟨u, h⟩) | h
      · exact .inl (.inl (by rw [upd_ne (ne_of h hp' (fun z => nomatch z))]; exact h))
      · exact .inl (.inr ⟨u, by rw [upd_ne (ne_of h hp' (fun z => nomatch z))]; exact h⟩)
      · exact .inr h
    have hp2 := e12 _ _ hp
    refine ⟨_, rfl, _, rfl, p, CR, dx, _, rfl, hp2, T.cl, T.nK, (by show 0 < 1000; decide), ?_⟩
    have hT2 := (exB e12 hT).imp (fun h => ntl hp2 h (.ins CR dx (putF "kind" (.str r.k) []))) (fun h => ntp hp2 h (.ins CR dx (putF "kind" (.str r.k) [])))
    have hD2 := (exB e12 hD).imp (fun h => ntl hp2 h (.ins CR dx (putF "kind" (.str r.k) []))) (fun h => ntp hp2 h (.ins CR dx (putF "kind" (.str r.k) [])))
    refine ⟨_, rfl, t, _, rfl, hT2, fun t2 H3 e3 s3 => ?_⟩
    have hp3 := e3 _ _ upd_same
    refine ⟨_, rfl, p, CR, dx, _, rfl, hp3, T.cl, T.nT, (by show 1 < 1000; decide), ?_⟩
    have hD3 := (exB e3 hD2).imp (fun h => ntl hp3 h (.ins CR dx (putF "tests" (.ref t2) (putF "kind" (.str r.k) [])))) (fun h => ntp hp3 h (.ins CR dx (putF "tests" (.ref t2) (putF "kind" (.str r.k) []))))
    have s3' := ntp hp3 s3 (.ins CR dx (putF "tests" (.ref t2) (putF "kind" (.str r.k) [])))
    refine ⟨_, rfl, d, _, rfl, hD3, fun d2 H4 e4 s4 => ?_⟩
    have hp4 := e4 _ _ upd_same
    refine ⟨_, rfl, p, CR, dx, _, rfl, hp4, T.cl, T.nD, (by show 2 < 1000; decide), ?_⟩
    refine q _ (fun b o hb hh => ?_) ⟨dx, t2, d2, upd_same, ntp hp4 (Evl.ex_t e4 s3') _, ntp hp4 s4 _⟩
    rw [upd_ne hb]
    refine e4 _ _ ?_
    rw [upd_ne hb]
    refine e3 _ _ ?_
    rw [upd_ne hb]
    exact e12 _ _ hh
/-! ### rules as texts, rules compared -/
theorem rf_k (k : Str) (t d : Addr) : (rf k t d).lookup ("kind" : Str) = some (.str k) := by
  unfold rf
  rw [lookup_putF, if_neg (by decide +kernel), lookup_putF, if_neg (by decide +kernel), lookup_putF, if_pos rfl]
theorem rf_t (k : Str) (t d : Addr) : (rf k t d).lookup ("tests" : Str) = some (.ref t) := by
  unfold rf
  rw [lookup_putF, if_neg (by decide +kernel), lookup_putF, if_pos rfl]
theorem rf_d (k : Str) (t d : Addr) : (rf k t d).lookup ("deeds" : Str) = some (.ref d) := by
  unfold rf
  rw [lookup_putF, if_pos rfl]
theorem sum_small : ∀ (l : List Str) (n : Nat), (∀ x ∈ l, x.length ≤ n) → (l.map (·.length)).sum ≤ l.length * n
  | [], _, _ => Nat.zero_le _
  | x :: r, n, h => by
    have ih := sum_small r n fun y hy => h y (List.mem_cons_of_mem _ hy)
    have hx := h x (List.mem_cons_self ..)
    rw [List.map_cons, List.sum_cons, List.length_cons, Nat.succ_mul]
    omega
theorem join_len (sep : Str) : ∀ l : List Str, (Str.join sep l).length ≤ (l.map (·.length)).sum + l.length * sep.length
  | [] => Nat.zero_le _
  | [x] => by
    show x.length ≤ ([x].map (·.length)).sum + 1 * sep.length
    rw [List.map_cons, List.sum_cons]
    omega
  | x :: y :: r => by
    have ih := join_len sep (y :: r)
    show (x ++ sep ++ Str.join sep (y :: r)).length ≤ _
    rw [Str.length_append, Str.length_append, List.map_cons, List.sum_cons, List.length_cons, Nat.succ_mul]
    omega
theorem join_small {sep : Str} {l : List Str} (h : ∀ x ∈ l, x.length ≤ 16) (hs : sep.length ≤ 6) (hl : l.length ≤ 1000) : (l.map (·.length)).sum + l.length * sep.length ≤ 16777216 ∧ (Str.join sep l).length ≤ 30000 := by
  have h1 := sum_small l 16 h
  have h2 := join_len sep l
  have h3 : l.length * 16 ≤ 1000 * 16 := Nat.mul_le_mul_right _ hl
  have h4 : l.length * sep.length ≤ 1000 * 6 := Nat.mul_le_mul hl hs
  omega
def tText (ts : List Str) : Str := if ts = [] then "" else (" if " : Str) ++ Str.join " and " ts
def dText (ds : List Str) : Str := if ds = [] then "" else (" do " : Str) ++ Str.join " then " ds
def ruleText (r : RuleD) : Str := ("on " : Str) ++ r.k ++ tText r.ts ++ dText r.ds
theorem rule_text_eq (r : RuleD) : Str.join " " ((("on " : Str) ++ r.k) :: ((if r.ts = [] then [] else [("if " : Str) ++ Str.join " and " r.ts]) ++ (if r.ds = [] then [] else [("do " : Str) ++ Str.join " then " r.ds]))) = ruleText r := by
  have e1 : ∀ z : Str, (" " : Str) ++ (("if " : Str) ++ z) = (" if " : Str) ++ z := fun z => by
    rw [← Str.append_assoc]
    have : (" " : Str) ++ ("if " : Str) = (" if " : Str) := by decide +kernel
    rw [this]
  have e2 : ∀ z : Str, (" " : Str) ++ (("do " : Str) ++ z) = (" do " : Str) ++ z := fun z => by
    rw [← Str.append_assoc]
    have : (" " : Str) ++ ("do " : Str) = (" do " : Str) := by decide +kernel
    rw [this]
  have e0 : ("" : Str) = Str.empty := by decide +kernel
  unfold ruleText tText dText
  by_cases ht : r.ts = []
  · by_cases hd : r.ds = []
    · rw [if_pos ht, if_pos hd, if_pos ht, if_pos hd, e0, Str.append_empty, Str.append_empty]
      rfl
    · rw [if_pos ht, if_neg hd, if_pos ht, if_neg hd, e0, Str.append_empty]
      show ("on " : Str) ++ r.k ++ " " ++ (("do " : Str) ++ Str.join " then " r.ds) = _
      rw [Str.append_assoc, e2]
  · by_cases hd : r.ds = []
    · rw [if_neg ht, if_pos hd, if_neg ht, if_pos hd, e0, Str.append_empty]
      show ("on " : Str) ++ r.k ++ " " ++ (("if " : Str) ++ Str.join " and " r.ts) = _
      rw [Str.append_assoc, e1]
    · rw [if_neg ht, if_neg hd, if_neg ht, if_neg hd]
      show ("on " : Str) ++ r.k ++ " " ++ (("if " : Str) ++ Str.join " and " r.ts ++ " " ++ (("do " : Str) ++ Str.join " then " r.ds)) = _
      simp only [Str.append_assoc, e1, e2]
def spRuleEq (K : PySem.W.Frag) (C : Addr) : Sp := fun vs H Q _ => ∃ (p q : Addr) (r u : RuleD), vs = [.ref p, .ref q] ∧ RuleObj K C H p r ∧ RuleObj K C H q u ∧ r.Good ∧ u.Good ∧ ∀ H', Ex H H' → Q (.bl (decide (r.k = u.k) && (decide (r.ts = u.ts) && decide (r.ds = u.ds)))) H'
def spRuleStr (K : PySem.W.Frag) (C : Addr) : Sp := fun vs H Q _ => ∃ (p : Addr) (r : RuleD), vs = [.ref p] ∧ RuleObj K C H p r ∧ r.Good ∧ ∀ H', Ex H H' → Q (.str (ruleText r)) H'
abbrev sRuleEq : Stmt := inClass (topS 23) 2
theorem scRuleEq : FnScope ["self", "other"] ["self", "other"] (defScope sRuleEq) := ⟨rfl, rfl, rfl, by decide +kernel, rfl, by decide +kernel, by decide +kernel⟩
abbrev sRuleStr : Stmt := inClass (topS 23) 3
theorem scRuleStr : FnScope ["self", "parts"] ["self"] (defScope sRuleStr) := ⟨rfl, rfl, rfl, by decide +kernel, rfl, by decide +kernel, by decide +kernel⟩
theorem ok_rule_eq {f : Addr} {fd : FuncData} (F : Fun K "__eq__" "Rule.__eq__" sRuleEq f fd) (T : TxR K mg a_LETTERS a_LETTER_TESTS a_LETTER_DEEDS a_ANSWER_TESTS a_ANSWER_DEEDS CR tA tN) : FnOk P w K mg base CX0 1 f fd ["self", "other"] (spRuleEq K CR) := by
  refine F.ok scRuleEq (fun vs H Q E h => ?_) (fun cdv A outer s H vs Q E hr h => ?_)
  · obtain ⟨p, q, r, u, rfl, _⟩ := h
    rfl
  · obtain ⟨p, q, r, u, rfl, ⟨dx, t, d, hp, ht, hd⟩, ⟨dx2, t2, d2, hp2, ht2, hd2⟩, G, G2, k⟩ := h
    refine ⟨_, pss_one (ps_ret (pe_and (pe_callB call_isi (by rfl) T.n_isinstance (by decide +kernel) (pa_cons (pv 1) (pa_cons (pe_glob (v := .ref CR) rfl T.g_Rule rfl) pa_nil))) (pe_and (pe_cmpR op_eq (pe_fld (pv 0) rfl) (pe_fld (pv 1) rfl) (nomark _)) (pe_and (pe_cmpR (op_eqD hr.units) (pe_fld (pv 0) rfl) (pe_fld (pv 1) rfl) (nomark _)) (pe_one (pe_cmpR (op_eqD hr.units) (pe_fld (pv 0) rfl) (pe_fld (pv 1) rfl) (nomark _))))))), ?_⟩
    refine Evl.s_ret (v := .bl (true && (decide (r.k = u.k) && (decide (r.ts = u.ts) && decide (r.ds = u.ds))))) ?_ fun H2 e2 => k H2 e2
    refine Evl.ev_andV (ev_isi (Evl.ea_cons (Evl.ev_var rfl) (Evl.ea_cons Evl.ev_c Evl.ea_nil)) (.own CR) (fun H1 e1 => .base (.ins (e1 _ _ hp2) T.cl T.ci T.cs T.ct T.co)) (by simp [PySem.W.kitOne])) (fun _ => ?_)
    refine Evl.ev_andV (Evl.ev_is (Evl.ev_op (ev_fld (Evl.ev_var rfl) hp T.cl T.nK (rf_k _ _ _)) (ev_fld (Evl.ev_var rfl) hp2 T.cl T.nK (rf_k _ _ _)) (Evl.rv_eq (x := .str r.k) (y := .str u.k) rfl)) (by simp)) (fun _ => ?_)
    refine Evl.ev_andV (Evl.ev_op (ev_fld (Evl.ev_var rfl) hp T.cl T.nT (rf_t _ _ _)) (ev_fld (Evl.ev_var rfl) hp2 T.cl T.nT (rf_t _ _ _)) (rv_eqT G.pt G2.pt ht ht2)) (fun _ => ?_)
    exact Evl.ev_op (ev_fld (Evl.ev_var rfl) hp T.cl T.nD (rf_d _ _ _)) (ev_fld (Evl.ev_var rfl) hp2 T.cl T.nD (rf_d _ _ _)) (rv_eqT G.pd G2.pd hd hd2)
theorem ok_rule_str {f : Addr} {fd : FuncData} (F : Fun K "__str__" "Rule.__str__" sRuleStr f fd) (T : TxR K mg a_LETTERS a_LETTER_TESTS a_LETTER_DEEDS a_ANSWER_TESTS a_ANSWER_DEEDS CR tA tN) : FnOk P w K mg base CX0 1 f fd ["self"] (spRuleStr K CR) := by
  refine F.ok scRuleStr (fun vs H Q E h => ?_) (fun cdv A outer s H vs Q E hr h => ?_)
  · obtain ⟨p, r, rfl, _⟩ := h
    rfl
  · obtain ⟨p, r, rfl, ⟨dx, t, d, hp, ht, hd⟩, G, k⟩ := h
    refine ⟨_, pss_cons (ps_set (i := 1) scRuleStr.nd rfl (.inl rfl) (pe_lst (pa_cons (pe_joined (.cons pe_str (.cons (pe_fmt (pe_fld (pv 0) rfl)) .nil))) pa_nil)))
      (pss_cut (ps_if (pt_truth (pe_fld (pv 0) rfl) (by intro _; rfl)) (pss_one (ps_expr (pe_bm PySem.F.plainAttrs_list PySem.F.slot_list_append PySem.F.type_list_append mt_append (pv 1) (pa_cons (pe_op op_add_str pe_str (pe_join pe_str (pe_fld (pv 0) rfl))) pa_nil)))) pss_nil)
      (pss_cut (ps_if (pt_truth (pe_fld (pv 0) rfl) (by intro _; rfl)) (pss_one (ps_expr (pe_bm PySem.F.plainAttrs_list PySem.F.slot_list_append PySem.F.type_list_append mt_append (pv 1) (pa_cons (pe_op op_add_str pe_str (pe_join pe_str (pe_fld (pv 0) rfl))) pa_nil)))) pss_nil)
      (pss_one (ps_ret (pe_join pe_str (pv 1)))))), ?_⟩
    have lk := kinds_len G.k
    refine ⟨_, rfl, by decide, ?_⟩
    refine ⟨_, rfl, p, CR, dx, _, _, rfl, hp, T.cl, T.nK, rf_k _ _ _, .inl ⟨r.k, rfl, size_of (by omega), r.k, rfl, ?_, ?_⟩⟩
    · show (Str.empty ++ Str.ofString "on " ++ r.k).length ≤ sizeLine
      rw [Str.length_append]
      have e3 : (Str.empty ++ Str.ofString "on ").length = 3 := by decide +kernel
      exact size_of (by omega)
    refine ⟨by show 1 ≤ sizeLine; decide, fun l nl => ?_⟩
    have eo : Str.empty ++ Str.ofString "on " ++ r.k = ("on " : Str) ++ r.k := by rw [Str.empty_append]
    rw [eo]
    -- the tests
    have e2 : Ex H (upd H l (.lst [.str (("on " : Str) ++ r.k)])) := Ex.new nl
    let pT : List Str := if r.ts = [] then [] else [("if " : Str) ++ Str.join " and " r.ts]
    let pD : List Str := if r.ds = [] then [] else [("do " : Str) ++ Str.join " then " r.ds]
    refine ⟨fun σ H2 => σ = [some (.ref p), some (.ref l)] ∧ Ex H H2 ∧ H2 l = some (.lst (((("on " : Str) ++ r.k) :: pT).map V.str)), ?_, ?_⟩
    · refine ⟨_, rfl, p, CR, dx, _, _, rfl, e2 _ _ hp, T.cl, T.nT, rf_t _ _ _, !(r.ts.map V.str).isEmpty, .inr (.inl ⟨_, Evl.ex_t e2 ht, rfl⟩), ?_⟩
      by_cases h0 : r.ts = []
      · have hpT : pT = [] := if_pos h0
        rw [h0, hpT]
        exact iteF ⟨rfl, e2, upd_same⟩
      · have hpT : pT = [("if " : Str) ++ Str.join " and " r.ts] := if_neg h0
        rw [show (!(r.ts.map V.str).isEmpty) = true by simp [h0], hpT]
        refine iteT ?_
        have lj := join_small (sep := " and ") (l := r.ts) (fun x hx => testsNot_len (G.ts x hx)) (by decide) G.nt
        refine ⟨_, rfl, .inl ⟨rfl, _, SqL.of upd_same⟩, ⟨_, rfl⟩, _, rfl, p, CR, dx, _, _, rfl, e2 _ _ hp, T.cl, T.nT, rf_t _ _ _, _, t, r.ts, rfl, rfl, .inr (Evl.ex_t e2 ht), lj.1, _, _, rfl, rfl, ?_, l, _, _, rfl, rfl, upd_same, by show 1 < sizeLine; decide, ?_⟩
        · rw [TL.join_eq]
          have e3 : (Str.ofString "if ").length = 3 := by decide +kernel
          exact size_of (by omega)
        · rw [TL.join_eq]
          exact ⟨rfl, e2.mut nl, upd_same⟩
    · rintro σ H2 ⟨rfl, e3, hl⟩
      refine ⟨fun σ H3 => σ = [some (.ref p), some (.ref l)] ∧ Ex H H3 ∧ H3 l = some (.lst (((("on " : Str) ++ r.k) :: (pT ++ pD)).map V.str)), ?_, ?_⟩
      · refine ⟨_, rfl, p, CR, dx, _, _, rfl, e3 _ _ hp, T.cl, T.nD, rf_d _ _ _, !(r.ds.map V.str).isEmpty, .inr (.inl ⟨_, Evl.ex_t e3 hd, rfl⟩), ?_⟩
        by_cases h0 : r.ds = []
        · have hpD : pD = [] := if_pos h0
          rw [h0, hpD, List.append_nil]
          exact iteF ⟨rfl, e3, hl⟩
        · have hpD : pD = [("do " : Str) ++ Str.join " then " r.ds] := if_neg h0
          rw [show (!(r.ds.map V.str).isEmpty) = true by simp [h0], hpD]
          refine iteT ?_
          have lj := join_small (sep := " then ") (l := r.ds) (fun x hx => deedsOf_len (G.ds x hx)) (by decide) G.nd
          have lpT : pT.length ≤ 1 := by
            show (if r.ts = [] then [] else [("if " : Str) ++ Str.join " and " r.ts]).length ≤ 1
            split
            · decide
            · exact Nat.le_refl _
          refine ⟨_, rfl, .inl ⟨rfl, _, SqL.of hl⟩, ⟨_, rfl⟩, _, rfl, p, CR, dx, _, _, rfl, e3 _ _ hp, T.cl, T.nD, rf_d _ _ _, _, d, r.ds, rfl, rfl, .inr (Evl.ex_t e3 hd), lj.1, _, _, rfl, rfl, ?_, l, _, _, rfl, rfl, hl, ?_, ?_⟩
          · rw [TL.join_eq]
            have e3 : (Str.ofString "do ").length = 3 := by decide +kernel
            exact size_of (by omega)
          · rw [List.length_map, List.length_cons]
            exact small1000 (by omega)
          · rw [TL.join_eq]
            refine ⟨rfl, e3.mut nl, ?_⟩
            rw [upd_same, List.map_cons, List.map_cons, List.map_append]
            rfl
      · rintro σ H3 ⟨rfl, e4, hl⟩
        refine ⟨⟨_, rfl⟩, _, rfl, _, l, _, rfl, rfl, .inl (SqL.of hl), ?_, ?_⟩
        · show ((((("on " : Str) ++ r.k) :: (pT ++ pD))).map (·.length)).sum + (((("on " : Str) ++ r.k) :: (pT ++ pD))).length * (Str.ofString " ").length ≤ 16777216
          have h1 : ∀ x ∈ ((("on " : Str) ++ r.k) :: (pT ++ pD)), x.length ≤ 40000 := by
            intro x hx
            rcases List.mem_cons.mp hx with rfl | hx
            · rw [Str.length_append]
              have e3 : (Str.ofString "on ").length = 3 := by decide +kernel
              omega
            · rcases List.mem_append.mp hx with hx | hx
              · have hx' : x ∈ (if r.ts = [] then [] else [("if " : Str) ++ Str.join " and " r.ts] : List Str) := hx
                split at hx'
                · cases hx'
                · rw [List.mem_singleton.mp hx', Str.length_append]
                  have lj := join_small (sep := " and ") (l := r.ts) (fun x hx => testsNot_len (G.ts x hx)) (by decide) G.nt
                  have e3 : (Str.ofString "if ").length = 3 := by decide +kernel
                  omega
              · have hx' : x ∈ (if r.ds = [] then [] else [("do " : Str) ++ Str.join " then " r.ds] : List Str) := hx
                split at hx'
                · cases hx'
                · rw [List.mem_singleton.mp hx', Str.length_append]
                  have lj := join_small (sep := " then ") (l := r.ds) (fun x hx => deedsOf_len (G.ds x hx)) (by decide) G.nd
                  have e3 : (Str.ofString "do ").length = 3 := by decide +kernel
                  omega
          have h2 := sum_small _ 40000 h1
          have h3 : (((("on " : Str) ++ r.k) :: (pT ++ pD))).length ≤ 3 := by
            have a1 : pT.length ≤ 1 := by
              show (if r.ts = [] then [] else [("if " : Str) ++ Str.join " and " r.ts] : List Str).length ≤ 1
              split
              · decide
              · exact Nat.le_refl _
            have a2 : pD.length ≤ 1 := by
              show (if r.ds = [] then [] else [("do " : Str) ++ Str.join " then " r.ds] : List Str).length ≤ 1
              split
              · decide
              · exact Nat.le_refl _
            rw [List.length_cons, List.length_append]
            omega
          have e1 : (Str.ofString " ").length = 1 := by decide +kernel
          rw [e1]
          omega
        · rw [TL.join_eq]
          have e : Str.join " " ((("on " : Str) ++ r.k) :: (pT ++ pD)) = ruleText r := rule_text_eq r
          rw [e]
          exact k H3 e4
/-! ### a drawn rule's text, by the law's own words -/
def spRuleText (K : PySem.W.Frag) : Sp := fun vs H Q _ => ∃ (p t d : Addr) (r : RuleD), vs = [.ref p] ∧ SqT K H p [.str r.k, .ref t, .ref d] ∧ SqT K H t (r.ts.map V.str) ∧ SqT K H d (r.ds.map V.str) ∧ r.Good ∧ ∀ H', Ex H H' → Q (.str (ruleText r)) H'
abbrev sRuleText : Stmt := topS 40
theorem scRuleText : FnScope ["_law_rule", "_law_text_here"] ["_law_rule"] (defScope sRuleText) := ⟨rfl, rfl, rfl, by decide +kernel, rfl, by decide +kernel, by decide +kernel⟩
theorem tText_len {ts : List Str} (h : ∀ x ∈ ts, x.length ≤ 16) (hl : ts.length ≤ 1000) : (tText ts).length ≤ 30010 := by
  unfold tText
  split
  · decide
  · have lj := join_small (sep := " and ") h (by decide) hl
    rw [Str.length_append]
    have e3 : (Str.ofString " if ").length = 4 := by decide +kernel
    omega
theorem dText_len {ds : List Str} (h : ∀ x ∈ ds, x.length ≤ 16) (hl : ds.length ≤ 1000) : (dText ds).length ≤ 30010 := by
  unfold dText
  split
  · decide
  · have lj := join_small (sep := " then ") h (by decide) hl
    rw [Str.length_append]
    have e3 : (Str.ofString " do ").length = 4 := by decide +kernel
    omega
theorem ok_rule_text {f : Addr} {fd : FuncData} (F : Fun K "_law_rule_text" "_law_rule_text" sRuleText f fd) : FnOk P w K mg base CX0 1 f fd ["_law_rule"] (spRuleText K) := by
  refine F.ok scRuleText (fun vs H Q E h => ?_) (fun cdv A outer s H vs Q E hr h => ?_)
  · obtain ⟨p, t, d, r, rfl, _⟩ := h
    rfl
  · obtain ⟨p, t, d, r, rfl, hp, ht, hd, G, k⟩ := h
    refine ⟨_, pss_cons (ps_set (i := 1) scRuleText.nd rfl (.inl rfl) (pe_op op_add_str (pe_op op_add_str pe_str (pe_ix ix_tup (pv 0) pe_int (fun _ _ => rfl))) (pe_ifExp (pt_cmpR (op_neD hr.units) (pe_ix ix_tup (pv 0) pe_int (fun _ _ => rfl)) (pe_tup pa_nil) (nomark _)) (pe_op op_add_str pe_str (pe_join pe_str (pe_ix ix_tup (pv 0) pe_int (fun _ _ => rfl)))) pe_str)))
      (pss_one (ps_ret (pe_op op_add_str (pv 1) (pe_ifExp (pt_cmpR (op_neD hr.units) (pe_ix ix_tup (pv 0) pe_int (fun _ _ => rfl)) (pe_tup pa_nil) (nomark _)) (pe_op op_add_str pe_str (pe_join pe_str (pe_ix ix_tup (pv 0) pe_int (fun _ _ => rfl)))) pe_str)))), ?_⟩
    have lk := kinds_len G.k
    have lt := tText_len (fun x hx => testsNot_len (G.ts x hx)) G.nt
    have ld := dText_len (fun x hx => deedsOf_len (G.ds x hx)) G.nd
    have jt := join_small (sep := " and ") (fun x hx => testsNot_len (G.ts x hx)) (by decide) G.nt
    have jd := join_small (sep := " then ") (fun x hx => deedsOf_len (G.ds x hx)) (by decide) G.nd
    have n3 : (Str.ofString "on ").length = 3 := by decide +kernel
    have n4 : (Str.ofString " if ").length = 4 := by decide +kernel
    have n5 : (Str.ofString " do ").length = 4 := by decide +kernel
    have no : Plain ([] : List Str) := fun x hx => nomatch hx
    refine Evl.q_asg (v := .str (("on " : Str) ++ r.k ++ tText r.ts)) ?_ fun H1 e1 => ?_
    · refine ev_adds (ev_adds Evl.ev_c (ev_ixT (j := 0) (Evl.ev_var rfl) Evl.ev_c hp rfl) (size_of (by omega))) ?_ (size_of (by rw [Str.length_append]; omega))
      refine Evl.ev_if (b := !decide (r.ts = [])) (Evl.et_test (Evl.ev_opU (ev_ixT (j := 1) (Evl.ev_var rfl) Evl.ev_c hp rfl) (Evl.eu_tup Evl.ea_nil (Nat.zero_le _)) fun q H2 hq e2 => rv_neT G.pt no (Evl.ex_t e2 ht) (Evl.st_of hq))) (fun hb => ?_) (fun hb => ?_)
      · have h0 : ¬ r.ts = [] := fun z => by
          rw [z] at hb
          cases hb
        unfold tText
        rw [if_neg h0]
        exact ev_adds Evl.ev_c (ev_join Evl.ev_c (ev_ixT (j := 1) (Evl.ev_var rfl) Evl.ev_c hp rfl) (.inr ht) jt.1) (size_of (by omega))
      · have h0 : r.ts = [] := by simpa using hb
        unfold tText
        rw [if_pos h0]
        exact Evl.ev_c
    · refine Evl.s_ret (v := .str (ruleText r)) ?_ fun H2 e2 => k H2 (e1.trans e2)
      refine ev_adds (Evl.ev_var rfl) ?_ (size_of (by rw [Str.length_append, Str.length_append]; omega))
      refine Evl.ev_if (b := !decide (r.ds = [])) (Evl.et_test (Evl.ev_opU (ev_ixT (j := 2) (Evl.ev_var rfl) Evl.ev_c (Evl.ex_t e1 hp) rfl) (Evl.eu_tup Evl.ea_nil (Nat.zero_le _)) fun q H2 hq e2 => rv_neT G.pd no (Evl.ex_t (e1.trans e2) hd) (Evl.st_of hq))) (fun hb => ?_) (fun hb => ?_)
      · have h0 : ¬ r.ds = [] := fun z => by
          rw [z] at hb
          cases hb
        unfold dText
        rw [if_neg h0]
        exact ev_adds Evl.ev_c (ev_join Evl.ev_c (ev_ixT (j := 2) (Evl.ev_var rfl) Evl.ev_c (Evl.ex_t e1 hp) rfl) (.inr (Evl.ex_t e1 hd)) jd.1) (size_of (by omega))
      · have h0 : r.ds = [] := by simpa using hb
        unfold dText
        rw [if_pos h0]
        exact Evl.ev_c
end
end Ov

namespace Ov
open PySem L2 TL
/-! ### texts are read back: no separator begins within what stands ahead of it -/
/-- nowhere in l do these three signs stand -/
def clean3 (s a b : Nat) : List Nat → Bool
  | [] => true
  | x :: r => !(pre [s, a, b] (x :: r)) && clean3 s a b r
theorem clean3_at {s a b : Nat} : ∀ {l : List Nat}, clean3 s a b l = true → ∀ i, pre [s, a, b] (l.drop i) = false
  | [], _, i => by
    rw [List.drop_nil]
    rfl
  | x :: r, h, 0 => by
    have h1 := (Bool.and_eq_true_iff.mp h).1
    simpa using h1
  | x :: r, h, i + 1 => clean3_at (l := r) (Bool.and_eq_true_iff.mp h).2 i
theorem pre3 {s a b : Nat} {l : List Nat} : pre [s, a, b] l = true ↔ ∃ r, l = s :: a :: b :: r := by
  unfold pre
  constructor
  · intro h
    have e : l.take 3 = [s, a, b] := eq_of_beq h
    exact ⟨l.drop 3, by rw [← List.take_append_drop 3 l, e]; simp⟩
  · rintro ⟨r, rfl⟩
    simp
/-- what begins with the separator's first sign may stand behind -/
theorem clean3_app {s a b : Nat} (ha : a ≠ s) (hb : b ≠ s) : ∀ {x y : List Nat}, clean3 s a b x = true → clean3 s a b y = true → (y = [] ∨ ∃ z, y = s :: z) → clean3 s a b (x ++ y) = true
  | [], y, _, hy, _ => hy
  | c :: x, y, hx, hy, h => by
    obtain ⟨h1, h2⟩ := Bool.and_eq_true_iff.mp hx
    have ih := clean3_app ha hb h2 hy h
    show (!(pre [s, a, b] (c :: (x ++ y))) && clean3 s a b (x ++ y)) = true
    rw [ih, Bool.and_true, Bool.not_eq_true']
    cases hp : pre [s, a, b] (c :: (x ++ y)) with
    | false => rfl
    | true =>
      exfalso
      obtain ⟨r, e⟩ := pre3.mp hp
      have h1' : pre [s, a, b] (c :: x) = false := by simpa using h1
      rcases h with rfl | ⟨z, rfl⟩
      · rw [List.append_nil] at hp
        rw [hp] at h1'
        cases h1'
      · match x, e with
        | [], e =>
          injection e with _ e
          injection e with e _
          exact ha e.symm
        | [d], e =>
          injection e with _ e
          injection e with _ e
          injection e with e _
          exact hb e.symm
        | d :: g :: x, e =>
          injection e with e1 e
          injection e with e2 e
          injection e with e3 e
          have : pre [s, a, b] (c :: d :: g :: x) = true := pre3.mpr ⟨x, by rw [e1, e2, e3]⟩
          rw [this] at h1'
          cases h1'
theorem pre_of3 {s a b : Nat} {S l : List Nat} (h : pre (s :: a :: b :: S) l = true) : pre [s, a, b] l = true := by
  unfold pre at h
  have e := eq_of_beq h
  have e2 : l = (s :: a :: b :: S) ++ l.drop (s :: a :: b :: S).length := by
    have q := (List.take_append_drop (s :: a :: b :: S).length l).symm
    rw [e] at q
    exact q
  exact pre3.mpr ⟨_, by rw [e2]; rfl⟩
/-- no separator begins within p, whatever stands behind it -/
theorem free3 {s a b : Nat} {S p rest : List Nat} (ha : a ≠ s) (hb : b ≠ s) (h : clean3 s a b p = true) : ∀ i, i < p.length → pre (s :: a :: b :: S) ((p ++ ((s :: a :: b :: S) ++ rest)).drop i) = false := by
  intro i hi
  cases hp : pre (s :: a :: b :: S) ((p ++ ((s :: a :: b :: S) ++ rest)).drop i) with
  | false => rfl
  | true =>
    exfalso
    obtain ⟨r, e⟩ := pre3.mp (pre_of3 hp)
    rw [List.drop_append_of_le_length (by omega)] at e
    have hc := clean3_at h i
    match hd : p.drop i, e with
    | [], _ =>
      have := congrArg List.length hd
      rw [List.length_drop, List.length_nil] at this
      omega
    | [c], e =>
      injection e with _ e
      injection e with e _
      exact ha e.symm
    | [c, d], e =>
      injection e with _ e
      injection e with _ e
      injection e with e _
      exact hb e.symm
    | c :: d :: g :: x, e =>
      injection e with e1 e
      injection e with e2 e
      injection e with e3 e
      rw [hd, pre3.mpr ⟨x, by rw [e1, e2, e3]⟩] at hc
      cases hc
theorem free3_end {s a b : Nat} {S p : List Nat} (h : clean3 s a b p = true) : ∀ i, i < p.length → pre (s :: a :: b :: S) (p.drop i) = false := by
  intro i _
  cases hp : pre (s :: a :: b :: S) (p.drop i) with
  | false => rfl
  | true =>
    have h1 := pre_of3 hp
    rw [clean3_at h i] at h1
    cases h1
theorem partition3 {y : Str} {s a b : Nat} {S : List Nat} (ey : tl y = s :: a :: b :: S) (ha : a ≠ s) (hb : b ≠ s) {x z : Str} (h : clean3 s a b (tl x) = true) : Txt.partition (x ++ y ++ z) y = (x, y, z) := by
  rw [partition_par _ y (by rw [ey]; simp), tl_append, tl_append, List.append_assoc, ey, par_part (by simp) (free3 ha hb h)]
  show ((⟨([] ++ tl x).toArray⟩ : Str), y, (⟨(tl z).toArray⟩ : Str)) = _
  rw [List.nil_append, mk_tl, mk_tl]
theorem partition3_none {y : Str} {s a b : Nat} {S : List Nat} (ey : tl y = s :: a :: b :: S) {x : Str} (h : clean3 s a b (tl x) = true) : Txt.partition x y = (x, Str.empty, Str.empty) := by
  rw [partition_par _ y (by rw [ey]; simp), ey, par_none (free3_end h)]
theorem spl_join3 {s a b : Nat} {S : List Nat} (ha : a ≠ s) (hb : b ≠ s) : ∀ {parts : List (List Nat)}, parts ≠ [] → (∀ p ∈ parts, clean3 s a b p = true) → spl (s :: a :: b :: S) 0 [] (joinL (s :: a :: b :: S) parts) = parts
  | [], h, _ => absurd rfl h
  | [p], _, hp => by
    show spl (s :: a :: b :: S) 0 [] p = [p]
    rw [spl_last (free3_end (hp p (List.mem_singleton.mpr rfl))), List.nil_append]
  | p :: q :: r, _, hp => by
    show spl (s :: a :: b :: S) 0 [] (p ++ (s :: a :: b :: S ++ joinL (s :: a :: b :: S) (q :: r))) = p :: q :: r
    rw [spl_part (by simp) (free3 ha hb (hp p (List.mem_cons_self ..))), List.nil_append, spl_join3 ha hb (by simp) fun z hz => hp z (List.mem_cons_of_mem _ hz)]
theorem split_join3 {y : Str} {s a b : Nat} {S : List Nat} (ey : tl y = s :: a :: b :: S) (ha : a ≠ s) (hb : b ≠ s) (hk : y.cps.all (· < 256) = true) {parts : List Str} (hne : parts ≠ []) (hp : ∀ p ∈ parts, clean3 s a b (tl p) = true) :
    Txt.split (Str.join y parts) y = parts := by
  refine map_tl_inj ?_
  rw [split_spl _ y (by rw [ey]; simp) (kind_ok hk), tl_join, ey]
  refine spl_join3 ha hb (fun e => hne (List.map_eq_nil_iff.mp e)) fun p h => ?_
  obtain ⟨z, hz, rfl⟩ := List.mem_map.mp h
  exact hp z hz
/-- a joined text behind a word, part by part -/
theorem join_clean {s a b : Nat} (ha : a ≠ s) (hb : b ≠ s) (hd sep : Str) {S1 S2 : List Nat} (e1 : tl hd = s :: S1) (e2 : tl sep = s :: S2) : ∀ (l : List Str), (∀ x ∈ l, clean3 s a b (tl (hd ++ x)) = true) → (∀ x ∈ l, clean3 s a b (tl (sep ++ x)) = true) → l ≠ [] →
    clean3 s a b (tl (hd ++ Str.join sep l)) = true
  | [], _, _, h => absurd rfl h
  | [x], h1, _, _ => h1 x (List.mem_singleton.mpr rfl)
  | x :: y :: r, h1, h2, _ => by
    show clean3 s a b (tl (hd ++ (x ++ sep ++ Str.join sep (y :: r)))) = true
    have e : hd ++ (x ++ sep ++ Str.join sep (y :: r)) = (hd ++ x) ++ (sep ++ Str.join sep (y :: r)) := by simp only [Str.append_assoc]
    rw [e, tl_append]
    refine clean3_app ha hb (h1 x (List.mem_cons_self ..)) (join_clean ha hb sep sep e2 e2 (y :: r) (fun z hz => h2 z (List.mem_cons_of_mem _ hz)) (fun z hz => h2 z (List.mem_cons_of_mem _ hz)) (by simp)) (.inr ⟨S2 ++ tl (Str.join sep (y :: r)), ?_⟩)
    rw [tl_append, e2]
    rfl

/-! ### a good rule's text -/
def allTests : List Str := testsL ++ testsL.map (("not " : Str) ++ ·) ++ (["level", "not level"] : List Str)
theorem tests_all {k t : Str} (h : t ∈ testsNot k) : t ∈ allTests := by
  have h2 : ∀ t ∈ (["level"] : List Str) ++ (["level"] : List Str).map (("not " : Str) ++ ·), t ∈ allTests := by decide +kernel
  unfold testsNot testsOf at h
  split at h
  · exact h2 t h
  · exact List.mem_append_left _ h
def allDeeds : List Str := ["count", "drop", "take", "wipe"]
theorem deeds_all {k t : Str} (h : t ∈ deedsOf k) : t ∈ allDeeds := by
  have h1 : ∀ t ∈ (["count", "count", "drop"] : List Str), t ∈ allDeeds := by decide +kernel
  have h2 : ∀ t ∈ (["take", "take", "wipe"] : List Str), t ∈ allDeeds := by decide +kernel
  unfold deedsOf at h
  split at h
  · exact h1 t h
  · exact h2 t h
theorem tl_do : tl " do " = [32, 100, 111, 32] := by decide +kernel
theorem tl_if : tl " if " = [32, 105, 102, 32] := by decide +kernel
theorem tl_and : tl " and " = [32, 97, 110, 100, 32] := by decide +kernel
theorem tl_then : tl " then " = [32, 116, 104, 101, 110, 32] := by decide +kernel
theorem tText_clean {ts : List Str} (h : ∀ t ∈ ts, t ∈ allTests) : clean3 32 100 111 (tl (tText ts)) = true ∧ (tl (tText ts) = [] ∨ ∃ z, tl (tText ts) = 32 :: z) := by
  unfold tText
  split
  · exact ⟨by decide +kernel, .inl (by decide +kernel)⟩
  · rename_i h0
    have a1 : ∀ t ∈ allTests, clean3 32 100 111 (tl ((" if " : Str) ++ t)) = true := by decide +kernel
    have a2 : ∀ t ∈ allTests, clean3 32 100 111 (tl ((" and " : Str) ++ t)) = true := by decide +kernel
    refine ⟨join_clean (by decide) (by decide) " if " " and " tl_if tl_and ts (fun x hx => a1 x (h x hx)) (fun x hx => a2 x (h x hx)) h0, .inr ⟨105 :: 102 :: 32 :: tl (Str.join " and " ts), ?_⟩⟩
    rw [tl_append, tl_if]
    rfl
theorem read1 {r : RuleD} (g : r.Good) : Txt.partition (ruleText r) " do " = ((("on " : Str) ++ r.k ++ tText r.ts, (if r.ds = [] then "" else " do " : Str), (if r.ds = [] then ("" : Str) else Str.join " then " r.ds)) : Str × Str × Str) := by
  have k1 : ∀ k ∈ kindsAll, clean3 32 100 111 (tl (("on " : Str) ++ k)) = true := by decide +kernel
  have ht := tText_clean (ts := r.ts) fun t h => tests_all (g.ts t h)
  have hc : clean3 32 100 111 (tl (("on " : Str) ++ r.k ++ tText r.ts)) = true := by
    rw [tl_append]
    exact clean3_app (by decide) (by decide) (k1 _ g.k) ht.1 ht.2
  have e0 : ("" : Str) = Str.empty := by decide +kernel
  unfold ruleText dText
  by_cases hd : r.ds = []
  · rw [if_pos hd, if_pos hd, if_pos hd, e0, Str.append_empty]
    exact partition3_none tl_do hc
  · rw [if_neg hd, if_neg hd, if_neg hd, ← Str.append_assoc]
    exact partition3 tl_do (by decide) (by decide) hc
theorem read2 {r : RuleD} (g : r.Good) : Txt.partition (("on " : Str) ++ r.k ++ tText r.ts) " if " = ((("on " : Str) ++ r.k, (if r.ts = [] then "" else " if " : Str), (if r.ts = [] then ("" : Str) else Str.join " and " r.ts)) : Str × Str × Str) := by
  have k1 : ∀ k ∈ kindsAll, clean3 32 105 102 (tl (("on " : Str) ++ k)) = true := by decide +kernel
  have e0 : ("" : Str) = Str.empty := by decide +kernel
  unfold tText
  by_cases ht : r.ts = []
  · rw [if_pos ht, if_pos ht, if_pos ht, e0, Str.append_empty]
    exact partition3_none tl_if (k1 _ g.k)
  · rw [if_neg ht, if_neg ht, if_neg ht, ← Str.append_assoc]
    exact partition3 tl_if (by decide) (by decide) (k1 _ g.k)
theorem read3 (k : Str) : Txt.partition (("on " : Str) ++ k) " " = ((("on" : Str), (" " : Str), k) : Str × Str × Str) := by
  have e : ("on " : Str) = ("on" : Str) ++ " " := by decide +kernel
  rw [e]
  exact partition_app (s := 32) (S := []) (by decide +kernel) (by decide +kernel)
theorem read4 {r : RuleD} (g : r.Good) (h : r.ts ≠ []) : Txt.split (Str.join " and " r.ts) " and " = r.ts := by
  have a1 : ∀ t ∈ allTests, clean3 32 97 110 (tl t) = true := by decide +kernel
  exact split_join3 tl_and (by decide) (by decide) (by decide +kernel) h fun p hp => a1 p (tests_all (g.ts p hp))
theorem read5 {r : RuleD} (g : r.Good) (h : r.ds ≠ []) : Txt.split (Str.join " then " r.ds) " then " = r.ds := by
  have a1 : ∀ t ∈ allDeeds, clean3 32 116 104 (tl t) = true := by decide +kernel
  exact split_join3 tl_then (by decide) (by decide) (by decide +kernel) h fun p hp => a1 p (deeds_all (g.ds p hp))
/-- texts of two good rules are alike only if the rules are -/
theorem ruleText_inj {r u : RuleD} (g : r.Good) (g2 : u.Good) (e : ruleText r = ruleText u) : r.k = u.k ∧ r.ts = u.ts ∧ r.ds = u.ds := by
  have p1 := read1 g
  rw [e, read1 g2] at p1
  injection p1 with a1 p1
  injection p1 with b1 c1
  have p2 := read2 g
  rw [← a1, read2 g2] at p2
  injection p2 with a2 p2
  injection p2 with b2 c2
  have p3 := read3 r.k
  rw [← a2, read3] at p3
  injection p3 with _ p3
  injection p3 with _ a3
  have n1 : ¬ (("" : Str) = " do ") := by decide +kernel
  have n2 : ¬ (("" : Str) = " if ") := by decide +kernel
  refine ⟨a3.symm, ?_, ?_⟩
  · by_cases h1 : r.ts = []
    · by_cases h2 : u.ts = []
      · rw [h1, h2]
      · rw [if_pos h1, if_neg h2] at b2
        exact absurd b2.symm n2
    · by_cases h2 : u.ts = []
      · rw [if_neg h1, if_pos h2] at b2
        exact absurd b2 n2
      · rw [if_neg h1, if_neg h2] at c2
        rw [← read4 g h1, ← c2, read4 g2 h2]
  · by_cases h1 : r.ds = []
    · by_cases h2 : u.ds = []
      · rw [h1, h2]
      · rw [if_pos h1, if_neg h2] at b1
        exact absurd b1.symm n1
    · by_cases h2 : u.ds = []
      · rw [if_neg h1, if_pos h2] at b1
        exact absurd b1 n1
      · rw [if_neg h1, if_neg h2] at c1
        rw [← read5 g h1, ← c1, read5 g2 h2]
end Ov

namespace Ov
open PySem PySem.Spec PyProof.Rows L2
open Evl (pss_cut tCut Ex Ev EvT EvL EvA EvU)
def lettersL : List Str := ["ask", "day", "off", "stop"]
/-- the items are Rules, one for each of rs -/
def RulesAt (K : PySem.W.Frag) (C : Addr) (H : Hp) (xs : List V) (rs : List RuleD) : Prop := Paired (fun x r => ∃ p, x = V.ref p ∧ RuleObj K C H p r) xs rs
theorem RulesAt.ex {K : PySem.W.Frag} {C : Addr} {H H' : Hp} (e : Ex H H') : ∀ {xs : List V} {rs : List RuleD}, RulesAt K C H xs rs → RulesAt K C H' xs rs
  | _, _, .nil => .nil
  | _, _, .cons ⟨p, h1, h2⟩ t => .cons ⟨p, h1, h2.ex e⟩ (RulesAt.ex e t)
theorem RulesAt.at_ {K : PySem.W.Frag} {C : Addr} {H : Hp} : ∀ {xs : List V} {rs : List RuleD} {i : Nat} {x : V}, RulesAt K C H xs rs → xs[i]? = some x → ∃ p r, x = .ref p ∧ rs[i]? = some r ∧ RuleObj K C H p r
  | _, _, _, _, .nil, h => by simp at h
  | _, _, 0, _, .cons ⟨p, h1, h2⟩ _, h => by
    have e := Option.some.inj h
    exact ⟨p, _, by rw [← e, h1], rfl, h2⟩
  | _, _, i + 1, _, .cons _ t, h => RulesAt.at_ (i := i) t h
structure TxP (K : PySem.W.Frag) (mg : Str → Option Value) (CP : Addr) : Prop where
  g_Plan : mg "Plan" = some (.ref CP)
  n_sorted : mg "sorted" = none
  n_set : mg "set" = none
  n_bool : mg "bool" = none
  n_isinstance : mg "isinstance" = none
  n_int : mg "int" = none
  n_len : mg "len" = none
  n_tuple : mg "tuple" = none
  cl : Cls K CP
  nR : NoAttr K CP "raises"
  nU : NoAttr K CP "rules"
def pf (a b : Addr) : List (Str × V) := putF "rules" (.ref b) (putF "raises" (.ref a) [])
theorem pf_raises (a b : Addr) : (pf a b).lookup ("raises" : Str) = some (.ref a) := by
  unfold pf
  rw [lookup_putF, if_neg (by decide +kernel), lookup_putF, if_pos rfl]
theorem pf_rules (a b : Addr) : (pf a b).lookup ("rules" : Str) = some (.ref b) := by
  unfold pf
  rw [lookup_putF, if_pos rfl]
/-- at p a Plan of the class at CP, of these kinds and Rules -/
def PlanObj (K : PySem.W.Frag) (CP : Addr) (H : Hp) (p : Addr) (ks : List Str) (xs : List V) : Prop := ∃ dx a b : Addr, H p = some (.ins CP dx (pf a b)) ∧ SqT K H a (ks.map V.str) ∧ SqT K H b xs
def spAreRaises1 (K : PySem.W.Frag) : Sp := fun vs H Q _ => ∃ (a : Addr) (ks : List Str), vs = [.ref a] ∧ (SqL K H a (ks.map V.str) ∨ SqT K H a (ks.map V.str)) ∧ ks.length ≤ 1 ∧ (∀ k ∈ ks, k ∈ lettersL) ∧ ∀ H', Ex H H' → Q (.bl true) H'
def spAreRules (K : PySem.W.Frag) (CR : Addr) : Sp := fun vs H Q _ => ∃ (a : Addr) (xs : List V) (rs : List RuleD), vs = [.ref a] ∧ (SqL K H a xs ∨ SqT K H a xs) ∧ RulesAt K CR H xs rs ∧ xs.length ≤ 1000 ∧ ∀ H', Ex H H' → Q (.bl true) H'
def spPlanInit1 (K : PySem.W.Frag) (CR CP : Addr) : Sp := fun vs H Q _ => ∃ (p a b dx : Addr) (ks : List Str) (xs : List V) (rs : List RuleD), vs = [.ref p, .ref a, .ref b] ∧ H p = some (.ins CP dx []) ∧ (SqL K H a (ks.map V.str) ∨ SqT K H a (ks.map V.str)) ∧ ks.length ≤ 1 ∧ (∀ k ∈ ks, k ∈ lettersL) ∧
  (SqL K H b xs ∨ SqT K H b xs) ∧ RulesAt K CR H xs rs ∧ xs.length ≤ 1000 ∧ ∀ H', (∀ c o, c ≠ p → H c = some o → H' c = some o) → PlanObj K CP H' p ks xs → Q .non H'
def spIsInteger : Sp := fun vs H Q _ => ∃ i : Int, vs = [.int i] ∧ Q (.bl true) H
def spIsPlace : Sp := fun vs H Q _ => ∃ i n : Int, vs = [.int i, .int n] ∧ Q (.bl (decide (0 ≤ i) && decide (i < n))) H
def spPlanItem (K : PySem.W.Frag) (CP : Addr) : Sp := fun vs H Q _ => ∃ (p : Addr) (ks : List Str) (xs : List V) (i : Nat) (x : V), vs = [.ref p, .int (i : Int)] ∧ PlanObj K CP H p ks xs ∧ xs[i]? = some x ∧ Q x H
theorem perm_le1 : ∀ {ks ys : List Str}, ks.length ≤ 1 → ys.Perm ks → ys = ks
  | [], _, _, h => List.perm_nil.mp h
  | [_], _, _, h => List.perm_singleton.mp h
  | _ :: _ :: _, _, h, _ => absurd h (by simp)
section
variable {P : Program} {w : World} {K : PySem.W.Frag} {mg : Str → Option Value} {base : Heap} {a_LETTERS a_LETTER_TESTS a_LETTER_DEEDS a_ANSWER_TESTS a_ANSWER_DEEDS CR CP : Addr} {tA tN : Tok}
abbrev sAreRaises : Stmt := topS 25
theorem scAreRaises : FnScope ["value", "kind"] ["value"] (defScope sAreRaises) := ⟨rfl, rfl, rfl, by decide +kernel, rfl, by decide +kernel, by decide +kernel⟩
abbrev sAreRules : Stmt := topS 26
theorem scAreRules : FnScope ["value", "rule"] ["value"] (defScope sAreRules) := ⟨rfl, rfl, rfl, by decide +kernel, rfl, by decide +kernel, by decide +kernel⟩
abbrev sPlanInit : Stmt := inClass (topS 28) 0
theorem scPlanInit : FnScope ["self", "raises", "rules"] ["self", "raises", "rules"] (defScope sPlanInit) := ⟨rfl, rfl, rfl, by decide +kernel, rfl, by decide +kernel, by decide +kernel⟩
abbrev sIsInteger : Stmt := topS 9
theorem scIsInteger : FnScope ["value"] ["value"] (defScope sIsInteger) := ⟨rfl, rfl, rfl, by decide +kernel, rfl, by decide +kernel, by decide +kernel⟩
abbrev sIsPlace : Stmt := topS 10
theorem scIsPlace : FnScope ["value", "many"] ["value", "many"] (defScope sIsPlace) := ⟨rfl, rfl, rfl, by decide +kernel, rfl, by decide +kernel, by decide +kernel⟩
abbrev sPlanGetitem : Stmt := inClass (topS 28) 5
theorem scPlanGetitem : FnScope ["self", "at"] ["self", "at"] (defScope sPlanGetitem) := ⟨rfl, rfl, rfl, by decide +kernel, rfl, by decide +kernel, by decide +kernel⟩
theorem exB {H H' : Hp} {a : Addr} {xs : List V} (e : Ex H H') (h : SqL K H a xs ∨ SqT K H a xs) : SqL K H' a xs ∨ SqT K H' a xs := h.imp (Evl.ex_l e) (Evl.ex_t e)
theorem ok_are_raises1 {f fSeq : Addr} {fd fdSeq : FuncData} (F : Fun K "are_raises" "are_raises" sAreRaises f fd) (T : TxR K mg a_LETTERS a_LETTER_TESTS a_LETTER_DEEDS a_ANSWER_TESTS a_ANSWER_DEEDS CR tA tN) (n_set : mg "set" = none) (D_is_sequence : Df K mg "is_sequence" sIsSequence ["value"] fSeq fdSeq) :
    FnOk P w K mg base CX0 2 f fd ["value"] (spAreRaises1 K) := by
  have G_is_sequence : FnOk P w K mg base CX0 1 fSeq fdSeq ["value"] (spIsSeq K) := ok_is_sequence D_is_sequence.F T
  refine F.ok scAreRaises (fun vs H Q E h => ?_) (fun cdv A outer s H vs Q E hr h => ?_)
  · obtain ⟨a, ks, rfl, _⟩ := h
    rfl
  · obtain ⟨a, ks, rfl, hS, hl, hk, q⟩ := h
    refine ⟨_, pss_cons (ps_if (PW.pt (pw_or (pt_not (pt_val (pe_call G_is_sequence (hr.mono (by decide)) rfl D_is_sequence.g D_is_sequence.F.kp D_is_sequence.b .nil pass0 (pa_cons (pv 0) pa_nil)))) (pw_or1 (pt_not (pt_val (pe_callB (cr_all rfl) (by rfl) T.n_all (by decide +kernel) (pa_cons (pe_lc (own := [("kind", 1)]) (g := gName 1) (tt := tYes) rfl scAreRaises.nd (pi_both (pv 0)) (blkOk_by (own := [("kind", 1)]) (N := ["value", "kind"]) (sc := defScope sAreRaises) (by decide +kernel)) (fun _ _ _ _ _ => (pg_name (i := 1) scAreRaises.nd rfl (Or.inl rfl))) (fun _ _ _ _ _ => pts_nil) (fun _ _ _ _ _ => (pe_cmpR (r := rIn K false) op_in_seq (pv 1) (pe_glob (v := .ref a_LETTERS) rfl T.g_LETTERS rfl) (by rfl)))) pa_nil))))))) (pss_one (ps_ret pe_bl)) pss_nil)
      (pss_one (ps_ret (pe_cmpR op_eq (pe_lenSet rfl rfl T.n_len rfl n_set (pv 0)) (pe_callB call_len_seq (by rfl) T.n_len (by decide +kernel) (pa_cons (pv 0) pa_nil)) (nomark _)))), ?_⟩
    have lT : (ks.map V.str).length ≤ 40000 := by rw [List.length_map]; omega
    refine Evl.q_when (b := false) (Evl.et_is (Evl.et_or (Evl.et_not (Evl.et_B (ev_call (v := .bl true) (Evl.ea_cons (Evl.ev_var rfl) Evl.ea_nil) fun H1 e1 Q1 q1 => ⟨a, _, rfl, exB e1 hS, fun H2 e2 => q1 H2 e2⟩)))
      (fun _ => Evl.et_not (Evl.et_B (ev_all (bs := List.replicate (ks.map V.str).length true) ?_)))) (by rw [all_true]; rfl)) (fun z => nomatch z) (fun _ H1 e1 => ?_)
    · rw [← range_true]
      refine el_lcB (fun _ => .bl true) (Evl.ev_var rfl) hS lT (fun x => rfl) (fun i x H2 e2 hi => ?_)
      obtain ⟨y, rfl, hy⟩ := strs_at hi
      have hy2 : y ∈ lettersL := hk y (List.mem_of_getElem? hy)
      refine Evl.ev_is (Evl.ev_op (Evl.ev_var rfl) Evl.ev_c (Evl.rv_isT (T.s_LETTERS _) rfl (flat_strs _))) ?_
      rw [inV_strs]
      exact congrArg V.bl (decide_eq_true hy2)
    · refine ⟨_, rfl, a, ks, rfl, exB e1 hS, hl, _, rfl, a, _, rfl, exB e1 hS, rfl, ?_⟩
      rw [List.length_map]
      exact (decide_eq_true (rfl : V.int (ks.length : Int) = V.int (ks.length : Int))) ▸ q H1 e1
theorem ok_are_rules {f fSeq : Addr} {fd fdSeq : FuncData} (F : Fun K "are_rules" "are_rules" sAreRules f fd) (T : TxR K mg a_LETTERS a_LETTER_TESTS a_LETTER_DEEDS a_ANSWER_TESTS a_ANSWER_DEEDS CR tA tN) (D_is_sequence : Df K mg "is_sequence" sIsSequence ["value"] fSeq fdSeq) :
    FnOk P w K mg base CX0 2 f fd ["value"] (spAreRules K CR) := by
  have G_is_sequence : FnOk P w K mg base CX0 1 fSeq fdSeq ["value"] (spIsSeq K) := ok_is_sequence D_is_sequence.F T
  refine F.ok scAreRules (fun vs H Q E h => ?_) (fun cdv A outer s H vs Q E hr h => ?_)
  · obtain ⟨a, xs, rs, rfl, _⟩ := h
    rfl
  · obtain ⟨a, xs, rs, rfl, hS, hR, hl, q⟩ := h
    refine ⟨_, pss_one (ps_ret (pe_and (pe_call G_is_sequence (hr.mono (by decide)) rfl D_is_sequence.g D_is_sequence.F.kp D_is_sequence.b .nil pass0 (pa_cons (pv 0) pa_nil)) (pe_one (pe_callB (cr_all rfl) (by rfl) T.n_all (by decide +kernel) (pa_cons (pe_lc (own := [("rule", 1)]) (g := gName 1) (tt := tYes) rfl scAreRules.nd (pi_both (pv 0)) (blkOk_by (own := [("rule", 1)]) (N := ["value", "rule"]) (sc := defScope sAreRules) (by decide +kernel)) (fun _ _ _ _ _ => (pg_name (i := 1) scAreRules.nd rfl (Or.inl rfl))) (fun _ _ _ _ _ => pts_nil) (fun _ _ _ _ _ => (pe_callB (r := rIsi K) call_isi (by rfl) T.n_isinstance (by decide +kernel) (pa_cons (pv 1) (pa_cons (pe_glob (v := .ref CR) rfl T.g_Rule rfl) pa_nil))))) pa_nil))))), ?_⟩
    refine Evl.s_ret (v := .bl (true && (List.replicate xs.length true).all id)) ?_ fun H1 e1 => by
      rw [all_true]
      exact q H1 e1
    refine Evl.ev_andV (ev_call (v := .bl true) (Evl.ea_cons (Evl.ev_var rfl) Evl.ea_nil) fun H1 e1 Q1 q1 => ⟨a, _, rfl, exB e1 hS, fun H2 e2 => q1 H2 e2⟩) (fun _ => ev_all ?_)
    rw [← range_true]
    refine el_lcB (fun _ => .bl true) (Evl.ev_var rfl) hS (Nat.le_trans hl (by decide)) (fun x => rfl) (fun i x H2 e2 hi => ?_)
    obtain ⟨p, r, rfl, hr2, dx, t, d, h1, _⟩ := hR.at_ hi
    exact ev_isi (Evl.ea_cons (Evl.ev_var rfl) (Evl.ea_cons Evl.ev_c Evl.ea_nil)) (.own CR) (fun H3 e3 => .base (.ins (e3 _ _ (e2 _ _ h1)) T.cl T.ci T.cs T.ct T.co)) (by simp [PySem.W.kitOne])
theorem ok_is_integer {f : Addr} {fd : FuncData} (F : Fun K "is_integer" "is_integer" sIsInteger f fd) (T : TxP K mg CP) : FnOk P w K mg base CX0 1 f fd ["value"] spIsInteger := by
  refine F.ok scIsInteger (fun vs H Q E h => ?_) (fun cdv A outer s H vs Q E hr h => ?_)
  · obtain ⟨i, rfl, _⟩ := h
    rfl
  · obtain ⟨i, rfl, q⟩ := h
    refine ⟨_, pss_one (ps_ret (pe_and (pe_callB call_isi (by rfl) T.n_isinstance (by decide +kernel) (pa_cons (pv 0) (pa_cons (pe_bltn (v := .ty "int") (by rfl) T.n_int (by decide +kernel) rfl) pa_nil))) (pe_one (pe_not (pe_callB call_isi (by rfl) T.n_isinstance (by decide +kernel) (pa_cons (pv 0) (pa_cons (pe_bltn (v := .ty "bool") (by rfl) T.n_bool (by decide +kernel) rfl) pa_nil))))))), ?_⟩
    exact ⟨_, rfl, _, _, _, _, true, rfl, .ty _, .base (.int _), kit_ty (by decide +kernel), _, rfl, iteT ⟨_, rfl, _, _, _, _, false, rfl, .ty _, .base (.int _), kit_ty (by decide +kernel), _, rfl, q⟩⟩
theorem ok_is_place {f fI : Addr} {fd fdI : FuncData} (F : Fun K "is_place" "is_place" sIsPlace f fd) (T : TxP K mg CP) (D_is_integer : Df K mg "is_integer" sIsInteger ["value"] fI fdI) : FnOk P w K mg base CX0 2 f fd ["value", "many"] spIsPlace := by
  have G_is_integer : FnOk P w K mg base CX0 1 fI fdI ["value"] spIsInteger := ok_is_integer D_is_integer.F T
  refine F.ok scIsPlace (fun vs H Q E h => ?_) (fun cdv A outer s H vs Q E hr h => ?_)
  · obtain ⟨i, n, rfl, _⟩ := h
    rfl
  · obtain ⟨i, n, rfl, q⟩ := h
    refine ⟨_, pss_one (ps_ret (pe_and (pe_call G_is_integer (hr.mono (by decide)) rfl D_is_integer.g D_is_integer.F.kp D_is_integer.b .nil pass0 (pa_cons (pv 0) pa_nil)) (pe_one (pe_chain op_le op_lt pe_int (pv 0) (pv 1))))), ?_⟩
    refine ⟨_, rfl, i, rfl, true, rfl, iteT ?_⟩
    refine ⟨_, rfl, _, _, rfl, rfl, _, rfl, ?_⟩
    refine ite2 (fun h1 => ⟨_, rfl, _, _, rfl, rfl, ?_⟩) (fun h1 => ?_)
    · rw [h1, Bool.true_and] at q
      exact q
    · rw [show decide (0 ≤ i) = false by simpa using h1, Bool.false_and] at q
      exact q
theorem ok_plan_init1 {f fSeq fAR fAU : Addr} {fd fdSeq fdAR fdAU : FuncData} {dvs : List V} {kws : List (Str × V)} (F : FunD K "__init__" "Plan.__init__" (defArgs sPlanInit) (defBody sPlanInit) (defScope sPlanInit) dvs kws f fd) (T : TxR K mg a_LETTERS a_LETTER_TESTS a_LETTER_DEEDS a_ANSWER_TESTS a_ANSWER_DEEDS CR tA tN) (TP : TxP K mg CP)
    (D_is_sequence : Df K mg "is_sequence" sIsSequence ["value"] fSeq fdSeq) (D_are_raises : Df K mg "are_raises" sAreRaises ["value"] fAR fdAR) (D_are_rules : Df K mg "are_rules" sAreRules ["value"] fAU fdAU) :
    FnOk P w K mg base CX0 3 f fd ["self", "raises", "rules"] (spPlanInit1 K CR CP) := by
  have G_are_raises : FnOk P w K mg base CX0 2 fAR fdAR ["value"] (spAreRaises1 K) := ok_are_raises1 D_are_raises.F T TP.n_set D_is_sequence
  have G_are_rules : FnOk P w K mg base CX0 2 fAU fdAU ["value"] (spAreRules K CR) := ok_are_rules D_are_rules.F T D_is_sequence
  refine FunD_ok0 F scPlanInit (fun vs H Q E h => ?_) (fun cdv A outer s H vs Q E hr h => ?_)
  · obtain ⟨p, a, b, dx, ks, xs, rs, rfl, _⟩ := h
    rfl
  · obtain ⟨p, a, b, dx, ks, xs, rs, rfl, hp, hA, hl, hk, hB, hR, hx, q⟩ := h
    refine ⟨_, pss_cons (ps_if (pt_not (pt_val (pe_call G_are_raises (hr.mono (by decide)) rfl D_are_raises.g D_are_raises.F.kp D_are_raises.b .nil pass0 (pa_cons (pv 1) pa_nil)))) (pss_one ps_never) pss_nil)
      (pss_cons (ps_if (pt_not (pt_val (pe_call G_are_rules (hr.mono (by decide)) rfl D_are_rules.g D_are_rules.F.kp D_are_rules.b .nil pass0 (pa_cons (pv 2) pa_nil)))) (pss_one ps_never) pss_nil)
      (pss_cons (ps_fld (pv 0) (pe_callTy call_tuple_any (by rfl) T.n_tuple (by decide +kernel) (pa_cons (pe_callB cr_sortedB (by rfl) TP.n_sorted (by decide +kernel) (pa_cons (pv 1) pa_nil)) pa_nil)) rfl)
      (pss_one (ps_fld (pv 0) (pe_callTy call_tuple_any (by rfl) T.n_tuple (by decide +kernel) (pa_cons (pv 2) pa_nil)) rfl)))), ?_⟩
    refine Evl.q_when (b := false) (Evl.et_is (Evl.et_not (Evl.et_B (ev_call (v := .bl true) (Evl.ea_cons (Evl.ev_var rfl) Evl.ea_nil) fun H1 e1 Q1 q1 => ⟨a, ks, rfl, exB e1 hA, hl, hk, fun H2 e2 => q1 H2 e2⟩))) rfl) (fun z => nomatch z) (fun _ H1 e1 => ?_)
    refine Evl.q_when (b := false) (Evl.et_is (Evl.et_not (Evl.et_B (ev_call (v := .bl true) (Evl.ea_cons (Evl.ev_var rfl) Evl.ea_nil) fun H2 e2 Q1 q1 => ⟨b, xs, rs, rfl, exB (e1.trans e2) hB, RulesAt.ex (e1.trans e2) hR, hx, fun H3 e3 => q1 H3 e3⟩))) rfl) (fun z => nomatch z) (fun _ H2 e2 => ?_)
    have e12 := e1.trans e2
    have ntp : ∀ {H' : Hp} {a : Addr} {xs : List V} {fs : List (Str × V)}, H' p = some (.ins CP dx fs) → SqT K H' a xs → ∀ o, SqT K (upd H' p o) a xs := by
      intro H' a xs fs hp' h o
      rcases h with (h | ⟨u, h⟩) | h
      · exact .inl (.inl (by rw [upd_ne (ne_of h hp' (fun z => nomatch z))]; exact h))
      · exact .inl (.inr ⟨u, by rw [upd_ne (ne_of h hp' (fun z => nomatch z))]; exact h⟩)
      · exact .inr h
    have ntl : ∀ {H' : Hp} {a : Addr} {xs : List V} {fs : List (Str × V)}, H' p = some (.ins CP dx fs) → SqL K H' a xs → ∀ o, SqL K (upd H' p o) a xs := by
      intro H' a xs fs hp' h o
      rcases h with (h | ⟨u, h⟩) | h
      · exact .inl (.inl (by rw [upd_ne (ne_of h hp' (fun z => nomatch z))]; exact h))
      · exact .inl (.inr ⟨u, by rw [upd_ne (ne_of h hp' (fun z => nomatch z))]; exact h⟩)
      · exact .inr h
    refine ⟨_, rfl, a, ks, rfl, exB e12 hA, by omega, fun ys l hperm hsort nl => ?_⟩
    have eys : ys = ks := perm_le1 hl hperm
    subst eys
    refine ⟨l, _, rfl, .inl (SqL.of upd_same), fun t2 H3 e3 s3 => ?_⟩
    have e13 : Ex H H3 := (e12.trans (Ex.new nl)).trans e3
    have hp3 := e13 _ _ hp
    refine ⟨_, rfl, p, CP, dx, _, rfl, hp3, TP.cl, TP.nR, (by show 0 < 1000; decide), ?_⟩
    have hB3 := (exB e13 hB).imp (fun h => ntl hp3 h (.ins CP dx (putF "raises" (.ref t2) []))) (fun h => ntp hp3 h (.ins CP dx (putF "raises" (.ref t2) [])))
    have s3' := ntp hp3 s3 (.ins CP dx (putF "raises" (.ref t2) []))
    refine ⟨_, rfl, b, _, rfl, hB3, fun d2 H4 e4 s4 => ?_⟩
    have hp4 := e4 _ _ upd_same
    refine ⟨_, rfl, p, CP, dx, _, rfl, hp4, TP.cl, TP.nU, (by show 1 < 1000; decide), ?_⟩
    refine q _ (fun c o hc hh => ?_) ⟨dx, t2, d2, upd_same, ntp hp4 (Evl.ex_t e4 s3') _, ntp hp4 s4 _⟩
    rw [upd_ne hc]
    refine e4 _ _ ?_
    rw [upd_ne hc]
    exact e13 _ _ hh
theorem ok_plan_item {f fI fPl : Addr} {fd fdI fdPl : FuncData} (F : Fun K "__getitem__" "Plan.__getitem__" sPlanGetitem f fd) (TP : TxP K mg CP) (D_is_integer : Df K mg "is_integer" sIsInteger ["value"] fI fdI) (D_is_place : Df K mg "is_place" sIsPlace ["value", "many"] fPl fdPl) :
    FnOk P w K mg base CX0 3 f fd ["self", "at"] (spPlanItem K CP) := by
  have G_is_place : FnOk P w K mg base CX0 2 fPl fdPl ["value", "many"] spIsPlace := ok_is_place D_is_place.F TP D_is_integer
  refine F.ok scPlanGetitem (fun vs H Q E h => ?_) (fun cdv A outer s H vs Q E hr h => ?_)
  · obtain ⟨p, ks, xs, i, x, rfl, _⟩ := h
    rfl
  · obtain ⟨p, ks, xs, i, x, rfl, ⟨dx, a, b, hp, ha, hb⟩, hx, q⟩ := h
    refine ⟨_, pss_cons (ps_if (pt_not (pt_val (pe_call G_is_place (hr.mono (by decide)) rfl D_is_place.g D_is_place.F.kp D_is_place.b .nil pass0 (pa_cons (pv 1) (pa_cons (pe_callB call_len_seq (by rfl) TP.n_len (by decide +kernel) (pa_cons (pe_fld (pv 0) rfl) pa_nil)) pa_nil))))) (pss_one ps_never) pss_nil)
      (pss_one (ps_ret (pe_ix ix_tup (pe_fld (pv 0) rfl) (pv 1) (fun _ _ => rfl)))), ?_⟩
    refine ⟨_, rfl, _, rfl, p, CP, dx, _, _, rfl, hp, TP.cl, TP.nU, pf_rules _ _, b, xs, rfl, .inr hb, _, _, rfl, _, rfl, ?_⟩
    have hi := (List.getElem?_eq_some_iff.mp hx).1
    have e : (decide ((0 : Int) ≤ (i : Int)) && decide ((i : Int) < (xs.length : Int))) = true := by
      rw [decide_eq_true (by omega), decide_eq_true (by omega)]
      rfl
    rw [e]
    refine iteF ⟨_, rfl, p, CP, dx, _, _, rfl, hp, TP.cl, TP.nU, pf_rules _ _, _, rfl, b, xs, _, _, rfl, rfl, hb, atI_nat hx, q⟩
end
end Ov

namespace Ov
open PySem PySem.Spec PyProof.Rows L2
open Evl (pss_cut tCut Ex Ev EvT EvL EvA EvU)
/-- evaluates to some object of which Pp holds; what stood stays -/
def EvP (te : TE) (σ : L2.St) (H : Hp) (Pp : Addr → Hp → Prop) : Prop := ∀ H1, Ex H H1 → ∀ Q : VK, (∀ p H2, Ex H1 H2 → Pp p H2 → Q (.ref p) H2) → te σ H1 Q
def EvAs (ta : TA) (σ : L2.St) (H : Hp) (Pa : List V → Hp → Prop) : Prop := ∀ H1, Ex H H1 → ∀ Q : List V → Hp → Prop, (∀ vs H2, Ex H1 H2 → Pa vs H2 → Q vs H2) → ta σ H1 Q
def sameR (r u : RuleD) : Bool := decide (r.k = u.k) && (decide (r.ts = u.ts) && decide (r.ds = u.ds))
theorem sameR_self (r : RuleD) : sameR r r = true := by
  unfold sameR
  rw [decide_eq_true rfl, decide_eq_true rfl, decide_eq_true rfl]
  rfl
theorem sameR_text {r u : RuleD} (g : r.Good) (g2 : u.Good) : decide (ruleText r = ruleText u) = sameR r u := by
  by_cases h : ruleText r = ruleText u
  · obtain ⟨h1, h2, h3⟩ := ruleText_inj g g2 h
    unfold sameR
    rw [h1, h2, h3, decide_eq_true h, decide_eq_true rfl, decide_eq_true rfl, decide_eq_true rfl]
    rfl
  · rw [decide_eq_false h]
    symm
    by_cases hs : sameR r u = true
    · exfalso
      unfold sameR at hs
      obtain ⟨h1, h2⟩ := Bool.and_eq_true_iff.mp hs
      obtain ⟨h2, h3⟩ := Bool.and_eq_true_iff.mp h2
      refine h ?_
      unfold ruleText
      rw [of_decide_eq_true h1, of_decide_eq_true h2, of_decide_eq_true h3]
    · simpa using hs
section
variable {K : PySem.W.Frag} {CR : Addr} {σ : L2.St} {H : Hp} {ta tb te : TE} {r u : RuleD}
theorem EvP.of {p : Addr} {Pp : Addr → Hp → Prop} (h : Ev te σ H (.ref p)) (hp : ∀ H1, Ex H H1 → Pp p H1) : EvP te σ H Pp := fun H1 e Q q => h H1 e Q fun H2 e2 => q p H2 e2 (hp H2 (e.trans e2))
theorem EvP.tup {vs : List V} {Pp : Addr → Hp → Prop} (h : EvU te σ H vs) (hp : ∀ p H1, Ex H H1 → H1 p = some (.tup vs) → Pp p H1) : EvP te σ H Pp := fun H1 e Q q => h H1 e Q fun p H2 _ e2 h2 => q p H2 e2 (hp p H2 (e.trans e2) h2)
theorem EvP.lst {vs : List V} {Pp : Addr → Hp → Prop} (h : EvL te σ H vs) (hp : ∀ p H1, Ex H H1 → H1 p = some (.lst vs) → Pp p H1) : EvP te σ H Pp := fun H1 e Q q => h H1 e Q fun p H2 _ e2 h2 => q p H2 e2 (hp p H2 (e.trans e2) h2)
/-- Rule(k, tests, deeds) -/
theorem ev_rule {t3 t4 : TE} (hk : Ev ta σ H (.str r.k)) (ht : EvP t3 σ H (fun t H2 => SqL K H2 t (r.ts.map V.str) ∨ SqT K H2 t (r.ts.map V.str))) (hd : EvP t4 σ H (fun d H2 => SqL K H2 d (r.ds.map V.str) ∨ SqT K H2 d (r.ds.map V.str))) (g : r.Good) :
    EvP (tMake CR (spRuleInit K CR) [] E0 (tCons ta (tCons t3 (tCons t4 tNil)))) σ H (fun p H2 => RuleObj K CR H2 p r) := fun H1 e1 Q q => by
  refine hk H1 e1 _ fun H2 e2 => ht H2 (e1.trans e2) _ fun t H3 e3 st => hd H3 ((e1.trans e2).trans e3) _ fun d H4 e4 sd x dx nx ndx ne => ?_
  have e5 : Ex H4 (upd (upd H4 dx (.own x)) x (.ins CR dx [])) := (Ex.new ndx).trans (Ex.new (by rw [upd_ne ne.symm]; exact nx))
  refine ⟨x, t, d, dx, r, rfl, upd_same, exB e5 (exB e4 st), exB e5 sd, g, fun H5 k5 ro => ⟨rfl, q x H5 (((e2.trans e3).trans e4).trans fun b o hb => k5 b o (ne_of_none hb nx) (e5 _ _ hb)) ro⟩⟩
theorem ev_eqR (ha : EvP ta σ H (fun p H => RuleObj K CR H p r)) (hb : EvP tb σ H (fun p H => RuleObj K CR H p u)) (g : r.Good) (g2 : u.Good) : Ev (tOp (rEqI CR (spRuleEq K CR) E0) ta tb) σ H (.bl (sameR r u)) := fun H1 e1 Q q => by
  refine ha H1 e1 _ fun p H2 e2 rp => hb H2 (e1.trans e2) _ fun p2 H3 e3 rp2 => ?_
  have rp3 := rp.ex e3
  obtain ⟨dx, t, d, hp, _⟩ := id rp3
  obtain ⟨dx2, t2, d2, hp2, _⟩ := id rp2
  exact ⟨p, p2, dx, dx2, _, _, rfl, rfl, hp, hp2, p, p2, r, u, rfl, rp3, rp2, g, g2, fun H4 e4 => ⟨_, rfl, q H4 ((e2.trans e3).trans e4)⟩⟩
theorem ev_neR (ha : EvP ta σ H (fun p H => RuleObj K CR H p r)) (hb : EvP tb σ H (fun p H => RuleObj K CR H p u)) (g : r.Good) (g2 : u.Good) : Ev (tOp (rNeI CR (spRuleEq K CR) E0) ta tb) σ H (.bl (!sameR r u)) := fun H1 e1 Q q => by
  refine ha H1 e1 _ fun p H2 e2 rp => hb H2 (e1.trans e2) _ fun p2 H3 e3 rp2 => ?_
  have rp3 := rp.ex e3
  obtain ⟨dx, t, d, hp, _⟩ := id rp3
  obtain ⟨dx2, t2, d2, hp2, _⟩ := id rp2
  exact ⟨p, p2, dx, dx2, _, _, rfl, rfl, hp, hp2, p, p2, r, u, rfl, rp3, rp2, g, g2, fun H4 e4 => ⟨_, rfl, q H4 ((e2.trans e3).trans e4)⟩⟩
theorem ev_strR (ha : EvP ta σ H (fun p H => RuleObj K CR H p r)) (g : r.Good) : Ev (tCB (rStrI CR (spRuleStr K CR) E0) (tCons ta tNil)) σ H (.str (ruleText r)) := fun H1 e1 Q q => by
  refine ha H1 e1 _ fun p H2 e2 rp => ?_
  obtain ⟨dx, t, d, hp, _⟩ := id rp
  exact ⟨p, dx, _, rfl, hp, p, r, rfl, rp, g, fun H3 e3 => ⟨_, rfl, q H3 (e2.trans e3)⟩⟩
/-- the fields of a Rule -/
theorem ev_fk {T : Cls K CR} (nK : NoAttr K CR "kind") {p : Addr} (ha : Ev ta σ H (.ref p)) (rp : RuleObj K CR H p r) : Ev (tFld K ta "kind") σ H (.str r.k) := by
  obtain ⟨dx, t, d, hp, _⟩ := rp
  exact ev_fld ha hp T nK (rf_k _ _ _)
theorem ev_ft {T : Cls K CR} (nT : NoAttr K CR "tests") {p : Addr} (ha : Ev ta σ H (.ref p)) (rp : RuleObj K CR H p r) : EvP (tFld K ta "tests") σ H (fun t H2 => SqT K H2 t (r.ts.map V.str)) := by
  obtain ⟨dx, t, d, hp, ht, _⟩ := rp
  exact .of (ev_fld ha hp T nT (rf_t _ _ _)) fun H1 e1 => Evl.ex_t e1 ht
theorem ev_fd {T : Cls K CR} (nD : NoAttr K CR "deeds") {p : Addr} (ha : Ev ta σ H (.ref p)) (rp : RuleObj K CR H p r) : EvP (tFld K ta "deeds") σ H (fun t H2 => SqT K H2 t (r.ds.map V.str)) := by
  obtain ⟨dx, t, d, hp, _, hd⟩ := rp
  exact .of (ev_fld ha hp T nD (rf_d _ _ _)) fun H1 e1 => Evl.ex_t e1 hd
theorem EvP.imp {Pp Pq : Addr → Hp → Prop} (h : EvP te σ H Pp) (i : ∀ p H1, Pp p H1 → Pq p H1) : EvP te σ H Pq := fun H1 e Q q => h H1 e Q fun p H2 e2 h2 => q p H2 e2 (i p H2 h2)
theorem EvP.mono {Pp : Addr → Hp → Prop} {H' : Hp} (e : Ex H H') (h : EvP te σ H Pp) : EvP te σ H' Pp := fun H1 e1 Q q => h H1 (e.trans e1) Q q
/-- t[::-1] -/
theorem ev_back {xs : List V} (ha : EvP ta σ H (fun t H2 => SqT K H2 t xs)) (hs : Ev tb σ H (.int (-1))) : EvP (tBackT K ta tb) σ H (fun t H2 => SqT K H2 t xs.reverse) := fun H1 e1 Q q =>
  ha H1 e1 _ fun t H2 e2 st => hs H2 (e1.trans e2) _ fun H3 e3 => ⟨-1, rfl, rfl, t, xs, rfl, Evl.ex_t e3 st, fun p np => q p _ ((e2.trans e3).trans (Ex.new np)) (Evl.st_of upd_same)⟩
/-- == and != of tuples of texts, either made on the way -/
theorem ev_eqTs {l m : List Str} (ol : Plain l) (om : Plain m) (ha : EvP ta σ H (fun t H2 => SqT K H2 t (l.map V.str))) (hb : EvP tb σ H (fun t H2 => SqT K H2 t (m.map V.str))) : Ev (tOp (rEqD K) ta tb) σ H (.bl (decide (l = m))) := fun H1 e1 Q q =>
  ha H1 e1 _ fun t H2 e2 st => hb H2 (e1.trans e2) _ fun t2 H3 e3 st2 => rv_eqT ol om (Evl.ex_t e3 st) st2 H3 (Ex.refl _) Q fun H4 e4 => q H4 ((e2.trans e3).trans e4)
/-- lists of texts, of truth values, compared -/
theorem dp_bls {H : Hp} : ∀ l : List Bool, DpAll K H (l.map V.bl) (l.map PyData.bool)
  | [] => .nil
  | n :: r => .cons (.bl n) (dp_bls r)
theorem canLay_bls : ∀ l : List Bool, PyData.canLayAll0 (l.map PyData.bool) = true
  | [] => rfl
  | n :: r => by
    show (PyData.canLay0 (.bool n) && PyData.canLayAll0 (r.map PyData.bool)) = true
    rw [canLay_bls r]
    rfl
theorem depth_bls : ∀ l : List Bool, PyData.depthAll (l.map PyData.bool) = 0
  | [] => rfl
  | n :: r => by
    show max (PyData.depth (.bool n)) (PyData.depthAll (r.map PyData.bool)) = 0
    rw [depth_bls r]
    rfl
theorem shaped_bls (l : List Bool) : SeqAt.shaped (.list (l.map PyData.bool)) = true := by
  have h2 : (PyData.list (l.map PyData.bool)).depth = 0 + 1 := by
    show PyData.depthAll (l.map PyData.bool) + 1 = 0 + 1
    rw [depth_bls]
  show (PyData.canLayAll0 (l.map PyData.bool) && decide ((PyData.list (l.map PyData.bool)).depth ≤ 64)) = true
  rw [canLay_bls l, h2]
  rfl
theorem eqvAll_bls : ∀ l : List Bool, PyData.eqvAll (l.map PyData.bool) (l.map PyData.bool) = true
  | [] => rfl
  | x :: l => by
    show (x == x && PyData.eqvAll (l.map PyData.bool) (l.map PyData.bool)) = true
    rw [eqvAll_bls l, beq_self_eq_true]
    rfl
/-- two lists of the same truth values are not unequal -/
theorem ev_neBs {l : List Bool} (ha : EvL ta σ H (l.map V.bl)) (hb : EvL tb σ H (l.map V.bl)) : Ev (tOp (rNeD K) ta tb) σ H (.bl false) := Evl.ev_opLL ha hb fun p q H1 hp hq _ => fun H2 e2 Q k =>
  ⟨_, _, .lst (Evl.sq_of (e2 _ _ hp)) (dp_bls l), .lst (Evl.sq_of (e2 _ _ hq)) (dp_bls l), shaped_bls l, shaped_bls l, by
    have e : PyData.eqv (.list (l.map PyData.bool)) (.list (l.map PyData.bool)) = true := eqvAll_bls l
    rw [e]
    exact k H2 (Ex.refl _)⟩
/-- a new list of texts against a list of the same ones -/
theorem ev_neSs {l : List Str} {a : Addr} (ol : Plain l) (ha : EvL ta σ H (l.map V.str)) (hb : ∀ H1, Ex H H1 → Ev tb σ H1 (.ref a)) (hl : SqL K H a (l.map V.str)) : Ev (tOp (rNeD K) ta tb) σ H (.bl false) := Evl.ev_opL1 ha hb fun p H1 hp e1 => fun H2 e2 Q k =>
  ⟨_, _, .lst (Evl.sq_of (e2 _ _ hp)) (dp_strs l), .lst (Evl.ex_l (e1.trans e2) hl) (dp_strs l), shaped_strsL l ol, shaped_strsL l ol, by
    rw [eqv_strsL, decide_eq_true rfl]
    exact k H2 (Ex.refl _)⟩
end
/-! ### texts of rules are of plain signs -/
theorem plain_app {x y : Str} (hx : PyData.canLay0 (.str x) = true) (hy : PyData.canLay0 (.str y) = true) : PyData.canLay0 (.str (x ++ y)) = true := by
  have hx' : x.cps.all (· < 0x110000) = true := hx
  have hy' : y.cps.all (· < 0x110000) = true := hy
  show (x ++ y).cps.all (· < 0x110000) = true
  rw [Str.cps_append, Array.all_append, hx', hy']
  rfl
theorem plain_join {sep : Str} (hs : PyData.canLay0 (.str sep) = true) : ∀ {l : List Str}, Plain l → PyData.canLay0 (.str (Str.join sep l)) = true
  | [], _ => by
    show PyData.canLay0 (.str Str.empty) = true
    decide +kernel
  | [x], h => h x (List.mem_singleton.mpr rfl)
  | x :: y :: r, h => plain_app (plain_app (h x (List.mem_cons_self ..)) hs) (plain_join hs fun z hz => h z (List.mem_cons_of_mem _ hz))
theorem plain_text {r : RuleD} (g : r.Good) : PyData.canLay0 (.str (ruleText r)) = true := by
  have hk : ∀ k ∈ kindsAll, PyData.canLay0 (.str k) = true := by decide +kernel
  unfold ruleText tText dText
  refine plain_app (plain_app (plain_app (by decide +kernel) (hk _ g.k)) ?_) ?_
  · split
    · decide +kernel
    · exact plain_app (by decide +kernel) (plain_join (by decide +kernel) g.pt)
  · split
    · decide +kernel
    · exact plain_app (by decide +kernel) (plain_join (by decide +kernel) g.pd)
end Ov

namespace Ov
open PySem PySem.Spec PyProof.Rows L2
open Evl (pss_cut tCut Ex Ev EvT EvL EvA EvU)
/-! ### readings of the law's parts -/
abbrev sK : Str := Str.ofString "kind"
abbrev sT : Str := Str.ofString "tests"
abbrev sD : Str := Str.ofString "deeds"
section
variable (K : PySem.W.Frag) (CR CP : Addr)
abbrev tR (ta : TA) : TE := tMake CR (spRuleInit K CR) [] E0 ta
abbrev tBk : TE := tOp (rI0 fun i j => V.int (i - j)) (tC (V.int 0)) (tC (V.int 1))
abbrev fK : TE := tFld K (tVar 6) sK
abbrev fT : TE := tFld K (tVar 6) sT
abbrev fD : TE := tFld K (tVar 6) sD
abbrev ix5 (i : Int) : TE := tOp (rIxT K) (tVar 5) (tC (V.int i))
abbrev tStr (te : TE) : TE := tCB (rStrI CR (spRuleStr K CR) E0) (tCons te tNil)
abbrev tNo : TS := tRet (tC (V.bl false))
def rdZip : TS :=
  tSeq (tIfS (tOr (tTest (tOp (rNeI CR (spRuleEq K CR) E0) (tR K CR (tCons (fK K) (tCons (fT K) (tCons (fD K) tNil)))) (tVar 6))) (tTest (tOp (rNeD K) (fK K) (ix5 K 0)))) tNo tNext)
  (tSeq (tAsg (tR K CR (tCons (fK K) (tCons (tBackT K (fT K) tBk) (tCons (fD K) tNil)))) (gName 7))
  (tSeq (tIfS (tTest (tOp (rNeD K) (tOp (rEqI CR (spRuleEq K CR) E0) (tVar 7) (tVar 6)) (tOp (rEqD K) (tBackT K (ix5 K 1) tBk) (ix5 K 1)))) tNo tNext)
  (tSeq (tAsg (tR K CR (tCons (fK K) (tCons (tTup tNil) (tCons (fD K) tNil)))) (gName 8))
  (tIfS (tOr (tTest (tOp (rNeD K) (tOp (rEqI CR (spRuleEq K CR) E0) (tVar 8) (tVar 6)) (tOp (rEqD K) (ix5 K 1) (tTup tNil))))
    (tTest (tOp (rNeD K) (tStr K CR (tVar 8)) (tCall (spRuleText K) [] E0 (tCons (tTup (tCons (ix5 K 0) (tCons (tTup tNil) (tCons (ix5 K 2) tNil)))) tNil))))) tNo tNext))))
end
theorem q_asgP {te : TE} {σ : L2.St} {H : Hp} {D : Ends} {tz : TS} {i : Nat} {Pp : Addr → Hp → Prop} (h : EvP te σ H Pp) (k : ∀ p H1, Ex H H1 → Pp p H1 → tz D (σ.set i (some (.ref p))) H1) : tSeq (tAsg te (gName i)) tz D σ H :=
  h H (Ex.refl H) _ fun p H1 e hp => k p H1 e hp
section
variable {K : PySem.W.Frag} {σ : L2.St} {H : Hp} {ta tb : TE}
theorem ev_neB1 {a b : Bool} (ha : Ev ta σ H (.bl a)) (hb : Ev tb σ H (.bl b)) (e : a = b) : Ev (tOp (rNeD K) ta tb) σ H (.bl false) := by
  subst e
  refine Evl.ev_op ha hb fun H1 e _ q => ⟨_, _, .bl a, .bl a, rfl, rfl, ?_⟩
  rw [show PyData.eqv (.bool a) (.bool a) = (a == a) from rfl, beq_self_eq_true]
  exact q H1 (Ex.refl H1)
theorem ev_neS1 {x : Str} (ha : Ev ta σ H (.str x)) (hb : Ev tb σ H (.str x)) (hx : PyData.canLay0 (.str x) = true) : Ev (tOp (rNeD K) ta tb) σ H (.bl false) := by
  have sh : SeqAt.shaped (.str x) = true := by
    show (PyData.canLay0 (.str x) && decide ((PyData.str x).depth ≤ 64)) = true
    rw [hx]
    rfl
  refine Evl.ev_op ha hb fun H1 e _ q => ⟨_, _, .str x, .str x, sh, sh, ?_⟩
  rw [show PyData.eqv (.str x) (.str x) = (x == x) from rfl, beq_self_eq_true]
  exact q H1 (Ex.refl H1)
end
theorem RuleD.Good.rev {r : RuleD} (g : r.Good) : RuleD.Good ⟨r.k, r.ts.reverse, r.ds⟩ := ⟨g.k, fun t ht => g.ts t (List.mem_reverse.mp ht), g.ds, (by rw [List.length_reverse]; exact g.nt), g.nd⟩
theorem RuleD.Good.bare {r : RuleD} (g : r.Good) : RuleD.Good ⟨r.k, [], r.ds⟩ := ⟨g.k, (fun t ht => nomatch ht), g.ds, Nat.zero_le _, g.nd⟩
theorem same_ts {r : RuleD} {ts : List Str} : sameR ⟨r.k, ts, r.ds⟩ r = decide (ts = r.ts) := by
  unfold sameR
  simp
theorem plain_kind {k : Str} (h : k ∈ kindsAll) : PyData.canLay0 (.str k) = true := by
  have hk : ∀ k ∈ kindsAll, PyData.canLay0 (.str k) = true := by decide +kernel
  exact hk _ h
section
variable {K : PySem.W.Frag} {mg : Str → Option Value} {a_LETTERS a_LETTER_TESTS a_LETTER_DEEDS a_ANSWER_TESTS a_ANSWER_DEEDS CR CP : Addr} {tA tN : Tok}
theorem rd_zip (T : TxR K mg a_LETTERS a_LETTER_TESTS a_LETTER_DEEDS a_ANSWER_TESTS a_ANSWER_DEEDS CR tA tN) {D : Ends} {H : Hp} {r : RuleD} {p q : Addr} {a0 a1 a2 a3 a4 a7 a8 a9 a10 a11 a12 a13 a14 a15 a16 a17 : Option V} (g : r.Good) (hp : RuleAt H p r) (hq : RuleObj K CR H q r)
    (k : ∀ b7 b8 H1, Ex H H1 → D.nx [a0, a1, a2, a3, a4, some (.ref p), some (.ref q), b7, b8, a9, a10, a11, a12, a13, a14, a15, a16, a17] H1) :
    rdZip K CR D [a0, a1, a2, a3, a4, some (.ref p), some (.ref q), a7, a8, a9, a10, a11, a12, a13, a14, a15, a16, a17] H := by
  obtain ⟨t, d, h1, h2, h3⟩ := hp
  refine Evl.q_when (b := false) (Evl.et_is (Evl.et_or (Evl.et_test (ev_neR (ev_rule (r := r) (ev_fk (r := r) (T := T.cl) T.nK (Evl.ev_var rfl) hq) ((ev_ft (r := r) (T := T.cl) T.nT (Evl.ev_var rfl) hq).imp fun _ _ h => .inr h) ((ev_fd (r := r) (T := T.cl) T.nD (Evl.ev_var rfl) hq).imp fun _ _ h => .inr h) g) (EvP.of (p := q) (Evl.ev_var rfl) fun H1 e => hq.ex e) g g))
    (fun _ => Evl.et_test (ev_neS1 (ev_fk (r := r) (T := T.cl) T.nK (Evl.ev_var rfl) hq) (ev_ixT (j := 0) (Evl.ev_var rfl) Evl.ev_c (Evl.st_of h1) rfl) (plain_kind g.k)))) (by rw [sameR_self]; rfl)) (fun z => nomatch z) (fun _ H1 e1 => ?_)
  replace hq := hq.ex e1
  replace h1 := e1 _ _ h1
  replace h2 := e1 _ _ h2
  replace h3 := e1 _ _ h3
  refine q_asgP (ev_rule (r := ⟨r.k, r.ts.reverse, r.ds⟩) (ev_fk (r := r) (T := T.cl) T.nK (Evl.ev_var rfl) hq) ((ev_back (ev_ft (r := r) (T := T.cl) T.nT (Evl.ev_var rfl) hq) (Evl.ev_op Evl.ev_c Evl.ev_c Evl.rv_I0)).imp fun _ _ h => .inr (by rw [List.map_reverse]; exact h)) ((ev_fd (r := r) (T := T.cl) T.nD (Evl.ev_var rfl) hq).imp fun _ _ h => .inr h) g.rev) fun q7 H2 e2 hq7 => ?_
  replace hq := hq.ex e2
  replace h1 := e2 _ _ h1
  replace h2 := e2 _ _ h2
  replace h3 := e2 _ _ h3
  have e02 := e1.trans e2
  refine Evl.q_when (b := false) (Evl.et_test (ev_neB1 (ev_eqR (r := ⟨r.k, r.ts.reverse, r.ds⟩) (u := r) (EvP.of (p := q7) (Evl.ev_var rfl) fun H1 e => hq7.ex e) (EvP.of (p := q) (Evl.ev_var rfl) fun H1 e => hq.ex e) g.rev g)
    (ev_eqTs (l := r.ts.reverse) (m := r.ts) g.rev.pt g.pt ((ev_back (EvP.of (p := t) (ev_ixT (j := 1) (Evl.ev_var rfl) Evl.ev_c (Evl.st_of h1) rfl) fun H1 e => Evl.st_of (e _ _ h2)) (Evl.ev_op Evl.ev_c Evl.ev_c Evl.rv_I0)).imp fun _ _ h => by rw [List.map_reverse]; exact h) (EvP.of (p := t) (ev_ixT (j := 1) (Evl.ev_var rfl) Evl.ev_c (Evl.st_of h1) rfl) fun H1 e => Evl.st_of (e _ _ h2))) same_ts)) (fun z => nomatch z) (fun _ H3 e3 => ?_)
  replace hq := hq.ex e3
  replace h1 := e3 _ _ h1
  replace h2 := e3 _ _ h2
  replace h3 := e3 _ _ h3
  have e03 := e02.trans e3
  refine q_asgP (ev_rule (r := ⟨r.k, [], r.ds⟩) (ev_fk (r := r) (T := T.cl) T.nK (Evl.ev_var rfl) hq) (EvP.tup (Evl.eu_tup Evl.ea_nil (Nat.zero_le _)) fun _ _ _ h => .inr (Evl.st_of h)) ((ev_fd (r := r) (T := T.cl) T.nD (Evl.ev_var rfl) hq).imp fun _ _ h => .inr h) g.bare) fun q8 H4 e4 hq8 => ?_
  replace hq := hq.ex e4
  replace h1 := e4 _ _ h1
  replace h2 := e4 _ _ h2
  replace h3 := e4 _ _ h3
  have e04 := e03.trans e4
  refine Evl.s_when (b := false) (Evl.et_is (Evl.et_or (Evl.et_test (ev_neB1 (ev_eqR (r := ⟨r.k, [], r.ds⟩) (u := r) (EvP.of (p := q8) (Evl.ev_var rfl) fun H1 e => hq8.ex e) (EvP.of (p := q) (Evl.ev_var rfl) fun H1 e => hq.ex e) g.bare g)
    (ev_eqTs (l := r.ts) (m := []) g.pt (fun _ h => nomatch h) (EvP.of (p := t) (ev_ixT (j := 1) (Evl.ev_var rfl) Evl.ev_c (Evl.st_of h1) rfl) fun H1 e => Evl.st_of (e _ _ h2)) (EvP.tup (Evl.eu_tup Evl.ea_nil (Nat.zero_le _)) fun _ _ _ h => Evl.st_of h)) (by rw [same_ts]; exact decide_eq_decide.mpr ⟨Eq.symm, Eq.symm⟩)))
    (fun _ => Evl.et_test (ev_neS1 (x := ruleText ⟨r.k, [], r.ds⟩) (ev_strR (EvP.of (p := q8) (Evl.ev_var rfl) fun H1 e => hq8.ex e) g.bare) ?_ (plain_text g.bare)))) rfl) (fun z => nomatch z) (fun _ H5 e5 => k _ _ H5 (e04.trans e5))
  intro H5 e5 Q qq
  refine (ev_ixT (K := K) (j := 0) (v := .str r.k) (Evl.ev_var rfl) Evl.ev_c (Evl.st_of (e5 _ _ h1)) rfl) H5 (Ex.refl _) _ fun H6 e6 => ?_
  refine ⟨Nat.zero_le _, fun t0 n0 => ?_⟩
  have e7 : Ex H6 (upd H6 t0 (.tup [])) := Ex.new n0
  refine (ev_ixT (K := K) (j := 2) (v := .ref d) (Evl.ev_var rfl) Evl.ev_c (Evl.st_of (((e5.trans e6).trans e7) _ _ h1)) rfl) _ (Ex.refl _) _ fun H8 e8 => ?_
  refine ⟨by show 3 ≤ sizeLine; decide, fun p1 n1 => ?_⟩
  have e9 : Ex H8 (upd H8 p1 (.tup [.str r.k, .ref t0, .ref d])) := Ex.new n1
  exact ⟨p1, t0, d, ⟨r.k, [], r.ds⟩, rfl, Evl.st_of upd_same, Evl.st_of (e9 _ _ (e8 _ _ upd_same)), Evl.st_of (e9 _ _ (e8 _ _ (e7 _ _ (e6 _ _ (e5 _ _ h3))))), g.bare, fun H10 e10 => qq H10 ((((e6.trans e7).trans e8).trans e9).trans e10)⟩
end
end Ov

namespace Ov
open PySem PySem.Spec PyProof.Rows L2
open Evl (pss_cut tCut Ex Ev EvT EvL EvA EvU)
def DrawnAt (H : Hp) (xs : List V) (rs : List RuleD) : Prop := Paired (fun x r => ∃ p, x = V.ref p ∧ RuleAt H p r ∧ r.Ok) xs rs
theorem DrawnAt.kp {a b : Addr} {H H' : Hp} (k : Kp a b H H') (D : Deal H a b) : ∀ {xs : List V} {rs : List RuleD}, DrawnAt H xs rs → DrawnAt H' xs rs
  | _, _, .nil => .nil
  | _, _, .cons ⟨p, h1, h2, h3⟩ t => .cons ⟨p, h1, h2.kp k D, h3⟩ (DrawnAt.kp k D t)
theorem DrawnAt.ex {H H' : Hp} (e : Ex H H') : ∀ {xs : List V} {rs : List RuleD}, DrawnAt H xs rs → DrawnAt H' xs rs
  | _, _, .nil => .nil
  | _, _, .cons ⟨p, h1, h2, h3⟩ t => .cons ⟨p, h1, h2.same (ex_same e), h3⟩ (DrawnAt.ex e t)
theorem DrawnAt.at_ {H : Hp} : ∀ {xs : List V} {rs : List RuleD} {i : Nat} {x : V}, DrawnAt H xs rs → xs[i]? = some x → ∃ p r, x = .ref p ∧ rs[i]? = some r ∧ RuleAt H p r ∧ r.Ok
  | _, _, _, _, .nil, h => by simp at h
  | _, _, 0, _, .cons ⟨p, h1, h2, h3⟩ _, h => by
    have e := Option.some.inj h
    exact ⟨p, _, by rw [← e, h1], rfl, h2, h3⟩
  | _, _, i + 1, _, .cons _ t, h => DrawnAt.at_ (i := i) t h
theorem paired_snoc {α β : Type} {R : α → β → Prop} : ∀ {xs : List α} {ys : List β} {x : α} {y : β}, Paired R xs ys → R x y → Paired R (xs ++ [x]) (ys ++ [y])
  | _, _, _, _, .nil, h => .cons h .nil
  | _, _, _, _, .cons h t, h2 => .cons h (paired_snoc t h2)
/-- list(x) of a list or a tuple -/
abbrev rListOf (K : PySem.W.Frag) : List V → Hp → VK → Prop := fun xs H Q => ∃ p ys, xs = [.ref p] ∧ (SqL K H p ys ∨ SqT K H p ys) ∧ ∀ l, H l = none → Q (.ref l) (upd H l (.lst ys))
theorem paired_len {α β : Type} {R : α → β → Prop} : ∀ {xs : List α} {ys : List β}, Paired R xs ys → xs.length = ys.length
  | _, _, .nil => rfl
  | _, _, .cons _ t => congrArg (· + 1) (paired_len t)
theorem range_at {α β : Type} (rs : List α) {n : Nat} (hn : n = rs.length) (v : Nat → β) (g : α → β) (h : ∀ i r, rs[i]? = some r → v i = g r) : (List.range n).map v = rs.map g := by
  subst hn
  refine List.ext_getElem? fun i => ?_
  rw [List.getElem?_map, List.getElem?_map]
  by_cases hi : i < rs.length
  · rw [List.getElem?_range hi, List.getElem?_eq_getElem hi]
    exact congrArg some (h i _ (List.getElem?_eq_getElem hi))
  · rw [List.getElem?_eq_none (by rw [List.length_range]; omega), List.getElem?_eq_none (by omega)]
    rfl
theorem RuleAt.updL {H : Hp} {D p : Addr} {zs : List V} {r : RuleD} {o : HO} (hD : H D = some (.lst zs)) (h : RuleAt H p r) : RuleAt (upd H D o) p r := by
  obtain ⟨t, d, h1, h2, h3⟩ := h
  refine ⟨t, d, ?_, ?_, ?_⟩
  · rw [upd_ne (ne_of h1 hD (fun z => nomatch z))]
    exact h1
  · rw [upd_ne (ne_of h2 hD (fun z => nomatch z))]
    exact h2
  · rw [upd_ne (ne_of h3 hD (fun z => nomatch z))]
    exact h3
theorem DrawnAt.updL {H : Hp} {D : Addr} {zs : List V} {o : HO} (hD : H D = some (.lst zs)) : ∀ {xs : List V} {rs : List RuleD}, DrawnAt H xs rs → DrawnAt (upd H D o) xs rs
  | _, _, .nil => .nil
  | _, _, .cons ⟨p, h1, h2, h3⟩ t => .cons ⟨p, h1, h2.updL hD, h3⟩ (DrawnAt.updL hD t)
theorem sqt_updL {K : PySem.W.Frag} {H : Hp} {D a : Addr} {zs xs : List V} {o : HO} (hD : H D = some (.lst zs)) (h : SqT K H a xs) : SqT K (upd H D o) a xs := by
  rcases h with (h | ⟨u, h⟩) | h
  · exact .inl (.inl (by rw [upd_ne (ne_of h hD (fun z => nomatch z))]; exact h))
  · exact .inl (.inr ⟨u, by rw [upd_ne (ne_of h hD (fun z => nomatch z))]; exact h⟩)
  · exact .inr h
theorem RuleObj.updL {K : PySem.W.Frag} {C : Addr} {H : Hp} {D p : Addr} {zs : List V} {r : RuleD} {o : HO} (hD : H D = some (.lst zs)) (h : RuleObj K C H p r) : RuleObj K C (upd H D o) p r := by
  obtain ⟨dx, t, d, h1, h2, h3⟩ := h
  refine ⟨dx, t, d, ?_, sqt_updL hD h2, sqt_updL hD h3⟩
  rw [upd_ne (ne_of h1 hD (fun z => nomatch z))]
  exact h1
theorem RulesAt.updL {K : PySem.W.Frag} {C : Addr} {H : Hp} {D : Addr} {zs : List V} {o : HO} (hD : H D = some (.lst zs)) : ∀ {xs : List V} {rs : List RuleD}, RulesAt K C H xs rs → RulesAt K C (upd H D o) xs rs
  | _, _, .nil => .nil
  | _, _, .cons ⟨p, h1, h2⟩ t => .cons ⟨p, h1, h2.updL hD⟩ (RulesAt.updL hD t)
section
variable {K : PySem.W.Frag} {CR CP : Addr} {σ : L2.St} {H : Hp} {tl te : TE}
theorem el_rulesL {a : Addr} {xs : List V} {rs : List RuleD} {j : Nat} {vs : List Nat} (g : RuleD → V) (h : Ev tl σ H (.ref a)) (hx : SqL K H a xs) (hR : RulesAt K CR H xs rs) (hz : xs.length ≤ 40000) (hw : ∀ x, wipe ((wipe σ vs).set j (some x)) vs = wipe σ vs)
    (he : ∀ p r H1, Ex H H1 → r ∈ rs → RuleObj K CR H1 p r → Ev te ((wipe σ vs).set j (some (.ref p))) H1 (g r)) : EvL (tLc (iList K tl) (gName j) tYes te vs) σ H (rs.map g) := by
  have e : (List.range xs.length).map (fun i => ((rs[i]?).map g).getD .non) = rs.map g := range_at rs (paired_len hR) _ g fun i r hi => by rw [hi]; rfl
  rw [← e, ← given_all]
  refine Evl.el_lcL (fun _ => true) _ h hx hz hw (fun _ _ _ _ _ => et_yes) (fun i x H1 e1 hi _ => ?_)
  obtain ⟨p, r, rfl, hr, ho⟩ := hR.at_ hi
  show Ev te _ H1 (((rs[i]?).map g).getD .non)
  rw [hr]
  exact he p r H1 e1 (List.mem_of_getElem? hr) (ho.ex e1)
theorem el_rulesT {a : Addr} {xs : List V} {rs : List RuleD} {j : Nat} {vs : List Nat} (g : RuleD → V) (h : Ev tl σ H (.ref a)) (hx : SqT K H a xs) (hR : RulesAt K CR H xs rs) (hz : xs.length ≤ 40000) (hw : ∀ x, wipe ((wipe σ vs).set j (some x)) vs = wipe σ vs)
    (he : ∀ p r H1, Ex H H1 → r ∈ rs → RuleObj K CR H1 p r → Ev te ((wipe σ vs).set j (some (.ref p))) H1 (g r)) : EvL (tLc (iTup K tl) (gName j) tYes te vs) σ H (rs.map g) := by
  have e : (List.range xs.length).map (fun i => ((rs[i]?).map g).getD .non) = rs.map g := range_at rs (paired_len hR) _ g fun i r hi => by rw [hi]; rfl
  rw [← e]
  refine el_lcT _ h hx hz hw (fun i x H1 e1 hi => ?_)
  obtain ⟨p, r, rfl, hr, ho⟩ := hR.at_ hi
  show Ev te _ H1 (((rs[i]?).map g).getD .non)
  rw [hr]
  exact he p r H1 e1 (List.mem_of_getElem? hr) (ho.ex e1)
theorem rd_some {a b : Addr} {Q : VK} (h2 : ∀ x, ((wipe σ [17]).set 17 (some x))[2]? = some (some (.ref a))) (hw : ∀ x, wipe ((wipe σ [17]).set 17 (some x)) [17] = wipe σ [17]) (hd : Deal H a b)
    (q : ∀ L H' xs rs, Kp a b H H' → H' L = some (.lst xs) → xs.length = 6 → DrawnAt H' xs rs → Q (.ref L) H') : tLc (iRng1 (tCons (tC (V.int 6)) tNil)) (gName 17) tYes (tCall spWideRule [] E0 (tCons (tVar 2) tNil)) [17] σ H Q := by
  refine ⟨6, rfl, by decide, by decide, fun L hL => ?_⟩
  obtain ⟨ns, m, ha, hb, hd3⟩ := id hd.ex
  have na : L ≠ a := fun z => by rw [z, ha] at hL; cases hL
  have nb : L ≠ b := fun z => by rw [z, hb] at hL; cases hL
  have up : ∀ {H' : Hp} {o : HO}, Deal H' a b → Deal (upd H' L o) a b := fun {H' o} ⟨ns, m, ha, hb, hd3⟩ => ⟨ns, m, by rw [upd_ne na.symm]; exact ha, by rw [upd_ne nb.symm]; exact hb, hd3⟩
  have kp : ∀ {H' : Hp} {o : HO}, Kp a b H H' → Kp a b H (upd H' L o) := fun {H' o} k x u h1 h2 h3 => by
    rw [upd_ne (ne_of_none h3 hL)]
    exact k x u h1 h2 h3
  refine lc_range (lo := 0) (n := 6) (fun i H' => Kp a b H H' ∧ Deal H' a b ∧ ∃ xs rs, H' L = some (.lst xs) ∧ xs.length = i ∧ DrawnAt H' xs rs) ⟨kp (Kp.refl _ _ _), up hd, [], [], upd_same, rfl, .nil⟩ ?_ ?_
  · rintro i H' hi ⟨k, d, xs, rs, h3, h4, h5⟩
    refine ⟨hw _, ?_⟩
    simp only [tYes, eq_self, if_true]
    refine ⟨_, h2 _, a, b, rfl, d, fun p r H4 ok k4 d4 at4 => ?_⟩
    have h3' := k4 _ _ na nb h3
    exact ⟨xs, h3', by rw [h4]; exact Nat.lt_of_lt_of_le hi (by decide), kp (k.trans k4), up d4, _, rs ++ [r], upd_same, by rw [List.length_append, h4]; rfl, paired_snoc ((h5.kp k4 d).updL h3') ⟨p, rfl, at4.updL h3', ok⟩⟩
  · rintro H' ⟨k, d, xs, rs, h3, h4, h5⟩
    exact q L H' xs rs k h3 h4 h5
theorem rd_made {a : Addr} {xs : List V} {rs : List RuleD} {Q : VK} {a0 a1 a2 a4 a5 a6 a7 a8 a9 a10 a11 a12 a13 a14 a15 a16 a17 : Option V} (hx : SqL K H a xs) (hz : xs.length ≤ 1000) (hR : DrawnAt H xs rs)
    (q : ∀ L H' ys, Ex H H' → H' L = some (.lst ys) → RulesAt K CR H' ys rs → Q (.ref L) H') :
    tLc (iList K (tVar 3)) (gTup K 3 (gCons (gName 14) (gCons (gName 15) (gCons (gName 16) gNil)))) tYes (tR K CR (tCons (tVar 14) (tCons (tCB (rListOf K) (tCons (tVar 15) tNil)) (tCons (tVar 16) tNil)))) [14, 15, 16]
      [a0, a1, a2, some (.ref a), a4, a5, a6, a7, a8, a9, a10, a11, a12, a13, a14, a15, a16, a17] H Q := by
  refine ⟨_, rfl, a, rfl, ⟨xs, hx⟩, fun L hL => ?_⟩
  refine lc_list (xs := xs) (fun i H' => Ex H H' ∧ ∃ ys, H' L = some (.lst ys) ∧ RulesAt K CR H' ys (rs.take i)) ⟨Ex.new hL, [], upd_same, by rw [List.take_zero]; exact .nil⟩ (fun i H' _ p => Evl.ex_l p.1 hx) ?_ ?_
  · rintro i x H' hi ⟨e, ys, h3, h4⟩
    obtain ⟨p, r, rfl, hr, ⟨t, d, h5, h6, h7⟩, ok⟩ := hR.at_ hi
    refine ⟨p, _, rfl, Evl.st_of (e _ _ h5), rfl, _, _, rfl, _, _, rfl, _, _, rfl, rfl, rfl, ?_⟩
    simp only [tYes, eq_self, if_true]
    refine (ev_rule (K := K) (CR := CR) (H := H') (r := r) (Evl.ev_var rfl) (fun H1 e1 Q q => ⟨.ref t, rfl, t, _, rfl, .inr (Evl.st_of (e1 _ _ (e _ _ h6))), fun l hl => q l _ (Ex.new hl) (.inl (Evl.sq_of upd_same))⟩) (EvP.of (p := d) (Evl.ev_var rfl) fun H1 e1 => .inr (Evl.st_of (e1 _ _ (e _ _ h7)))) ok.good) H' (Ex.refl _) _ fun q2 H4 e4 ro => ?_
    have h3' := e4 _ _ h3
    have hn : ys.length < sizeLine := by
      rw [paired_len h4, List.length_take]
      have := (List.getElem?_eq_some_iff.mp hi).1
      exact Nat.lt_of_le_of_lt (Nat.min_le_left _ _) (Nat.lt_of_lt_of_le this (Nat.le_trans hz (by decide)))
    refine ⟨ys, h3', hn, Ex.mut (e.trans e4) hL, _, upd_same, ?_⟩
    rw [List.take_add_one, hr]
    exact paired_snoc ((h4.ex e4).updL h3') ⟨q2, rfl, ro.updL h3'⟩
  · rintro H' ⟨e, ys, h3, h4⟩
    rw [paired_len hR, List.take_length] at h4
    exact q L H' ys e h3 h4
theorem PlanObj.ex {H' : Hp} {p : Addr} {ks : List Str} {xs : List V} (h : PlanObj K CP H p ks xs) (e : Ex H H') : PlanObj K CP H' p ks xs := by
  obtain ⟨dx, a, b, h1, h2, h3⟩ := h
  exact ⟨dx, a, b, e _ _ h1, Evl.ex_t e h2, Evl.ex_t e h3⟩
theorem ev_plan {ta tb : TE} {b : Addr} {ks : List Str} {xs : List V} {rs : List RuleD} (ha : EvP ta σ H (fun a H2 => SqL K H2 a (ks.map V.str) ∨ SqT K H2 a (ks.map V.str))) (hl : ks.length ≤ 1) (hk : ∀ k ∈ ks, k ∈ lettersL) (hb : Ev tb σ H (.ref b)) (hx : SqL K H b xs) (hR : RulesAt K CR H xs rs) (hz : xs.length ≤ 1000) :
    EvP (tMake CP (spPlanInit1 K CR CP) [] E0 (tCons ta (tCons tb tNil))) σ H (fun p H2 => PlanObj K CP H2 p ks xs) := fun H1 e1 Q q => by
  refine ha H1 e1 _ fun a H2 e2 sa => hb H2 (e1.trans e2) _ fun H3 e3 x dx nx ndx ne => ?_
  have e4 : Ex H3 (upd (upd H3 dx (.own x)) x (.ins CP dx [])) := (Ex.new ndx).trans (Ex.new (by rw [upd_ne ne.symm]; exact nx))
  have e14 := ((e1.trans e2).trans e3).trans e4
  exact ⟨x, a, b, dx, ks, xs, rs, rfl, upd_same, exB (e3.trans e4) sa, hl, hk, .inl (Evl.ex_l e14 hx), hR.ex e14, hz, fun H5 k5 ro => ⟨rfl, q x H5 ((e2.trans e3).trans fun c o hc => k5 c o (ne_of_none hc nx) (e4 _ _ hc)) ro⟩⟩
theorem ev_eqS {ta tb : TE} {x y : Str} (ha : Ev ta σ H (.str x)) (hb : Ev tb σ H (.str y)) (hx : PyData.canLay0 (.str x) = true) (hy : PyData.canLay0 (.str y) = true) : Ev (tOp (rEqD K) ta tb) σ H (.bl (decide (x = y))) := by
  have sh : ∀ x : Str, PyData.canLay0 (.str x) = true → SeqAt.shaped (.str x) = true := fun x hx => by
    show (PyData.canLay0 (.str x) && decide ((PyData.str x).depth ≤ 64)) = true
    rw [hx]
    rfl
  refine Evl.ev_op ha hb fun H1 e _ q => ⟨_, _, .str x, .str y, sh x hx, sh y hy, ?_⟩
  rw [show PyData.eqv (.str x) (.str y) = (x == y) from rfl, show (x == y) = decide (x = y) by by_cases h : x = y <;> simp [h]]
  exact q H1 (Ex.refl H1)
end
end Ov

namespace Ov
open PySem PySem.Spec PyProof.Rows L2
open Evl (pss_cut tCut Ex Ev EvT EvL EvA EvU)
/-! ### a class that stands in a local is called -/
section
variable {X : Cx} {CX : CXT} {k i : Nat} {f C : Addr} {fd : FuncData} {ps : List Str} {sp : Sp} {E : XK} {x : Str} {p pos : Pos} {e : Expr} {es : List Expr} {t : TA}
def tMakeV (i : Nat) (C : Addr) (sp : Sp) (E : XK) (t : TA) : TE := fun σ H Q => σ[i]? = some (some (.ref C)) ∧ tMake C sp [] E t σ H Q
theorem pe_makeV (i : Nat) (M : Mk X.K C f) (F : FnOk X.prog X.w X.K X.mg X.base CX k f fd ps sp) (hr : Room (k + 1) X.A) (hb : Binds X.K fd ps []) (hx : Passes CX X E) (ha : PA X (e :: es) t) (hN : X.N[i]? = some x := by rfl)
    (hv : Vis X.env.scope x := by first | exact Or.inl rfl | exact Or.inr (Or.inl rfl) | exact Or.inr (Or.inr rfl)) (hd : (x == ("__debug__" : Str)) = false := by decide) (hcd : (x == ("__classdict__" : Str)) = false := by decide)
    (he : starEach (e :: es) X.env = (false, eval e X.env) :: starEach es X.env := by rfl) (hpl : (backTo pos (starEach es X.env)).any (·.1) = false := by rfl) :
    PE X (.Call (.Name x p) (e :: es) [] pos) (tMakeV i C sp E t) := by
  refine ⟨fun pins s σ H Q I h => ?_⟩
  obtain ⟨h1, h2⟩ := h
  have hp : PE X (.Name x p) (tVar i) := pv i hN hv hd hcd
  refine wpAny_Call_Name_kw (thn (hp.run pins s σ H (fun v H1 => v = .ref C ∧ tMake C sp [] E t σ H1 Q) I ⟨_, h1, rfl, h2⟩) fun v s1 hh => ?_)
  obtain ⟨y, H1, I1, r1, e1, q1⟩ := hh
  subst e1
  obtain rfl : v = Value.ref C := r1
  refine PySem.W.callWith_K (h₀ := X.base) I1.ok.mod.kin M.kp (thn (ha.run pos pins s1 σ H1 _ I1 q1) fun us s2 h3 => ?_) he hpl
  obtain ⟨vs, H2, I2, r, q⟩ := h3
  exact ⟨I2.kIn, run_make M F hr hb .nil hx I2 r q⟩
end
/-! ### a rule read from its text -/
def spSplit (K : PySem.W.Frag) : Sp := fun vs H Q _ => ∃ (g x y : Str), vs = [.str g, .str x, .str y] ∧ (y.length == 0) = false ∧ g.length ≤ 100000 ∧ x.length ≤ 99990 ∧ ∀ p H', Ex H H' → (SqL K H' p ((if g = Str.empty then [] else Txt.split x y).map V.str) ∨ SqT K H' p ((if g = Str.empty then [] else Txt.split x y).map V.str)) → Q (.ref p) H'
theorem truth_str (g : Str) : decide (g ≠ Str.empty) = ((g.length : Int) != 0) := by
  by_cases h : g = Str.empty
  · rw [h]
    rfl
  · have h2 : g.length ≠ 0 := fun z => h (TL.ext_tl (by rw [(TL.len0_tl g).mp z]; rfl))
    rw [decide_eq_true h]
    symm
    simpa using h2
abbrev rPart : V → List V → Hp → VK → Prop := fun x xs H Q => ∃ a b, x = V.str a ∧ xs = [V.str b] ∧ (b.length == 0) = false ∧ a.length ≤ sizeLine ∧ ∀ (p : Addr), H p = none → Q (V.ref p) (upd H p (HO.tup [V.str (Txt.partition a b).fst, V.str (Txt.partition a b).snd.fst, V.str (Txt.partition a b).snd.snd]))
theorem q_part {K : PySem.W.Frag} {σ : L2.St} {H : Hp} {D : Ends} {tz : TS} {n i j k : Nat} {a b x y z : Str} (e : Txt.partition a b = (x, y, z)) (h : σ[n]? = some (some (.str a))) (hb : (b.length == 0) = false) (hz : a.length ≤ sizeLine)
    (c : ∀ H1, Ex H H1 → tz D (((σ.set i (some (.str x))).set j (some (.str y))).set k (some (.str z))) H1) : tSeq (tAsg (tM1 rPart (tVar n) (tC (.str b))) (gTup K 3 (gCons (gName i) (gCons (gName j) (gCons (gName k) gNil))))) tz D σ H := by
  refine ⟨_, h, ⟨_, rfl⟩, a, b, rfl, rfl, hb, hz, fun p np => ⟨p, _, rfl, Evl.st_of upd_same, rfl, _, _, rfl, _, _, rfl, _, _, rfl, rfl, ?_⟩⟩
  rw [e]
  exact c _ (Ex.new np)
section
variable {P : Program} {w : World} {K : PySem.W.Frag} {mg : Str → Option Value} {base : Heap}
abbrev sSplitPart : Stmt := topS 22
theorem scSplitPart : FnScope ["sign", "text", "between"] ["sign", "text", "between"] (defScope sSplitPart) := ⟨rfl, rfl, rfl, by decide +kernel, rfl, by decide +kernel, by decide +kernel⟩
abbrev sRuleRead : Stmt := inClass (topS 23) 1
theorem scRuleRead : FnScope ["cls", "text", "condition", "does", "deeds", "start", "asks", "tests", "on", "_", "kind"] ["cls", "text"] (defScope sRuleRead) := ⟨rfl, rfl, rfl, by decide +kernel, rfl, by decide +kernel, by decide +kernel⟩
theorem ok_split_part {f : Addr} {fd : FuncData} (F : Fun K "split_part" "split_part" sSplitPart f fd) : FnOk P w K mg base CX0 1 f fd ["sign", "text", "between"] (spSplit K) := by
  refine F.ok scSplitPart (fun vs H Q E h => ?_) (fun cdv A outer s H vs Q E hr h => ?_)
  · obtain ⟨g, x, y, rfl, _⟩ := h
    rfl
  · obtain ⟨g, x, y, rfl, hy, hg, hx, q⟩ := h
    refine ⟨_, pss_one (ps_ret (pe_ifExp (pt_truth (pv 0) (by intro _; rfl)) (pe_split (pv 1) (pv 2)) (pe_tup pa_nil))), ?_⟩
    refine ⟨_, rfl, decide (g ≠ Str.empty), ⟨size_of hg, truth_str g⟩, ?_⟩
    by_cases h : g = Str.empty
    · rw [decide_eq_false (fun z => z h)]
      rw [if_pos h] at q
      exact iteF ⟨Nat.zero_le _, fun p np => q p _ (Ex.new np) (.inr (Evl.st_of upd_same))⟩
    · rw [decide_eq_true h]
      rw [if_neg h] at q
      exact iteT ⟨_, rfl, ⟨_, rfl⟩, _, rfl, x, y, rfl, rfl, hy, size_of (by omega), fun p np => q p _ (Ex.new np) (.inl (Evl.sq_of upd_same))⟩
end
end Ov

namespace Ov
open PySem PySem.Spec PyProof.Rows L2
open Evl (pss_cut tCut Ex Ev EvT EvL EvA EvU)
def spRuleReadG (K : PySem.W.Frag) (C : Addr) : Sp := fun vs H Q _ => ∃ (r : RuleD), vs = [.ref C, .str (ruleText r)] ∧ r.Good ∧ ∀ p H', Ex H H' → RuleObj K C H' p r → Q (.ref p) H'
theorem ev_split {K : PySem.W.Frag} {σ : L2.St} {H : Hp} {ta : TA} {g x y : Str} {l : List Str} (h : EvA ta σ H [.str g, .str x, .str y]) (hy : (y.length == 0) = false) (hg : g.length ≤ 100000) (hx : x.length ≤ 99990) (e : (if g = Str.empty then [] else Txt.split x y) = l) :
    EvP (tCall (spSplit K) [] E0 ta) σ H (fun p H2 => SqL K H2 p (l.map V.str) ∨ SqT K H2 p (l.map V.str)) := fun H1 e1 Q q => h H1 e1 _ fun H2 e2 => ⟨g, x, y, rfl, hy, hg, hx, fun p H3 e3 st => q p H3 (e2.trans e3) (by rw [← e]; exact st)⟩
section
variable {P : Program} {w : World} {K : PySem.W.Frag} {mg : Str → Option Value} {base : Heap} {a_LETTERS a_LETTER_TESTS a_LETTER_DEEDS a_ANSWER_TESTS a_ANSWER_DEEDS CR CP : Addr} {tA tN : Tok}
theorem ok_rule_read {f fSp fI : Addr} {fd fdSp fdI : FuncData} (F : Fun K "read" "Rule.read" sRuleRead f fd) (T : TxR K mg a_LETTERS a_LETTER_TESTS a_LETTER_DEEDS a_ANSWER_TESTS a_ANSWER_DEEDS CR tA tN) (D_split_part : Df K mg "split_part" sSplitPart ["sign", "text", "between"] fSp fdSp)
    (mkR : Mk K CR fI) (G_init : FnOk P w K mg base CX0 2 fI fdI ["self", "kind", "tests", "deeds"] (spRuleInit K CR)) (b_init : Binds K fdI ["self", "kind", "tests", "deeds"] []) :
    FnOk P w K mg base CX0 4 f fd ["cls", "text"] (spRuleReadG K CR) := by
  have G_split_part : FnOk P w K mg base CX0 1 fSp fdSp ["sign", "text", "between"] (spSplit K) := ok_split_part D_split_part.F
  refine F.ok scRuleRead (fun vs H Q E h => ?_) (fun cdv A outer s H vs Q E hr h => ?_)
  · obtain ⟨r, rfl, _⟩ := h
    rfl
  · obtain ⟨r, rfl, g, q⟩ := h
    refine ⟨_, pss_cons (ps_asg (pe_partition (pv 1) pe_str) (pg_tup (by rfl) (pgs_cons (pg_name (i := 2) scRuleRead.nd rfl (Or.inl rfl)) (pgs_cons (pg_name (i := 3) scRuleRead.nd rfl (Or.inl rfl)) (pgs_cons (pg_name (i := 4) scRuleRead.nd rfl (Or.inl rfl)) pgs_nil)))))
      (pss_cons (ps_asg (pe_partition (pv 2) pe_str) (pg_tup (by rfl) (pgs_cons (pg_name (i := 5) scRuleRead.nd rfl (Or.inl rfl)) (pgs_cons (pg_name (i := 6) scRuleRead.nd rfl (Or.inl rfl)) (pgs_cons (pg_name (i := 7) scRuleRead.nd rfl (Or.inl rfl)) pgs_nil)))))
      (pss_cons (ps_asg (pe_partition (pv 5) pe_str) (pg_tup (by rfl) (pgs_cons (pg_name (i := 8) scRuleRead.nd rfl (Or.inl rfl)) (pgs_cons (pg_name (i := 9) scRuleRead.nd rfl (Or.inl rfl)) (pgs_cons (pg_name (i := 10) scRuleRead.nd rfl (Or.inl rfl)) pgs_nil)))))
      (pss_cons (ps_if (pt_cmpR op_ne (pv 8) pe_str (nomark _)) (pss_one ps_never) pss_nil)
      (pss_one (ps_try_thru0 (pss_one (ps_ret (pe_makeV (sp := spRuleInit K CR) (E := E0) 0 mkR G_init (hr.mono (by decide)) b_init pass0 (pa_cons (pv 10) (pa_cons (pe_call G_split_part (hr.mono (by decide)) rfl D_split_part.g D_split_part.F.kp D_split_part.b .nil pass0 (pa_cons (pv 6) (pa_cons (pv 7) (pa_cons pe_str pa_nil)))) (pa_cons (pe_call G_split_part (hr.mono (by decide)) rfl D_split_part.g D_split_part.F.kp D_split_part.b .nil pass0 (pa_cons (pv 3) (pa_cons (pv 4) (pa_cons pe_str pa_nil)))) pa_nil))))))))))), ?_⟩
    have lk := kinds_len g.k
    have lt := tText_len (fun x hx => testsNot_len (g.ts x hx)) g.nt
    have ld := dText_len (fun x hx => deedsOf_len (g.ds x hx)) g.nd
    have jt := join_small (sep := " and ") (fun x hx => testsNot_len (g.ts x hx)) (by decide) g.nt
    have jd := join_small (sep := " then ") (fun x hx => deedsOf_len (g.ds x hx)) (by decide) g.nd
    have n3 : (Str.ofString "on ").length = 3 := by decide +kernel
    have la : (("on " : Str) ++ r.k ++ tText r.ts).length ≤ 40000 := by rw [Str.length_append, Str.length_append]; omega
    have lb : (("on " : Str) ++ r.k).length ≤ 40000 := by rw [Str.length_append]; omega
    have lr : (ruleText r).length ≤ 100000 := by
      unfold ruleText
      rw [Str.length_append]
      omega
    refine q_part (read1 g) rfl (by decide +kernel) (size_of (by omega)) fun H1 e1 => ?_
    refine q_part (read2 g) rfl (by decide +kernel) (size_of (by omega)) fun H2 e2 => ?_
    refine q_part (read3 r.k) rfl (by decide +kernel) (size_of (by omega)) fun H3 e3 => ?_
    refine Evl.q_when (b := false) (Evl.et_is (Evl.et_test (Evl.ev_op (Evl.ev_var rfl) Evl.ev_c (Evl.rv_ne rfl))) (by decide +kernel)) (fun z => nomatch z) (fun _ H4 e4 => ?_)
    have e14 := ((e1.trans e2).trans e3).trans e4
    have et : (if (if r.ts = [] then ("" : Str) else " if ") = Str.empty then [] else Txt.split (if r.ts = [] then ("" : Str) else Str.join " and " r.ts) " and ") = r.ts := by
      by_cases h : r.ts = []
      · rw [if_pos h, if_pos (by decide +kernel)]
        exact h.symm
      · rw [if_neg h, if_neg (by decide +kernel), if_neg h, read4 g h]
    have ed : (if (if r.ds = [] then ("" : Str) else " do ") = Str.empty then [] else Txt.split (if r.ds = [] then ("" : Str) else Str.join " then " r.ds) " then ") = r.ds := by
      by_cases h : r.ds = []
      · rw [if_pos h, if_pos (by decide +kernel)]
        exact h.symm
      · rw [if_neg h, if_neg (by decide +kernel), if_neg h, read5 g h]
    have z1 : (if r.ts = [] then ("" : Str) else " if ").length ≤ 100000 := by split <;> decide +kernel
    have z2 : (if r.ds = [] then ("" : Str) else " do ").length ≤ 100000 := by split <;> decide +kernel
    have z3 : (if r.ts = [] then ("" : Str) else Str.join " and " r.ts).length ≤ 99990 := by
      split
      · decide +kernel
      · have := jt.2
        omega
    have z4 : (if r.ds = [] then ("" : Str) else Str.join " then " r.ds).length ≤ 99990 := by
      split
      · decide +kernel
      · have := jd.2
        omega
    refine ⟨rfl, ev_rule (r := r) (Evl.ev_var rfl) (ev_split (Evl.ea_cons (Evl.ev_var rfl) (Evl.ea_cons (Evl.ev_var rfl) (Evl.ea_cons Evl.ev_c Evl.ea_nil))) (by decide +kernel) z1 z3 et) (ev_split (Evl.ea_cons (Evl.ev_var rfl) (Evl.ea_cons (Evl.ev_var rfl) (Evl.ea_cons Evl.ev_c Evl.ea_nil))) (by decide +kernel) z2 z4 ed) g H4 (Ex.refl _) _ fun p H5 e5 ro => q p H5 (e14.trans e5) ro⟩
end
end Ov

namespace Ov
open PySem PySem.Spec PyProof.Rows L2
/-! ### a, *b = a list -/
section
open PySem.W PySem.Calls
variable {prog : Program} {w : World} {A : Around} {E : Value → Shared → Prop} {s : Shared}
theorem unpack_first {l : Addr} {y : Value} {ys : List Value} {Q : List Value → Shared → Prop} (hl : s.heap.IsList l (y :: ys).toArray) (hh : A.handled = none) (hz : ys.length ≤ 16000)
    (h : ∀ (h2 : Heap) (tk : Nat), (∀ b u, s.heap.get? b = some u → h2.get? b = some u) → Q [y, .ref h2.objs.size] { s with heap := h2.push { cls := .type "list", data := .seq ys.toArray }, toks := tk }) : wpAny (model prog w) A (unpackItems (.ref l) 2 (some 1)) Q E s := by
  have hlt : l ≠ s.heap.objs.size := by
    obtain ⟨o, ho, _⟩ := hl
    exact Nat.ne_of_lt (Heap.lt_size ho)
  have sz : (y :: ys).toArray.size = ys.length + 1 := by simp
  unfold unpackItems notIterableAtAll
  refine wpAny_bind (wpAny_bind (wpAny_specialOf hl.typeIs slot_list_iter.lookup (wpAny_pure ?_)))
  simp only [Bool.false_eq_true, if_false]
  refine wpAny_bind (wpAny_holding (wpAny_pyIter_list hl ?_))
  refine wpAny_bind (wpAny_holding (kun_draw hlt 1 0 _ _ ⟨_, Heap.get?_push_size _ rfl, rfl, rfl⟩ (hl.push _) (by omega) fun h₁ hit₁ hs₁ => ?_))
  have hl₁ : h₁.IsList l (y :: ys).toArray := (hl.push _).extBut hs₁.extBut hlt
  rw [Nat.zero_add] at hit₁
  obtain ⟨oi, hoi, _⟩ := id hit₁
  obtain ⟨ol, hol, _⟩ := id hl₁
  show wpAny _ _ (if [y].length < 1 then _ else _) _ _ _
  rw [if_neg (by simp)]
  refine wpAny_bind (wpAny_holding (kun_collect (s := { s with heap := h₁ }) (T := "list_iterator") (.inr (.inr (.inl rfl))) (Walks.list (A := A.in1) hh s.heap.objs.size l hlt (y :: ys).toArray) (fun j u st => st.1.typeIs) (k := 1) (by omega) ⟨hit₁, hl₁⟩ (Heap.lt_size hoi) (Heap.lt_size hol) (fun h₂ tk hk => ?_) (by rw [sizeLine_eq]; omega)))
  have he : ∀ b o, b ≠ s.heap.objs.size → s.heap.get? b = some o → h₂.get? b = some o := fun b o hb e => hk b o hb (hs₁.extBut b o hb (Heap.get?_push_of_some _ e))
  have ke : ∀ b o, s.heap.get? b = some o → h₂.get? b = some o := fun b o e => he b o (Nat.ne_of_lt (Heap.lt_size e)) e
  show wpAny _ _ (if ys.length < 0 then _ else _) _ _ _
  rw [if_neg (by omega)]
  show wpAny _ _ (newList (ys.take (ys.length - 0)) >>= fun d => pure ([y] ++ [d] ++ ys.drop (ys.length - 0))) _ _ _
  rw [Nat.sub_zero, List.take_length, List.drop_length]
  exact wpAny_bind (wpAny_newList (wpAny_pure (h _ tk ke)) (by rw [sizeLine_eq]; omega))
end
open Evl (Ex)
/-- first, *rest = a list -/
def gFirst (K : PySem.W.Frag) (t : TGs) : TG := fun v σ H Q => ∃ a x xs, v = .ref a ∧ SqL K H a (x :: xs) ∧ xs.length ≤ 16000 ∧ ∀ p, H p = none → t [x, .ref p] σ (upd H p (.lst xs)) Q
theorem pg_first {X : Cx} {pos : Pos} {es : List Expr} {k : Nat} {t : TGs} (hc : X.calm = true) (h : PGs X es t)
    (hn : (assignEach es X.env).length = 2 := by rfl) (hst : (assignEach es X.env).findIdx? (·.1) = some 1 := by rfl) : PG X (.Tuple es k pos) (gFirst X.K t) := by
  refine ⟨fun pins s σ H v u Q I r hw => ?_⟩
  obtain ⟨a, x, xs, e1, hq, hl, hw⟩ := hw
  subst e1
  cases r
  obtain ⟨its, rv, ⟨o, m, e, c, d, q⟩, hz⟩ := I.list hq
  cases rv with
  | @cons _ y _ ys rx rs =>
    rw [PyProof.Rows.assign_Tuple]
    refine wpAny_bind (wpAny_standAt ?_)
    unfold unpack
    rw [hn, hst]
    refine wpAny_bind (wpAny_holding (unpack_first ⟨o, e, c, m, q⟩ (I.ok.hd hc) (by rw [← rs.length]; exact hl) fun h2 tk ke => ?_))
    have nH : H h2.objs.size = none := (I.hok.kept ke).fresh (Nat.le_refl _)
    have nh : s.heap.get? h2.objs.size = none := by
      cases g : s.heap.get? h2.objs.size with
      | none => rfl
      | some u => exact absurd (Heap.lt_size (ke _ _ g)) (Nat.lt_irrefl _)
    have I1 : Inv X pins σ (upd H h2.objs.size (.lst xs)) { s with heap := h2.push { cls := .type "list", data := .seq ys.toArray }, toks := tk } :=
      I.laidN (fun b u g => Heap.get?_push_of_some _ (ke b u g)) nh nH ⟨by simp only [List.length_cons] at hz; omega, ys, 0, rs, Heap.get?_push_size _ rfl⟩
    exact h.run pins _ σ _ _ _ Q I1 (.cons rx (.cons (a := V.ref h2.objs.size) rfl .nil)) (hw _ nH)
/-- .. its last target, starred -/
theorem pgs_star {X : Cx} {e : Expr} {pos : Pos} {t : TG} (h : PG X e t) : PGs X [.Starred e pos] (gCons t gNil) := by
  refine ⟨fun pins s σ H vs us Q I r hw => ?_⟩
  obtain ⟨v, vr, e1, hw⟩ := hw
  subst e1
  cases r with
  | cons r rr =>
    refine assignInOrder_cons (thn (h.run pins s σ H _ _ _ I r hw) fun _ s1 ⟨σ1, H1, I1, q1⟩ => ?_)
    obtain ⟨rfl, q1⟩ := q1
    cases rr
    exact assignInOrder_nil ⟨σ1, H1, I1, q1⟩
end Ov

namespace Ov
open PySem PySem.Spec PyProof.Rows L2
open Evl (Ex)
/-! ### read_rule of a good rule's text -/
abbrev sReadRule : Stmt := topS 27
theorem scReadRule : FnScope ["line", "at"] ["line", "at"] (defScope sReadRule) := ⟨rfl, rfl, rfl, by decide +kernel, rfl, by decide +kernel, by decide +kernel⟩
def spReadRuleG (K : PySem.W.Frag) (C : Addr) : Sp := fun vs H Q _ => ∃ (r : RuleD) (n : Int), vs = [.str (ruleText r), .int n] ∧ r.Good ∧ ∀ p H', Ex H H' → RuleObj K C H' p r → Q (.ref p) H'
section
variable {P : Program} {w : World} {K : PySem.W.Frag} {mg : Str → Option Value} {base : Heap} {CR pR gR : Addr} {mc : Value}
theorem ok_read_rule {f : Addr} {fd : FuncData} (F : Fun K "read_rule" "read_rule" sReadRule f fd) (g_Rule : mg "Rule" = some (.ref CR)) (rd : ClX.CRead K CR mc) (cm : ClX.CMet K CR mc "read" pR gR)
    (G_rd : FnR P w K mg base CX0 4 gR (spRuleReadG K CR)) :
    FnOk P w K mg base CX0 5 f fd ["line", "at"] (spReadRuleG K CR) := by
  refine F.ok scReadRule (fun vs H Q E h => ?_) (fun cdv A outer s H vs Q E hr h => ?_)
  · obtain ⟨r, n, rfl, _⟩ := h
    rfl
  · obtain ⟨r, n, rfl, g, q⟩ := h
    refine ⟨_, pss_one (ps_try_thru0 (pss_one (ps_ret (ClX.pe_cmeth (E := E0) (pe_glob (v := .ref CR) rfl g_Rule rfl) rd cm G_rd (hr.mono (by decide)) pass0 (pa_cons (pv 0) pa_nil))))), ?_⟩
    exact ⟨rfl, _, rfl, r, rfl, g, fun p H' e ro => q p H' e ro⟩
end
end Ov

namespace Ov
open PySem PySem.Spec PyProof.Rows L2
/-! ### enumerate(list, start=n): the library's walk from a count, as a turn of the layer -/
/-- a list's items at each turn, counted from c -/
def Itn (K : PySem.W.Frag) (a : Addr) (c : Int) : It where
  go i H := ∃ xs x, SqL K H a xs ∧ xs[i]? = some x
  yld i H v H' := ∃ p x, v = .ref p ∧ H p = none ∧ H' = upd H p (.tup [.int (c + (i : Int)), x]) ∧ ∀ xs, SqL K H a xs → xs[i]? = some x
  stop i H := ∃ xs, SqL K H a xs ∧ xs.length = i
/-- how the counting iterator stands -/
def CntAt (a e it : Addr) (c : Int) (i : Nat) (h : Heap) : Prop := ((∃ old, IsEnum h e it (c + (i : Int)) old) ∧ h.IsListIter it a i) ∧ e ≠ it ∧ a ≠ it ∧ a ≠ e
theorem CntAt.stands {a e it : Addr} {c : Int} {i : Nat} {h : Heap} {its : List Value} (st : CntAt a e it c i h) (l : h.IsList a its.toArray) : (∃ old, IsEnum h e it (c + (i : Int)) old) ∧ h.IsListIter it a i ∧ h.IsList a its.toArray :=
  ⟨st.1.1, st.1.2, l⟩
theorem turn_count {P : Program} {w : World} {K : PySem.W.Frag} {elts : List Expr} {kk : Nat} {tpos : Pos} (a e it : Addr) (c : Int) : Turn P w K (.Tuple elts kk tpos) (Itn K a c) [e, it] e (CntAt a e it c) where
  mem := List.mem_cons_self
  obj := by
    rintro i h ⟨⟨⟨old, he⟩, o, ho, _, hd⟩, _⟩ b hb
    rcases List.mem_cons.mp hb with rfl | hb
    · exact ⟨_, he, fun v q => nomatch q⟩
    · obtain rfl := List.mem_singleton.mp hb
      exact ⟨o, ho, fun v q => by rw [hd] at q; cases q⟩
  keep := by
    rintro i h h' ⟨⟨⟨old, he⟩, hi⟩, r⟩ k
    exact ⟨⟨⟨old, k e (by simp) _ he⟩, hi.at fun o q => k it (by simp) o q⟩, r⟩
  item := by
    rintro X rfl rfl rfl hc i pins s σ H E I hf st ⟨xs, x, hq, hx⟩
    obtain ⟨its, rv, p, hz⟩ := I.list hq
    obtain ⟨u, hu, ru⟩ := rv.get hx
    have hl : s.heap.IsList a its.toArray := p.isList
    obtain ⟨n1, n2, n3⟩ := st.2
    have W := WalksT.enumFrom (A := X.A) c (Draws.list (prog := X.prog) (w := X.w) (A := X.A.in1) (I.ok.hd hc) it a n2 its.toArray) e n1 (by simp [n1, n3.symm]) (by simp)
    refine W.item i s _ _ (by simpa using (List.getElem?_eq_some_iff.mp hu).1) (st.stands hl) fun T vals h1 tk hv hT tup mid k1 => ?_
    obtain ⟨t, u', hu', rfl⟩ := hv
    obtain rfl : u = u' := by
      rw [List.getElem?_toArray, hu] at hu'
      exact Option.some.inj hu'
    have hw := W.apart i T h1 mid
    refine ⟨_, rfl, W.go elts kk tpos i T { s with heap := h1, toks := tk } _ _ mid fun h2 st2 k2 => ?_⟩
    have new : ObjOk X.prog X.w (upd H T (.tup [.int (c + (i : Int)), x])) h2 T (.tup [.int (c + (i : Int)), x]) := by
      obtain ⟨o, g, cl, n, d⟩ := tup
      exact ⟨by show 2 ≤ sizeLine; decide, [.int (c + (i : Int)) t, u], .cons ⟨_, rfl⟩ (.cons ru .nil), ⟨o, k2 T o hw g, cl, n, d⟩⟩
    refine ⟨.ref T, _, I.turnedNew (t' := tk) (fun b o hb q => k2 b o hb (k1 b o hb q)) hf hT new, rfl, ⟨T, x, rfl, I.hok.fresh hT, rfl, fun ys hy => by rw [I.list_inj hy hq]; exact hx⟩, ⟨⟨st2.1, st2.2.1⟩, n1, n2, n3⟩, fun b hb => ?_⟩
    have hb1 : b ≠ T := fun z => hw (by rw [← z]; exact hb)
    rw [upd_ne hb1]
    exact (hf b hb).1
  done := by
    rintro X rfl rfl rfl hc i pins s σ H E I hf st ⟨xs, hq, hx⟩
    obtain ⟨its, rv, p, hz⟩ := I.list hq
    obtain ⟨n1, n2, n3⟩ := st.2
    have W := WalksT.enumFrom (A := X.A) c (Draws.list (prog := X.prog) (w := X.w) (A := X.A.in1) (I.ok.hd hc) it a n2 its.toArray) e n1 (by simp [n1, n3.symm]) (by simp)
    have e : its.toArray.size = i := by simp [← hx, rv.length]
    refine W.done s _ _ (by rw [e]; exact st.stands p.isList) fun h1 tk k1 => ⟨rfl, I.turnedL (ch := [_, _]) k1 hf⟩
  self := by
    rintro A i s Q E ⟨⟨⟨old, he⟩, _⟩, _⟩ h
    exact wpAny_pyIter_enum he h
/-- enumerate(a list, start=c) -/
def iCount (K : PySem.W.Frag) (ta tk : TA) : TI := fun σ H R => ta σ H fun vs H1 => tk σ H1 fun ks H2 => ∃ (a : Addr) (xs : List V) (c : Int), vs = [.ref a] ∧ ks = [.int c] ∧ (-1000 ≤ c ∧ c ≤ 1000) ∧ SqL K H2 a xs ∧ R (Itn K a c) H2
theorem pi_count {X : Cx} {e : Expr} {kws : List Keyword} {ta tk : TA} {p pos tpos : Pos} {elts : List Expr} {kk : Nat} (hg : Gl X "enumerate") (hm : X.mg "enumerate" = none) (ha : PA X [e] ta) (hk : PK X kws tk)
    (hks : (backToKw pos (keywordEach kws X.env)).filterMap (·.1) = [Str.ofString "start"] := by rfl) (hall : (backToKw pos (keywordEach kws X.env)).all (·.1.isSome) = true := by rfl) (hs : starEach [e] X.env = (false, eval e X.env) :: starEach [] X.env := by rfl)
    (hpl : ((backTo pos (starEach [e] X.env)).any (·.1) || (backToKw pos (keywordEach kws X.env)).any (·.1.isNone)) = false := by rfl) : PI X (.Tuple elts kk tpos) (.Call (.Name "enumerate" p) [e] kws pos) (iCount X.K ta tk) := by
  refine ⟨fun pins s σ H R I h => ?_⟩
  refine wpAny_Call_Name_kw (ld_blt I hg hm boot_enumerate ?_)
  refine PySem.W.callWith_of (P := fun _ => True) hpl (fun h _ => ⟨.machine, .inr (.inl rfl), PySem.W.Looks.of_pure rfl⟩) (PyProof.Rows.evalArgs_kw2 hall (thn (ha.run pos pins s σ H _ I h) fun us s1 ⟨vs, H1, I1, r1, q1⟩ => ?_) hs)
  refine thn (hk.run pos pins s1 σ H1 _ I1 q1) fun ws s2 ⟨zs, H2, I2, rz, q2⟩ => ⟨trivial, ?_⟩
  obtain ⟨a, xs, c, ev, ez, ⟨c0, c1⟩, hq, q⟩ := q2
  subst ev ez
  cases r1 with
  | cons r rr =>
    cases rr
    cases r
    cases rz with
    | cons z zz =>
      cases zz
      obtain ⟨t, rfl⟩ := z
      obtain ⟨its, rv, pl, hz⟩ := I2.list hq
      have hlt : a < s2.heap.objs.size := by
        obtain ⟨o, e, _⟩ := pl.isList
        exact Heap.lt_size e
      rw [hks]
      refine enum_begins_start (begins_list a its.toArray) pl.isList (by omega) (by omega) fun h1 he hit hsz k => wpAny_pyIter_enum he ?_
      have I3 : Inv X pins σ H2 { s2 with heap := h1 } := I2.kept (t' := s2.toks) k
      refine ⟨s2.heap.objs.size + 1, [s2.heap.objs.size + 1, s2.heap.objs.size], _, _, H2, rfl, I3, turn_count a (s2.heap.objs.size + 1) s2.heap.objs.size c, ⟨⟨⟨.none, by simpa using he⟩, ⟨_, hit, rfl, rfl⟩⟩, Nat.succ_ne_self _, Nat.ne_of_lt hlt, Nat.ne_of_lt (Nat.lt_succ_of_lt hlt)⟩, fun b hb => ?_, q⟩
      have hle : s2.heap.objs.size ≤ b := by
        rcases List.mem_cons.mp hb with z | z
        · rw [z]; exact Nat.le_add_right _ _
        · rw [List.mem_singleton.mp z]; exact Nat.le_refl _
      exact I2.fpOk hle (I2.hok.fresh hle)
/-- .. a walk: pairs of the count and the item -/
theorem walk_count {K : PySem.W.Frag} {a : Addr} {xs : List V} {c : Int} : Walk (Itn K a c) xs.length (fun H => SqL K H a xs) (YPair (fun i => some (.int (c + (i : Int)))) (fun i => xs[i]?)) where
  goes _ _ hi h := ⟨xs, _, h, List.getElem?_eq_getElem hi⟩
  stops _ h := ⟨xs, h, rfl⟩
  yields := by
    rintro i H v H' _ h ⟨p, x, rfl, hp, rfl, f⟩
    exact ⟨p, _, x, rfl, hp, rfl, rfl, f xs h⟩
end Ov

namespace Ov
open PySem PySem.Spec PyProof.Rows L2
open Evl (pss_cut tCut Ex Ev EvT EvL EvA EvU)
/-! ### the lines of a plan's text read -/
section
variable {K : PySem.W.Frag} {CR : Addr} {H : Hp}
/-- [read_rule(line, at) for at, line in enumerate(lines, start=1)] over good rules' texts -/
theorem rd_lines {a : Addr} {rs : List RuleD} {Q : VK} {a0 a1 a2 a4 a5 a6 a7 a8 : Option V} (hx : SqL K H a (rs.map fun r => V.str (ruleText r))) (hz : rs.length ≤ 1000) (g : ∀ r ∈ rs, r.Good)
    (q : ∀ L H' ys, Ex H H' → H' L = some (.lst ys) → RulesAt K CR H' ys rs → Q (.ref L) H') :
    tLc (iCount K (tCons (tVar 3) tNil) (tCons (tC (.int 1)) tNil)) (gTup K 2 (gCons (gName 7) (gCons (gName 8) gNil))) tYes (tCall (spReadRuleG K CR) [] E0 (tCons (tVar 8) (tCons (tVar 7) tNil))) [7, 8]
      [a0, a1, a2, some (.ref a), a4, a5, a6, a7, a8] H Q := by
  refine ⟨_, rfl, a, _, 1, rfl, rfl, by decide, hx, fun L hL => ?_⟩
  refine lc_it (walk_count (c := 1)) (fun i H' => Ex H H' ∧ ∃ ys, H' L = some (.lst ys) ∧ RulesAt K CR H' ys (rs.take i)) ⟨Ex.new hL, [], upd_same, by rw [List.take_zero]; exact .nil⟩ (fun i H' _ p => Evl.ex_l p.1 hx) ?_ ?_
  · rintro i x H1 H2 hi ⟨e, ys, h3, h4⟩ ⟨p, n, v, rfl, hp, rfl, en, ev⟩
    obtain rfl := Option.some.inj en
    replace ev : (rs.map fun r => V.str (ruleText r))[i]? = some v := ev
    rw [List.getElem?_map] at ev
    obtain ⟨r, hr, rfl⟩ := Option.map_eq_some_iff.mp ev
    refine ⟨p, _, rfl, Evl.st_of upd_same, rfl, _, _, rfl, _, _, rfl, rfl, rfl, ?_⟩
    simp only [tYes, eq_self, if_true]
    refine ⟨_, rfl, _, rfl, r, _, rfl, g r (List.mem_of_getElem? hr), fun o H4 e4 ro => ?_⟩
    have e14 := (Ex.new hp).trans e4
    have h3' := e14 _ _ h3
    have hn : ys.length < sizeLine := by
      rw [paired_len h4, List.length_take]
      have := (List.getElem?_eq_some_iff.mp hr).1
      exact Nat.lt_of_le_of_lt (Nat.min_le_left _ _) (Nat.lt_of_lt_of_le this (Nat.le_trans hz (by decide)))
    refine ⟨ys, h3', hn, Ex.mut (e.trans e14) hL, _, upd_same, ?_⟩
    rw [List.take_add_one, hr]
    exact paired_snoc ((h4.ex e14).updL h3') ⟨o, rfl, ro.updL h3'⟩
  · rintro H' ⟨e, ys, h3, h4⟩
    rw [List.length_map, List.take_length] at h4
    exact q L H' ys e h3 h4
end
end Ov

namespace Ov
open PySem PySem.Spec PyProof.Rows L2
open Evl (pss_cut tCut Ex Ev EvT EvL EvA EvU)
/-! ### Plan.read of a plan's text -/
abbrev sPlanRead : Stmt := inClass (topS 28) 1
theorem scPlanRead : FnScope ["cls", "text", "first", "lines", "word", "raises", "rules", "at", "line"] ["cls", "text"] (defScope sPlanRead) := ⟨rfl, rfl, rfl, by decide +kernel, rfl, by decide +kernel, by decide +kernel⟩
def spAreRaisesG (K : PySem.W.Frag) : Sp := fun vs H Q _ => ∃ (a : Addr) (ks : List Str), vs = [.ref a] ∧ (SqL K H a (ks.map V.str) ∨ SqT K H a (ks.map V.str)) ∧ ks.length ≤ 4 ∧ ks.Nodup ∧ (∀ k ∈ ks, k ∈ lettersL) ∧ ∀ H', Ex H H' → Q (.bl true) H'
/-- so ks ys: ys is ks sorted -/
def spPlanInitG (K : PySem.W.Frag) (CR CP : Addr) (so : List Str → List Str → Prop) : Sp := fun vs H Q _ => ∃ (p a b dx : Addr) (ks : List Str) (xs : List V) (rs : List RuleD), vs = [.ref p, .ref a, .ref b] ∧ H p = some (.ins CP dx []) ∧ (SqL K H a (ks.map V.str) ∨ SqT K H a (ks.map V.str)) ∧ ks.length ≤ 4 ∧ ks.Nodup ∧ (∀ k ∈ ks, k ∈ lettersL) ∧
  (SqL K H b xs ∨ SqT K H b xs) ∧ RulesAt K CR H xs rs ∧ xs.length ≤ 1000 ∧ ∀ H' ys, so ks ys → (∀ c o, c ≠ p → H c = some o → H' c = some o) → PlanObj K CP H' p ys xs → Q .non H'
def spPlanReadG (K : PySem.W.Frag) (CR CP : Addr) (so : List Str → List Str → Prop) : Sp := fun vs H Q _ => ∃ (text first : Str) (ks : List Str) (rs : List RuleD), vs = [.ref CP, .str text] ∧ Txt.split text "\n" = first :: rs.map ruleText ∧ Txt.split first " " = ("raise" : Str) :: ks ∧ text.length ≤ 900000 ∧ first.length ≤ 900000 ∧ rs.length ≤ 1000 ∧ (∀ r ∈ rs, r.Good) ∧ ks.length ≤ 4 ∧ ks.Nodup ∧ (∀ k ∈ ks, k ∈ lettersL) ∧
  ∀ p H' ys xs, so ks ys → Ex H H' → PlanObj K CP H' p ys xs → RulesAt K CR H' xs rs → Q (.ref p) H'
theorem q_put {te : TE} {g : TG} {tz : TS} {D : Ends} {σ : L2.St} {H : Hp} (h : te σ H fun x H1 => g x σ H1 (tz D)) : tSeq (tAsg te g) tz D σ H := h
/-- first, *rest = text.split(sep) -/
theorem q_first {K : PySem.W.Frag} {σ : L2.St} {H : Hp} {D : Ends} {tz : TS} {n i j : Nat} {a b y : Str} {ys : List Str} (e : Txt.split a b = y :: ys) (h : σ[n]? = some (some (.str a))) (hb : (b.length == 0) = false) (hz : a.length ≤ 900000) (hy : ys.length ≤ 16000)
    (c : ∀ p H1, Ex H H1 → H1 p = some (.lst (ys.map V.str)) → tz D ((σ.set i (some (.str y))).set j (some (.ref p))) H1) :
    tSeq (tAsg (tM1 (fun x xs H Q => ∃ a b, x = .str a ∧ xs = [.str b] ∧ (b.length == 0) = false ∧ a.length + 2 ≤ sizeLine ∧ rNewStrs (Txt.split a b) H Q) (tVar n) (tC (.str b))) (gFirst K (gCons (gName i) (gCons (gName j) gNil)))) tz D σ H := by
  refine ⟨_, h, ⟨_, rfl⟩, a, b, rfl, rfl, hb, by rw [sizeLine_eq]; omega, fun p np => ⟨p, .str y, ys.map V.str, rfl, .inl (.inl ?_), by rw [List.length_map]; exact hy, fun p2 np2 => ⟨_, _, rfl, _, _, rfl, rfl, ?_⟩⟩⟩
  · rw [e]
    exact upd_same
  · exact c p2 _ ((Ex.new np).trans (Ex.new np2)) upd_same
section
variable {P : Program} {w : World} {K : PySem.W.Frag} {mg : Str → Option Value} {base : Heap} {CR CP : Addr} {so : List Str → List Str → Prop}
theorem ok_plan_read {f fI fAR fRR : Addr} {fd fdI fdAR fdRR : FuncData} (F : Fun K "read" "Plan.read" sPlanRead f fd) (n_enumerate : mg "enumerate" = none) (D_are_raises : Df K mg "are_raises" sAreRaises ["value"] fAR fdAR) (D_read_rule : Df K mg "read_rule" sReadRule ["line", "at"] fRR fdRR)
    (G_are_raises : FnOk P w K mg base CX0 2 fAR fdAR ["value"] (spAreRaisesG K)) (G_read_rule : FnOk P w K mg base CX0 5 fRR fdRR ["line", "at"] (spReadRuleG K CR)) (mkP : Mk K CP fI) (G_init : FnOk P w K mg base CX0 3 fI fdI ["self", "raises", "rules"] (spPlanInitG K CR CP so)) (b_init : Binds K fdI ["self", "raises", "rules"] []) :
    FnOk P w K mg base CX0 6 f fd ["cls", "text"] (spPlanReadG K CR CP so) := by
  refine F.ok scPlanRead (fun vs H Q E h => ?_) (fun cdv A outer s H vs Q E hr h => ?_)
  · obtain ⟨text, first, ks, rs, rfl, _⟩ := h
    rfl
  · obtain ⟨text, first, ks, rs, rfl, h1, h2, l1, l2, l3, g, k1, k2, k3, q⟩ := h
    refine ⟨_, pss_cons (ps_asg (pe_split (pv 1) pe_str) (pg_first (by rfl) (pgs_cons (pg_name (i := 2) scPlanRead.nd rfl (Or.inl rfl)) (pgs_star (pg_name (i := 3) scPlanRead.nd rfl (Or.inl rfl))))))
      (pss_cons (ps_asg (pe_split (pv 2) pe_str) (pg_first (by rfl) (pgs_cons (pg_name (i := 4) scPlanRead.nd rfl (Or.inl rfl)) (pgs_star (pg_name (i := 5) scPlanRead.nd rfl (Or.inl rfl))))))
      (pss_cons (ps_if (PW.pt (pw_or (pt_cmpR op_ne (pv 4) pe_str (nomark _)) (pw_or1 (pt_not (pt_val (pe_call G_are_raises (hr.mono (by decide)) rfl D_are_raises.g D_are_raises.F.kp D_are_raises.b .nil pass0 (pa_cons (pv 5) pa_nil))))))) (pss_one ps_never) pss_nil)
      (pss_cons (ps_setLc (i := 6) (own := [("at", 7), ("line", 8)]) (tt := tYes) rfl scPlanRead.nd rfl rfl (sw_true rfl rfl rfl (by decide +kernel)) (pi_count (by rfl) n_enumerate (pa_cons (pv 3) pa_nil) (pk_cons pe_int pk_nil)) (blkOk_by (own := [("at", 7), ("line", 8)]) (N := ["cls", "text", "first", "lines", "word", "raises", "rules", "at", "line"]) (sc := defScope sPlanRead) (by decide +kernel)) (g := gTup K 2 (gCons (gName 7) (gCons (gName 8) gNil))) (fun _ _ _ _ _ => (pg_tup (by rfl) (pgs_cons (pg_name (i := 7) scPlanRead.nd rfl (Or.inl rfl)) (pgs_cons (pg_name (i := 8) scPlanRead.nd rfl (Or.inl rfl)) pgs_nil)))) (fun _ _ _ _ _ => pts_nil) (fun _ _ _ _ _ => (pe_call (E := E0) G_read_rule (hr.mono (by decide)) rfl D_read_rule.g D_read_rule.F.kp D_read_rule.b .nil pass0 (pa_cons (pv 8) (pa_cons (pv 7) pa_nil)))))
      (pss_one (ps_ret (pe_makeV (sp := spPlanInitG K CR CP so) (E := E0) 0 mkP G_init (hr.mono (by decide)) b_init pass0 (pa_cons (pv 5) (pa_cons (pv 6) pa_nil)))))))), ?_⟩
    refine q_first h1 rfl (by decide +kernel) l1 (by rw [List.length_map]; omega) fun pL H1 e1 s1 => ?_
    refine q_first h2 rfl (by decide +kernel) l2 (by omega) fun pR H2 e2 s2 => ?_
    refine Evl.q_when (b := false) (Evl.et_is (Evl.et_or (Evl.et_test (Evl.ev_op (Evl.ev_var rfl) Evl.ev_c (Evl.rv_ne rfl))) (fun _ => Evl.et_not (Evl.et_B (ev_call (v := .bl true) (Evl.ea_cons (Evl.ev_var rfl) Evl.ea_nil) fun H3 e3 Q1 q1 => ⟨pR, ks, rfl, .inl (Evl.sq_of (e3 _ _ s2)), k1, k2, k3, fun H4 e4 => q1 H4 e4⟩)))) (by decide +kernel)) (fun z => nomatch z) (fun _ H3 e3 => ?_)
    rw [List.map_map] at s1
    refine q_put (rd_lines (Evl.sq_of (e3 _ _ (e2 _ _ s1))) l3 g fun pX H4 xs e4 s4 R4 => ?_)
    refine ⟨rfl, _, rfl, _, rfl, fun x dx nx nd ne => ?_⟩
    have e5 : Ex H4 (upd (upd H4 dx (.own x)) x (.ins CP dx [])) := (Ex.new nd).trans (Ex.new (by rw [upd_ne ne.symm]; exact nx))
    have e45 := e4.trans e5
    refine ⟨x, pR, pX, dx, ks, xs, rs, rfl, upd_same, .inl (Evl.sq_of (e45 _ _ (e3 _ _ s2))), k1, k2, k3, .inl (Evl.sq_of (e5 _ _ s4)), R4.ex e5, by rw [paired_len R4]; exact l3, fun H5 ys sy k5 po => ⟨rfl, ?_⟩⟩
    have e6 : Ex H4 H5 := fun c o hc => k5 c o (ne_of_none hc nx) (e5 _ _ hc)
    have R5 : RulesAt K CR H5 xs rs := R4.ex e6
    exact q x H5 ys xs sy (((e1.trans e2).trans e3).trans (e4.trans e6)) po R5
end
end Ov

namespace Ov
open PySem L2 TL
/-! ### a plan's text is read back -/
theorem joined_no {c : Nat} {sep : Str} (hs : c ∉ tl sep) : ∀ {l : List Str}, (∀ x ∈ l, c ∉ tl x) → c ∉ tl (Str.join sep l)
  | [], _ => List.not_mem_nil
  | [x], h => h x List.mem_cons_self
  | x :: y :: r, h => by
    show c ∉ tl (x ++ sep ++ Str.join sep (y :: r))
    rw [tl_append, tl_append, List.mem_append, List.mem_append]
    rintro ((z | z) | z)
    · exact h x List.mem_cons_self z
    · exact hs z
    · exact joined_no hs (fun w hw => h w (List.mem_cons_of_mem _ hw)) z
theorem line_rule {r : RuleD} (g : r.Good) : 10 ∉ tl (ruleText r) := by
  have k : ∀ k ∈ kindsAll, 10 ∉ tl (("on " : Str) ++ k) := by decide +kernel
  have t : ∀ t ∈ allTests, 10 ∉ tl t := by decide +kernel
  have d : ∀ t ∈ allDeeds, 10 ∉ tl t := by decide +kernel
  unfold ruleText
  rw [tl_append, tl_append, List.mem_append, List.mem_append]
  rintro ((z | z) | z)
  · exact k _ g.k z
  · unfold tText at z
    split at z
    · exact absurd z (by decide +kernel)
    · rw [tl_append, tl_if] at z
      rcases List.mem_append.mp z with z | z
      · exact absurd z (by decide)
      · exact joined_no (by rw [tl_and]; decide) (fun x hx => t x (tests_all (g.ts x hx))) z
  · unfold dText at z
    split at z
    · exact absurd z (by decide +kernel)
    · rw [tl_append, tl_do] at z
      rcases List.mem_append.mp z with z | z
      · exact absurd z (by decide)
      · exact joined_no (by rw [tl_then]; decide) (fun x hx => d x (deeds_all (g.ds x hx))) z
def firstLine (ks : List Str) : Str := Str.join " " (("raise" : Str) :: ks)
def planText (ks : List Str) (rs : List RuleD) : Str := Str.join "\n" (firstLine ks :: rs.map ruleText)
theorem word_no {c : Nat} (hc : c = 10 ∨ c = 32) {ks : List Str} (h : ∀ k ∈ ks, k ∈ lettersL) : ∀ k ∈ ("raise" : Str) :: ks, c ∉ tl k := by
  have a : ∀ k ∈ ("raise" : Str) :: lettersL, 10 ∉ tl k ∧ 32 ∉ tl k := by decide +kernel
  intro k hk
  have hk2 : k ∈ ("raise" : Str) :: lettersL := by
    rcases List.mem_cons.mp hk with z | z
    · exact List.mem_cons.mpr (.inl z)
    · exact List.mem_cons_of_mem _ (h k z)
  rcases hc with rfl | rfl
  · exact (a k hk2).1
  · exact (a k hk2).2
theorem first_read {ks : List Str} (h : ∀ k ∈ ks, k ∈ lettersL) : Txt.split (firstLine ks) " " = ("raise" : Str) :: ks := by
  have e : tl " " = 32 :: [] := by decide +kernel
  unfold firstLine
  rw [← join_eq]
  exact split_join e (by decide +kernel) (by simp) (word_no (.inr rfl) h)
theorem lines_read {ks : List Str} {rs : List RuleD} (h : ∀ k ∈ ks, k ∈ lettersL) (g : ∀ r ∈ rs, r.Good) : Txt.split (planText ks rs) "\n" = firstLine ks :: rs.map ruleText := by
  have e : tl "\n" = 10 :: [] := by decide +kernel
  have e1 : tl " " = 32 :: [] := by decide +kernel
  unfold planText
  rw [← join_eq]
  refine split_join e (by decide +kernel) (by simp) fun p hp => ?_
  rcases List.mem_cons.mp hp with rfl | hp
  · exact joined_no (by rw [e1]; decide) (word_no (.inl rfl) h)
  · obtain ⟨r, hr, rfl⟩ := List.mem_map.mp hp
    exact line_rule (g r hr)
end Ov

namespace Ov
open PySem PySem.Spec PyProof.Rows L2
open Evl (pss_cut tCut Ex Ev EvT EvL EvA EvU)
/-! ### Plan's __init__, of any kinds without twins -/
def sortedOf (ks ys : List Str) : Prop := ys.Perm ks ∧ sortedS ys = true
section
variable {P : Program} {w : World} {K : PySem.W.Frag} {mg : Str → Option Value} {base : Heap} {a_LETTERS a_LETTER_TESTS a_LETTER_DEEDS a_ANSWER_TESTS a_ANSWER_DEEDS CR CP : Addr} {tA tN : Tok}
theorem ok_plan_initG {f fSeq fAR fAU : Addr} {fd fdSeq fdAR fdAU : FuncData} {dvs : List V} {kws : List (Str × V)} (F : FunD K "__init__" "Plan.__init__" (defArgs sPlanInit) (defBody sPlanInit) (defScope sPlanInit) dvs kws f fd) (T : TxR K mg a_LETTERS a_LETTER_TESTS a_LETTER_DEEDS a_ANSWER_TESTS a_ANSWER_DEEDS CR tA tN) (TP : TxP K mg CP)
    (D_is_sequence : Df K mg "is_sequence" sIsSequence ["value"] fSeq fdSeq) (D_are_raises : Df K mg "are_raises" sAreRaises ["value"] fAR fdAR) (G_are_raises : FnOk P w K mg base CX0 2 fAR fdAR ["value"] (spAreRaisesG K)) (D_are_rules : Df K mg "are_rules" sAreRules ["value"] fAU fdAU) :
    FnOk P w K mg base CX0 3 f fd ["self", "raises", "rules"] (spPlanInitG K CR CP sortedOf) := by
  have G_are_rules : FnOk P w K mg base CX0 2 fAU fdAU ["value"] (spAreRules K CR) := ok_are_rules D_are_rules.F T D_is_sequence
  refine FunD_ok0 F scPlanInit (fun vs H Q E h => ?_) (fun cdv A outer s H vs Q E hr h => ?_)
  · obtain ⟨p, a, b, dx, ks, xs, rs, rfl, _⟩ := h
    rfl
  · obtain ⟨p, a, b, dx, ks, xs, rs, rfl, hp, hA, hl, hd, hk, hB, hR, hx, q⟩ := h
    refine ⟨_, pss_cons (ps_if (pt_not (pt_val (pe_call G_are_raises (hr.mono (by decide)) rfl D_are_raises.g D_are_raises.F.kp D_are_raises.b .nil pass0 (pa_cons (pv 1) pa_nil)))) (pss_one ps_never) pss_nil)
      (pss_cons (ps_if (pt_not (pt_val (pe_call G_are_rules (hr.mono (by decide)) rfl D_are_rules.g D_are_rules.F.kp D_are_rules.b .nil pass0 (pa_cons (pv 2) pa_nil)))) (pss_one ps_never) pss_nil)
      (pss_cons (ps_fld (pv 0) (pe_callTy call_tuple_any (by rfl) T.n_tuple (by decide +kernel) (pa_cons (pe_callB cr_sortedB (by rfl) TP.n_sorted (by decide +kernel) (pa_cons (pv 1) pa_nil)) pa_nil)) rfl)
      (pss_one (ps_fld (pv 0) (pe_callTy call_tuple_any (by rfl) T.n_tuple (by decide +kernel) (pa_cons (pv 2) pa_nil)) rfl)))), ?_⟩
    refine Evl.q_when (b := false) (Evl.et_is (Evl.et_not (Evl.et_B (ev_call (v := .bl true) (Evl.ea_cons (Evl.ev_var rfl) Evl.ea_nil) fun H1 e1 Q1 q1 => ⟨a, ks, rfl, exB e1 hA, hl, hd, hk, fun H2 e2 => q1 H2 e2⟩))) rfl) (fun z => nomatch z) (fun _ H1 e1 => ?_)
    refine Evl.q_when (b := false) (Evl.et_is (Evl.et_not (Evl.et_B (ev_call (v := .bl true) (Evl.ea_cons (Evl.ev_var rfl) Evl.ea_nil) fun H2 e2 Q1 q1 => ⟨b, xs, rs, rfl, exB (e1.trans e2) hB, RulesAt.ex (e1.trans e2) hR, hx, fun H3 e3 => q1 H3 e3⟩))) rfl) (fun z => nomatch z) (fun _ H2 e2 => ?_)
    have e12 := e1.trans e2
    have ntp : ∀ {H' : Hp} {a : Addr} {xs : List V} {fs : List (Str × V)}, H' p = some (.ins CP dx fs) → SqT K H' a xs → ∀ o, SqT K (upd H' p o) a xs := by
      intro H' a xs fs hp' h o
      rcases h with (h | ⟨u, h⟩) | h
      · exact .inl (.inl (by rw [upd_ne (ne_of h hp' (fun z => nomatch z))]; exact h))
      · exact .inl (.inr ⟨u, by rw [upd_ne (ne_of h hp' (fun z => nomatch z))]; exact h⟩)
      · exact .inr h
    have ntl : ∀ {H' : Hp} {a : Addr} {xs : List V} {fs : List (Str × V)}, H' p = some (.ins CP dx fs) → SqL K H' a xs → ∀ o, SqL K (upd H' p o) a xs := by
      intro H' a xs fs hp' h o
      rcases h with (h | ⟨u, h⟩) | h
      · exact .inl (.inl (by rw [upd_ne (ne_of h hp' (fun z => nomatch z))]; exact h))
      · exact .inl (.inr ⟨u, by rw [upd_ne (ne_of h hp' (fun z => nomatch z))]; exact h⟩)
      · exact .inr h
    refine ⟨_, rfl, a, ks, rfl, exB e12 hA, by omega, fun ys l hperm hsort nl => ?_⟩
    refine ⟨l, _, rfl, .inl (SqL.of upd_same), fun t2 H3 e3 s3 => ?_⟩
    have e13 : Ex H H3 := (e12.trans (Ex.new nl)).trans e3
    have hp3 := e13 _ _ hp
    refine ⟨_, rfl, p, CP, dx, _, rfl, hp3, TP.cl, TP.nR, (by show 0 < 1000; decide), ?_⟩
    have hB3 := (exB e13 hB).imp (fun h => ntl hp3 h (.ins CP dx (putF "raises" (.ref t2) []))) (fun h => ntp hp3 h (.ins CP dx (putF "raises" (.ref t2) [])))
    have s3' := ntp hp3 s3 (.ins CP dx (putF "raises" (.ref t2) []))
    refine ⟨_, rfl, b, _, rfl, hB3, fun d2 H4 e4 s4 => ?_⟩
    have hp4 := e4 _ _ upd_same
    refine ⟨_, rfl, p, CP, dx, _, rfl, hp4, TP.cl, TP.nU, (by show 1 < 1000; decide), ?_⟩
    refine q _ ys ⟨hperm, hsort⟩ (fun c o hc hh => ?_) ⟨dx, t2, d2, upd_same, ntp hp4 (Evl.ex_t e4 s3') _, ntp hp4 s4 _⟩
    rw [upd_ne hc]
    refine e4 _ _ ?_
    rw [upd_ne hc]
    exact e13 _ _ hh
end
end Ov

namespace Ov
open PySem PySem.Spec PyProof.Rows L2
open Evl (pss_cut tCut Ex Ev EvT EvL EvA EvU)
/-! ### kinds that raise, up to four of them; own + and len; plans compared -/
section
variable {X : Cx} {CX : CXT} {k : Nat} {f C : Addr} {fd : FuncData} {ps : List Str} {sp : Sp} {E : XK}
/-- x + y of two instances of the class at C, by its own __add__ -/
def rAddI (C : Addr) (sp : Sp) (E : XK) : R2 := fun x y H Q => ∃ a b dx dy fs gs, x = .ref a ∧ y = .ref b ∧ H a = some (.ins C dx fs) ∧ H b = some (.ins C dy gs) ∧ sp [x, y] H (fun v H' => ∃ p, v = .ref p ∧ Q (.ref p) H') E
theorem op_addI (F : FnOk X.prog X.w X.K X.mg X.base CX k f fd ps sp) (hr : Room k X.A) (first : PySem.W.selfFirst X.K C = true) (hs : PySem.W.findIn X.K (.ref C) (PySem.dunder "add") = some (some (.ref f))) (hf : PySem.W.isFn X.K (.ref f) = true) (hb : Binds X.K fd ps []) (hx : Passes CX X E) :
    OpR X (binaryOp .Add) (rAddI C sp E) := by
  rintro pins s σ H _ _ v u Q I rx ry ⟨a, b, dx, dy, fs, gs, rfl, rfl, ha, hb2, hq⟩
  cases rx
  cases ry
  obtain ⟨_, J1, _⟩ := ins_get I.hok ha
  obtain ⟨_, J2, _⟩ := ins_get I.hok hb2
  obtain ⟨_, J1, _⟩ := J1.look
  obtain ⟨_, J2, _⟩ := J2.look
  obtain ⟨m, hF⟩ := I.fr
  refine PySem.W.binop_K (op := .Add) hF I.ok.mod.kin J1 J2.type first hs hf (wpAny_mono (run_sub F (sub0 hr) hb hx I (vs := [.ref a, .ref b]) (us := [.ref a, .ref b]) (.cons rfl (.cons rfl .nil)) hq) (fun v s2 hv => ?_) fun _ _ z => z)
  obtain ⟨z, H2, I2, rz, p, rfl, q⟩ := hv
  cases rz
  exact ⟨.ref p, H2, I2, rfl, q⟩
/-- len(x) by the class's own __len__ -/
def rLenI (C : Addr) (sp : Sp) (E : XK) : List V → Hp → VK → Prop := fun xs H Q => ∃ a dx fs, xs = [.ref a] ∧ H a = some (.ins C dx fs) ∧ sp [.ref a] H (fun v H' => ∃ n : Nat, v = .int (n : Int) ∧ n < 1000000 ∧ Q (.int (n : Int)) H') E
theorem call_lenI (F : FnOk X.prog X.w X.K X.mg X.base CX k f fd ps sp) (hr : Room (k + 1) X.A) (hs : PySem.W.findIn X.K (.ref C) "__len__" = some (some (.ref f))) (hf : PySem.W.isFn X.K (.ref f) = true) (hb : Binds X.K fd ps []) (hx : Passes CX X E) :
    CallR X (.builtin "len") (rLenI C sp E) := by
  rintro pins s σ H _ us Q I r ⟨a, dx, fs, rfl, ha, hq⟩
  obtain ⟨u, rfl, rx⟩ := vals1 r
  cases rx
  obtain ⟨_, J, _⟩ := ins_get I.hok ha
  obtain ⟨_, J, _⟩ := J.look
  obtain ⟨m, hF⟩ := I.fr
  refine PySem.W.len_K hF I.ok.mod.kin J hs hf (wpAny_mono (run_sub F (sub1 hr) hb hx I (vs := [.ref a]) (us := [.ref a]) (.cons rfl .nil) hq) (fun v s2 hv => ?_) fun _ _ z => z)
  obtain ⟨z, H2, I2, rz, n, rfl, hn, q⟩ := hv
  obtain ⟨t, rfl⟩ := rz
  exact ⟨⟨by omega, by omega⟩, .int n, H2, I2.tok _, ⟨_, rfl⟩, q⟩
end
section
variable {P : Program} {w : World} {K : PySem.W.Frag} {mg : Str → Option Value} {base : Heap} {a_LETTERS a_LETTER_TESTS a_LETTER_DEEDS a_ANSWER_TESTS a_ANSWER_DEEDS CR CP : Addr} {tA tN : Tok}
theorem ok_are_raisesG {f fSeq : Addr} {fd fdSeq : FuncData} (F : Fun K "are_raises" "are_raises" sAreRaises f fd) (T : TxR K mg a_LETTERS a_LETTER_TESTS a_LETTER_DEEDS a_ANSWER_TESTS a_ANSWER_DEEDS CR tA tN) (n_set : mg "set" = none) (D_is_sequence : Df K mg "is_sequence" sIsSequence ["value"] fSeq fdSeq) :
    FnOk P w K mg base CX0 2 f fd ["value"] (spAreRaisesG K) := by
  have G_is_sequence : FnOk P w K mg base CX0 1 fSeq fdSeq ["value"] (spIsSeq K) := ok_is_sequence D_is_sequence.F T
  refine F.ok scAreRaises (fun vs H Q E h => ?_) (fun cdv A outer s H vs Q E hr h => ?_)
  · obtain ⟨a, ks, rfl, _⟩ := h
    rfl
  · obtain ⟨a, ks, rfl, hS, hl, hd, hk, q⟩ := h
    refine ⟨_, pss_cons (ps_if (PW.pt (pw_or (pt_not (pt_val (pe_call G_is_sequence (hr.mono (by decide)) rfl D_is_sequence.g D_is_sequence.F.kp D_is_sequence.b .nil pass0 (pa_cons (pv 0) pa_nil)))) (pw_or1 (pt_not (pt_val (pe_callB (cr_all rfl) (by rfl) T.n_all (by decide +kernel) (pa_cons (pe_lc (own := [("kind", 1)]) (g := gName 1) (tt := tYes) rfl scAreRaises.nd (pi_both (pv 0)) (blkOk_by (own := [("kind", 1)]) (N := ["value", "kind"]) (sc := defScope sAreRaises) (by decide +kernel)) (fun _ _ _ _ _ => (pg_name (i := 1) scAreRaises.nd rfl (Or.inl rfl))) (fun _ _ _ _ _ => pts_nil) (fun _ _ _ _ _ => (pe_cmpR (r := rIn K false) op_in_seq (pv 1) (pe_glob (v := .ref a_LETTERS) rfl T.g_LETTERS rfl) (by rfl)))) pa_nil))))))) (pss_one (ps_ret pe_bl)) pss_nil)
      (pss_one (ps_ret (pe_cmpR op_eq (pe_lenSetG rfl rfl T.n_len rfl n_set (pv 0)) (pe_callB call_len_seq (by rfl) T.n_len (by decide +kernel) (pa_cons (pv 0) pa_nil)) (nomark _)))), ?_⟩
    have lT : (ks.map V.str).length ≤ 40000 := by rw [List.length_map]; omega
    refine Evl.q_when (b := false) (Evl.et_is (Evl.et_or (Evl.et_not (Evl.et_B (ev_call (v := .bl true) (Evl.ea_cons (Evl.ev_var rfl) Evl.ea_nil) fun H1 e1 Q1 q1 => ⟨a, _, rfl, exB e1 hS, fun H2 e2 => q1 H2 e2⟩)))
      (fun _ => Evl.et_not (Evl.et_B (ev_all (bs := List.replicate (ks.map V.str).length true) ?_)))) (by rw [all_true]; rfl)) (fun z => nomatch z) (fun _ H1 e1 => ?_)
    · rw [← range_true]
      refine el_lcB (fun _ => .bl true) (Evl.ev_var rfl) hS lT (fun x => rfl) (fun i x H2 e2 hi => ?_)
      obtain ⟨y, rfl, hy⟩ := strs_at hi
      have hy2 : y ∈ lettersL := hk y (List.mem_of_getElem? hy)
      refine Evl.ev_is (Evl.ev_op (Evl.ev_var rfl) Evl.ev_c (Evl.rv_isT (T.s_LETTERS _) rfl (flat_strs _))) ?_
      rw [inV_strs]
      exact congrArg V.bl (decide_eq_true hy2)
    · refine ⟨_, rfl, a, ks, rfl, exB e1 hS, hd, by omega, _, rfl, a, _, rfl, exB e1 hS, rfl, ?_⟩
      rw [List.length_map]
      exact (decide_eq_true (rfl : V.int (ks.length : Int) = V.int (ks.length : Int))) ▸ q H1 e1
/-! #### == of plans that are alike -/
def sameAt (K : PySem.W.Frag) (CR : Addr) : Addr → Addr → Hp → Prop := fun a b H => ∃ r : RuleD, r.Good ∧ RuleObj K CR H a r ∧ RuleObj K CR H b r
theorem same_rules {H : Hp} : ∀ {xs ys : List V} {rs : List RuleD}, RulesAt K CR H xs rs → RulesAt K CR H ys rs → (∀ r ∈ rs, r.Good) → Prs (DIns CR (sameAt K CR)) xs ys H
  | _, _, _, .nil, .nil, _ => Prs.nil
  | _, _, _, .cons ⟨p, e1, h1⟩ t1, .cons ⟨q, e2, h2⟩ t2, g => by
    obtain ⟨dx, _, _, i1, _⟩ := id h1
    obtain ⟨dy, _, _, i2, _⟩ := id h2
    exact Prs.cons ⟨p, q, dx, dy, _, _, e1, e2, i1, i2, _, g _ List.mem_cons_self, h1, h2⟩ (same_rules t1 t2 fun r hr => g r (List.mem_cons_of_mem _ hr))
theorem same_mon {a b : Addr} {H H' : Hp} (e : Ext H H') (h : sameAt K CR a b H) : sameAt K CR a b H' := by
  obtain ⟨r, g, h1, h2⟩ := h
  exact ⟨r, g, h1.ex e, h2.ex e⟩
abbrev sPlanEq : Stmt := inClass (topS 28) 8
theorem scPlanEq : FnScope ["self", "other"] ["self", "other"] (defScope sPlanEq) := ⟨rfl, rfl, rfl, by decide +kernel, rfl, by decide +kernel, by decide +kernel⟩
def spPlanEq (K : PySem.W.Frag) (CR CP : Addr) : Sp := fun vs H Q _ => ∃ (p q : Addr) (ks : List Str) (xs ys : List V) (rs : List RuleD), vs = [.ref p, .ref q] ∧ PlanObj K CP H p ks xs ∧ PlanObj K CP H q ks ys ∧ Plain ks ∧ RulesAt K CR H xs rs ∧ RulesAt K CR H ys rs ∧ (∀ r ∈ rs, r.Good) ∧ ∀ H', Ex H H' → Q (.bl true) H'
theorem ok_plan_eq {f fE : Addr} {fd fdE : FuncData} (F : Fun K "__eq__" "Plan.__eq__" sPlanEq f fd) (TP : TxP K mg CP) (tyP : ∀ {H : Hp} {p dx : Addr} {fs : List (Str × V)}, H p = some (.ins CP dx fs) → TyX K H (.ref p) (.ref CP)) (eqR : PySem.W.findIn K (.ref CR) "__eq__" = some (some (.ref fE))) (isE : PySem.W.isFn K (.ref fE) = true)
    (G_eq : FnOk P w K mg base CX0 1 fE fdE ["self", "other"] (spRuleEq K CR)) (b_eq : Binds K fdE ["self", "other"] []) : FnOk P w K mg base CX0 3 f fd ["self", "other"] (spPlanEq K CR CP) := by
  have G2 : FnOk P w K mg base CX0 1 fE fdE ["self", "other"] (spEq (sameAt K CR)) := G_eq.imp fun vs H Q E ⟨a, b, e, ⟨r, g, h1, h2⟩, q⟩ => ⟨a, b, r, r, e, h1, h2, g, g, fun H' e' => by
    have e2 : sameR r r = true := sameR_self r
    unfold sameR at e2
    exact e2 ▸ q H' e'⟩
  refine F.ok scPlanEq (fun vs H Q E h => ?_) (fun cdv A outer s H vs Q E hr h => ?_)
  · obtain ⟨p, q, ks, xs, ys, rs, rfl, _⟩ := h
    rfl
  · obtain ⟨p, q, ks, xs, ys, rs, rfl, hp, hq, pl, hx, hy, g, k⟩ := h
    obtain ⟨dx, a, b, h1, h2, h3⟩ := id hp
    obtain ⟨dy, c, d, h4, h5, h6⟩ := id hq
    refine ⟨_, pss_one (ps_ret (pe_and (pe_callB call_isi (by rfl) TP.n_isinstance (by decide +kernel) (pa_cons (pv 1) (pa_cons (pe_glob (v := .ref CP) rfl TP.g_Plan rfl) pa_nil))) (pe_and (pe_cmpR (op_eqD hr.units) (pe_fld (pv 0) rfl) (pe_fld (pv 1) rfl) (nomark _)) (pe_one (pe_cmpR (op_eqG (n := 2) (D := DTup K (DIns CR (sameAt K CR))) (rcG_tup (mon_ins (R := sameAt K CR) fun a b H H' e h => same_mon e h) (eqG_ins (R := sameAt K CR) (n := 1) (E := E0) G2 eqR isE b_eq pass0)) hr) (pe_fld (pv 0) rfl) (pe_fld (pv 1) rfl) (nomark _)))))), ?_⟩
    refine Evl.s_ret (v := .bl (true && (decide (ks = ks) && true))) ?_ fun H1 e1 => by
      rw [decide_eq_true rfl]
      exact k H1 e1
    refine Evl.ev_andV (ev_isi (Evl.ea_cons (Evl.ev_var rfl) (Evl.ea_cons Evl.ev_c Evl.ea_nil)) (.own CP) (fun H3 e3 => tyP (e3 _ _ h4)) (by simp [PySem.W.kitOne])) (fun _ => ?_)
    refine Evl.ev_andV (Evl.ev_op (ev_fld (Evl.ev_var rfl) h1 TP.cl TP.nR (pf_raises _ _)) (ev_fld (Evl.ev_var rfl) h4 TP.cl TP.nR (pf_raises _ _)) (rv_eqT pl pl h2 h5)) (fun _ => ?_)
    refine Evl.ev_op (ev_fld (Evl.ev_var rfl) h1 TP.cl TP.nU (pf_rules _ _)) (ev_fld (Evl.ev_var rfl) h4 TP.cl TP.nU (pf_rules _ _)) fun H1 e1 Q1 q1 => ?_
    exact ⟨⟨b, d, xs, ys, rfl, rfl, Evl.ex_t e1 h3, Evl.ex_t e1 h6, same_rules (hx.ex e1) (hy.ex e1) g⟩, fun H2 e2 => q1 H2 e2⟩
/-! #### len, raising, without, + -/
abbrev sPlanLen : Stmt := inClass (topS 28) 4
theorem scPlanLen : FnScope ["self"] ["self"] (defScope sPlanLen) := ⟨rfl, rfl, rfl, by decide +kernel, rfl, by decide +kernel, by decide +kernel⟩
def spPlanLen (K : PySem.W.Frag) (CP : Addr) : Sp := fun vs H Q _ => ∃ (p : Addr) (ks : List Str) (xs : List V), vs = [.ref p] ∧ PlanObj K CP H p ks xs ∧ Q (.int (xs.length : Int)) H
theorem ok_plan_len {f : Addr} {fd : FuncData} (F : Fun K "__len__" "Plan.__len__" sPlanLen f fd) (TP : TxP K mg CP) : FnOk P w K mg base CX0 1 f fd ["self"] (spPlanLen K CP) := by
  refine F.ok scPlanLen (fun vs H Q E h => ?_) (fun cdv A outer s H vs Q E hr h => ?_)
  · obtain ⟨p, ks, xs, rfl, _⟩ := h
    rfl
  · obtain ⟨p, ks, xs, rfl, ⟨dx, a, b, h1, h2, h3⟩, q⟩ := h
    refine ⟨_, pss_one (ps_ret (pe_callB call_len_seq (by rfl) TP.n_len (by decide +kernel) (pa_cons (pe_fld (pv 0) rfl) pa_nil))), ?_⟩
    exact ⟨_, rfl, p, CP, dx, _, _, rfl, h1, TP.cl, TP.nU, pf_rules _ _, b, xs, rfl, .inr h3, q⟩
/-- Plan(..) of kinds and rules as they are -/
abbrev MakesPlan (K : PySem.W.Frag) (CR CP : Addr) (H : Hp) (ks : List Str) (xs : List V) (rs : List RuleD) (Q : VK) : Prop := ∀ p H' ys, sortedOf ks ys → Ex H H' → PlanObj K CP H' p ys xs → RulesAt K CR H' xs rs → Q (.ref p) H'
def GoodKs (ks : List Str) : Prop := ks.length ≤ 4 ∧ ks.Nodup ∧ ∀ k ∈ ks, k ∈ lettersL
theorem run_mkP {H H0 : Hp} {a b : Addr} {ks : List Str} {xs : List V} {rs : List RuleD} {Q : VK} (hA : SqL K H a (ks.map V.str) ∨ SqT K H a (ks.map V.str)) (gk : GoodKs ks) (hB : SqL K H b xs ∨ SqT K H b xs) (hR : RulesAt K CR H xs rs) (hz : xs.length ≤ 1000) (e0 : Ex H0 H) (q : MakesPlan K CR CP H0 ks xs rs Q) :
    ∀ x dx : Addr, H x = none → H dx = none → dx ≠ x → spPlanInitG K CR CP sortedOf [.ref x, .ref a, .ref b] (upd (upd H dx (.own x)) x (.ins CP dx [])) (fun v H2 => v = .non ∧ Q (.ref x) H2) E0 := fun x dx nx nd ne => by
  have e1 : Ex H (upd (upd H dx (.own x)) x (.ins CP dx [])) := (Ex.new nd).trans (Ex.new (by rw [upd_ne ne.symm]; exact nx))
  refine ⟨x, a, b, dx, ks, xs, rs, rfl, upd_same, exB e1 hA, gk.1, gk.2.1, gk.2.2, exB e1 hB, hR.ex e1, hz, fun H5 ys so k5 po => ⟨rfl, ?_⟩⟩
  have e2 : Ex H H5 := fun c o hc => k5 c o (ne_of_none hc nx) (e1 _ _ hc)
  exact q x H5 ys so (e0.trans e2) po (hR.ex e2)
end
end Ov

namespace Ov
open PySem PySem.Spec PyProof.Rows L2
open Evl (pss_cut tCut Ex Ev EvT EvL EvA EvU)
/-! ### Plan: without, +, str -/
section
variable {K : PySem.W.Frag} {σ : L2.St} {H : Hp} {te tl tw : TE} {tt : TT}
theorem el_lcTf {a : Addr} {xs : List V} {j : Nat} {vs : List Nat} (f : Nat → Bool) (v : Nat → V) (h : Ev tl σ H (.ref a)) (hx : SqT K H a xs) (hz : xs.length ≤ 40000) (hw : ∀ x, wipe ((wipe σ vs).set j (some x)) vs = wipe σ vs)
    (ht : ∀ (i : Nat) (x : V) H1, Ex H H1 → xs[i]? = some x → EvT tt ((wipe σ vs).set j (some x)) H1 (f i)) (he : ∀ (i : Nat) (x : V) H1, Ex H H1 → xs[i]? = some x → Ev te ((wipe σ vs).set j (some x)) H1 (v i)) : EvL (tLc (iTup K tl) (gName j) tt te vs) σ H (Evl.given xs.length f v) := fun H0 e Q q => h H0 e _ fun H1 e1 => ⟨a, rfl, ⟨xs, Evl.ex_t (e.trans e1) hx⟩, fun L hL =>
  lc_tup (xs := xs) (Evl.Cw H1 f v L) ⟨hL, Ex.new hL, upd_same⟩ (fun i H' _ p => Evl.ex_t ((e.trans e1).trans p.2.1) hx)
    (fun i x H' hi p => ⟨hw x, Evl.cw_turn p (by have := (List.getElem?_eq_some_iff.mp hi).1; omega) (ht i x H1 (e.trans e1) hi) (fun _ => he i x H1 (e.trans e1) hi)⟩)
    (fun H' p => q L H' (Evl.fresh_back e1 p.1) (e1.trans p.2.1) p.2.2)⟩
theorem given_texts (L : List Str) (g : Str → Bool) (f : Nat → Bool) (v : Nat → V) (h : ∀ i x, L[i]? = some x → f i = g x ∧ v i = V.str x) : Evl.given L.length f v = (L.filter g).map V.str := by
  have e : L = (List.range L.length).map fun i => L[i]?.getD Str.empty := by
    refine List.ext_getElem? fun i => ?_
    rw [List.getElem?_map]
    by_cases hi : i < L.length
    · rw [List.getElem?_range hi, List.getElem?_eq_getElem hi]
      show _ = some (L[i]?.getD Str.empty)
      rw [List.getElem?_eq_getElem hi]
      rfl
    · rw [List.getElem?_eq_none (by omega), List.getElem?_eq_none (by rw [List.length_range]; omega)]
      rfl
  have e2 : L.filter g = ((List.range L.length).filter fun i => g (L[i]?.getD Str.empty)).map fun i => L[i]?.getD Str.empty := by
    have q := congrArg (List.filter g) e
    rw [List.filter_map] at q
    exact q
  rw [e2, List.map_map]
  unfold Evl.given
  have at_ : ∀ i ∈ List.range L.length, L[i]? = some (L[i]?.getD Str.empty) := fun i hi => by
    rw [List.getElem?_eq_getElem (List.mem_range.mp hi)]
    rfl
  rw [List.filter_congr fun i hi => (h i _ (at_ i hi)).1]
  exact List.map_congr_left fun i hi => (h i _ (at_ i (List.mem_filter.mp hi).1)).2
/-- t[lo:hi] of a tuple, the whole of it too -/
theorem ev_slA {to th : TO} {a : Addr} {xs : List V} {lo hi : Option Int} (h : Ev te σ H (.ref a)) (h1 : Evl.EvO to σ H lo) (h2 : Evl.EvO th σ H hi) (hs : SqT K H a xs) : EvP (tSl (rSlA K) te to th) σ H (fun t H2 => SqT K H2 t (cutV xs lo hi)) := fun H1 e1 Q q =>
  h H1 e1 _ fun H2 e2 => h1 H2 (e1.trans e2) _ fun H3 e3 => h2 H3 ((e1.trans e2).trans e3) _ fun H4 e4 => by
    have s4 := Evl.ex_t (((e1.trans e2).trans e3).trans e4) hs
    refine ⟨a, xs, rfl, s4, fun w => q a H4 ((e2.trans e3).trans e4) ?_, fun _ p np => q p _ (((e2.trans e3).trans e4).trans (Ex.new np)) (Evl.st_of upd_same)⟩
    unfold cutV
    rw [w.1, w.2, List.drop_zero, Nat.sub_zero, List.take_length]
    exact s4
/-- t + u of tuples -/
theorem ev_catA {ta tb : TE} {xs ys : List V} (ha : EvP ta σ H (fun t H2 => SqT K H2 t xs)) (hb : EvP tb σ H (fun t H2 => SqT K H2 t ys)) (hz : xs.length + ys.length ≤ sizeLine) : EvP (tOp (rCatA K) ta tb) σ H (fun t H2 => SqT K H2 t (xs ++ ys)) := fun H1 e1 Q q =>
  ha H1 e1 _ fun t H2 e2 st => hb H2 (e1.trans e2) _ fun u H3 e3 su => by
    have st3 := Evl.ex_t e3 st
    refine ⟨t, u, xs, ys, rfl, rfl, st3, su, hz, fun h0 => q u H3 (e2.trans e3) ?_, fun _ h0 => q t H3 (e2.trans e3) ?_, fun _ _ p np => q p _ ((e2.trans e3).trans (Ex.new np)) (Evl.st_of upd_same)⟩
    · rw [h0]
      exact su
    · rw [h0, List.append_nil]
      exact st3
end
theorem cut_head (xs : List V) (i : Nat) : cutV xs none (some (i : Int)) = xs.take i := by
  unfold cutV
  rw [HT.sIx_none, HT.sIx_nat, List.drop_zero, Nat.sub_zero]
  by_cases h : i ≤ xs.length
  · rw [Nat.min_eq_left h]
  · rw [Nat.min_eq_right (by omega), List.take_length, List.take_of_length_le (by omega)]
theorem cut_rest (xs : List V) (i : Nat) (hi : i ≤ xs.length) : cutV xs (some (i : Int)) none = xs.drop i := by
  unfold cutV
  rw [HT.sIx_none, HT.sIx_nat, Nat.min_eq_left hi, List.take_of_length_le (by rw [List.length_drop]; omega)]
theorem RulesAt.take {K : PySem.W.Frag} {C : Addr} {H : Hp} : ∀ {xs : List V} {rs : List RuleD} (i : Nat), RulesAt K C H xs rs → RulesAt K C H (xs.take i) (rs.take i)
  | _, _, 0, _ => .nil
  | _, _, _ + 1, .nil => .nil
  | _, _, i + 1, .cons h t => .cons h (RulesAt.take i t)
theorem RulesAt.drop {K : PySem.W.Frag} {C : Addr} {H : Hp} : ∀ {xs : List V} {rs : List RuleD} (i : Nat), RulesAt K C H xs rs → RulesAt K C H (xs.drop i) (rs.drop i)
  | _, _, 0, h => h
  | _, _, _ + 1, .nil => .nil
  | _, _, i + 1, .cons _ t => RulesAt.drop i t
theorem RulesAt.app {K : PySem.W.Frag} {C : Addr} {H : Hp} : ∀ {xs ys : List V} {rs us : List RuleD}, RulesAt K C H xs rs → RulesAt K C H ys us → RulesAt K C H (xs ++ ys) (rs ++ us)
  | _, _, _, _, .nil, h => h
  | _, _, _, _, .cons h t, h2 => .cons h (RulesAt.app t h2)
section
variable {P : Program} {w : World} {K : PySem.W.Frag} {mg : Str → Option Value} {base : Heap} {a_LETTERS a_LETTER_TESTS a_LETTER_DEEDS a_ANSWER_TESTS a_ANSWER_DEEDS CR CP : Addr} {tA tN : Tok}
abbrev sPlanAdd : Stmt := inClass (topS 28) 7
theorem scPlanAdd : FnScope ["self", "other", "raises", "kind"] ["self", "other"] (defScope sPlanAdd) := ⟨rfl, rfl, rfl, by decide +kernel, rfl, by decide +kernel, by decide +kernel⟩
def bothKs (ks ms : List Str) : List Str := lettersL.filter fun k => decide (k ∈ ks) || decide (k ∈ ms)
theorem both_good (ks ms : List Str) : GoodKs (bothKs ks ms) := ⟨List.length_filter_le _ lettersL, List.Pairwise.filter _ (by decide +kernel), fun k hk => (List.mem_filter.mp hk).1⟩
def spPlanAdd (K : PySem.W.Frag) (CR CP : Addr) : Sp := fun vs H Q _ => ∃ (p q : Addr) (ks ms : List Str) (xs ys : List V) (rs us : List RuleD), vs = [.ref p, .ref q] ∧ PlanObj K CP H p ks xs ∧ PlanObj K CP H q ms ys ∧ RulesAt K CR H xs rs ∧ RulesAt K CR H ys us ∧ xs.length + ys.length ≤ 900 ∧ MakesPlan K CR CP H (bothKs ks ms) (xs ++ ys) (rs ++ us) Q
theorem ok_plan_add {f fI : Addr} {fd fdI : FuncData} (F : Fun K "__add__" "Plan.__add__" sPlanAdd f fd) (T : TxR K mg a_LETTERS a_LETTER_TESTS a_LETTER_DEEDS a_ANSWER_TESTS a_ANSWER_DEEDS CR tA tN) (TP : TxP K mg CP) (tyP : ∀ {H : Hp} {p dx : Addr} {fs : List (Str × V)}, H p = some (.ins CP dx fs) → TyX K H (.ref p) (.ref CP))
    (mkP : Mk K CP fI) (G_init : FnOk P w K mg base CX0 3 fI fdI ["self", "raises", "rules"] (spPlanInitG K CR CP sortedOf)) (b_init : Binds K fdI ["self", "raises", "rules"] []) :
    FnOk P w K mg base CX0 5 f fd ["self", "other"] (spPlanAdd K CR CP) := by
  refine F.ok scPlanAdd (fun vs H Q E h => ?_) (fun cdv A outer s H vs Q E hr h => ?_)
  · obtain ⟨p, q, ks, ms, xs, ys, rs, us, rfl, _⟩ := h
    rfl
  · obtain ⟨p, q, ks, ms, xs, ys, rs, us, rfl, hp, hq, hR, hU, hz, k⟩ := h
    obtain ⟨dx, a, b, h1, h2, h3⟩ := id hp
    obtain ⟨dy, c, d, h4, h5, h6⟩ := id hq
    refine ⟨_, pss_cons (ps_if (pt_not (pt_val (pe_callB call_isi (by rfl) TP.n_isinstance (by decide +kernel) (pa_cons (pv 1) (pa_cons (pe_glob (v := .ref CP) rfl TP.g_Plan rfl) pa_nil))))) (pss_one ps_never) pss_nil)
      (pss_cons (ps_setLc (i := 2) (own := [("kind", 3)]) (g := gName 3) (tt := tOr (tTest (tOp (rIn K false) (tVar 3) (tFld K (tVar 0) "raises"))) (tTest (tOp (rIn K false) (tVar 3) (tFld K (tVar 1) "raises")))) rfl scPlanAdd.nd rfl rfl (sw_true rfl rfl rfl (by decide +kernel)) (pi_tup (pe_glob (v := .ref a_LETTERS) rfl T.g_LETTERS rfl)) (blkOk_by (own := [("kind", 3)]) (N := ["self", "other", "raises", "kind"]) (sc := defScope sPlanAdd) (by decide +kernel)) (fun _ _ _ _ _ => (pg_name (i := 3) scPlanAdd.nd rfl (Or.inl rfl))) (fun _ _ _ _ _ => (pts_one (PW.pt (pw_or (pt_cmpR (r := rIn K false) op_in_seq (pv 3) (pe_fld (pv 0) rfl) (by rfl)) (pw_or1 (pt_cmpR (r := rIn K false) op_in_seq (pv 3) (pe_fld (pv 1) rfl) (by rfl))))))) (fun _ _ _ _ _ => (pv 3)))
      (pss_one (ps_ret (pe_make (sp := spPlanInitG K CR CP sortedOf) (E := E0) mkP G_init hr rfl TP.g_Plan b_init .nil pass0 (pa_cons (pv 2) (pa_cons (pe_op op_catA (pe_fld (pv 0) rfl) (pe_fld (pv 1) rfl)) pa_nil)))))), ?_⟩
    refine Evl.q_when (b := false) (Evl.et_is (Evl.et_not (Evl.et_B (ev_isi (Evl.ea_cons (Evl.ev_var rfl) (Evl.ea_cons Evl.ev_c Evl.ea_nil)) (.own CP) (fun H3 e3 => tyP (e3 _ _ h4)) (by simp [PySem.W.kitOne]; rfl)))) rfl) (fun z => nomatch z) (fun _ H1 e1 => ?_)
    have ek : Evl.given (lettersL.map V.str).length (fun i => decide ((lettersL[i]?.getD Str.empty) ∈ ks) || decide ((lettersL[i]?.getD Str.empty) ∈ ms)) (fun i => V.str (lettersL[i]?.getD Str.empty)) = (bothKs ks ms).map V.str := by
      rw [List.length_map]
      exact given_texts lettersL _ _ _ fun i x hx => by
        rw [hx]
        exact ⟨rfl, rfl⟩
    refine Evl.q_asgL (xs := (bothKs ks ms).map V.str) ?_ fun L H2 nL e2 hL => ?_
    · rw [← ek]
      refine el_lcTf _ _ Evl.ev_c (T.s_LETTERS _) (by decide) (fun _ => rfl) (fun i x H2 e2 hi => ?_) (fun i x H2 e2 hi => ?_)
      · obtain ⟨y, rfl, hy⟩ := strs_at hi
        rw [hy]
        refine Evl.et_or (Evl.et_test (Evl.ev_is (Evl.ev_op (Evl.ev_var rfl) (ev_fld (Evl.ev_var rfl) ((e1.trans e2) _ _ h1) TP.cl TP.nR (pf_raises _ _)) (Evl.rv_isT (Evl.ex_t (e1.trans e2) h2) rfl (flat_strs _))) ?_)) (fun _ => Evl.et_test (Evl.ev_is (Evl.ev_op (Evl.ev_var rfl) (ev_fld (Evl.ev_var rfl) ((e1.trans e2) _ _ h4) TP.cl TP.nR (pf_raises _ _)) (Evl.rv_isT (Evl.ex_t (e1.trans e2) h5) rfl (flat_strs _))) ?_))
        · rw [inV_strs]
          rfl
        · rw [inV_strs]
          rfl
      · obtain ⟨y, rfl, hy⟩ := strs_at hi
        rw [hy]
        exact Evl.ev_var rfl
    · have e12 := e1.trans e2
      refine ⟨_, rfl, ?_⟩
      refine ev_catA (K := K) (xs := xs) (ys := ys) (EvP.of (ev_fld (Evl.ev_var rfl) (e12 _ _ h1) TP.cl TP.nU (pf_rules _ _)) fun H3 e3 => Evl.ex_t (e12.trans e3) h3) (EvP.of (ev_fld (Evl.ev_var rfl) (e12 _ _ h4) TP.cl TP.nU (pf_rules _ _)) fun H3 e3 => Evl.ex_t (e12.trans e3) h6) (size_of (by omega)) H2 (Ex.refl _) _ fun t H3 e3 st => ?_
      refine run_mkP (.inl (Evl.sq_of (e3 _ _ hL))) (both_good ks ms) (.inr st) ((hR.ex (e12.trans e3)).app (hU.ex (e12.trans e3))) ?_ (e12.trans e3) k
      rw [List.length_append]
      omega
end
end Ov

namespace Ov
open PySem PySem.Spec PyProof.Rows L2
open Evl (pss_cut tCut Ex Ev EvT EvL EvA EvU)
/-! ### str(plan) -/
section
variable {K : PySem.W.Frag} {σ : L2.St} {H : Hp} {te to : TE} {tr : TA}
theorem ea_star {p : Addr} {xs ys : List V} (h : Ev te σ H (.ref p)) (hs : SqT K H p xs) (hr : EvA tr σ H ys) : EvA (StX.tStar K te tr) σ H (xs ++ ys) := fun H1 e1 Q q =>
  h H1 e1 _ fun H2 e2 => ⟨p, xs, rfl, .inl (Evl.ex_t (e1.trans e2) hs), hr H2 (e1.trans e2) _ fun H3 e3 => q H3 (e2.trans e3)⟩
theorem ev_joinP {x : Str} {l : List Str} (ho : Ev to σ H (.str x)) (he : EvP te σ H (fun p H2 => SqL K H2 p (l.map V.str) ∨ SqT K H2 p (l.map V.str))) (hz : (l.map (·.length)).sum + l.length * x.length ≤ 16777216) :
    Ev (tM1 (fun x xs H Q => ∃ a p, ∃ ys : List Str, x = .str a ∧ xs = [.ref p] ∧ (SqL K H p (ys.map V.str) ∨ SqT K H p (ys.map V.str)) ∧ (ys.map (·.length)).sum + ys.length * a.length ≤ 16777216 ∧ Q (.str (Txt.join a ys)) H) to te) σ H (.str (Str.join x l)) := fun H1 e Q q => by
  refine ho H1 e _ fun H2 e2 => ⟨⟨x, rfl⟩, he H2 (e.trans e2) _ fun p H3 e3 hp => ⟨x, p, l, rfl, rfl, hp, hz, ?_⟩⟩
  rw [TL.join_eq]
  exact q H3 (e2.trans e3)
end
theorem raises_len {ks : List Str} (hl : ks.length ≤ 4) (hk : ∀ k ∈ ks, k ∈ lettersL) : (((("raise" : Str) :: ks).map (·.length)).sum + (("raise" : Str) :: ks).length * (" " : Str).length ≤ 16777216) ∧ (firstLine ks).length ≤ 30000 := by
  have a : ∀ k ∈ ("raise" : Str) :: lettersL, k.length ≤ 16 := by decide +kernel
  refine join_small (fun x hx => a x ?_) (by decide) (by rw [List.length_cons]; omega)
  rcases List.mem_cons.mp hx with z | z
  · rw [z]
    exact List.mem_cons_self
  · exact List.mem_cons_of_mem _ (hk x z)
theorem rule_len {r : RuleD} (g : r.Good) : (ruleText r).length ≤ 60100 := by
  have lk := kinds_len g.k
  have lt := tText_len (fun x hx => testsNot_len (g.ts x hx)) g.nt
  have ld := dText_len (fun x hx => deedsOf_len (g.ds x hx)) g.nd
  have n3 : (Str.ofString "on ").length = 3 := by decide +kernel
  unfold ruleText
  rw [Str.length_append, Str.length_append, Str.length_append]
  omega
theorem lines_len {ks : List Str} {rs : List RuleD} (hl : ks.length ≤ 4) (hk : ∀ k ∈ ks, k ∈ lettersL) (g : ∀ r ∈ rs, r.Good) (hz : rs.length ≤ 10) : ((firstLine ks :: rs.map ruleText).map (·.length)).sum + (firstLine ks :: rs.map ruleText).length * ("\n" : Str).length ≤ 700000 := by
  have h1 := (raises_len hl hk).2
  have h2 := sum_small (rs.map ruleText) 60100 fun x hx => by
    obtain ⟨r, hr, rfl⟩ := List.mem_map.mp hx
    exact rule_len (g r hr)
  have n1 : ("\n" : Str).length = 1 := by decide +kernel
  rw [List.length_map] at h2
  have h3 : rs.length * 60100 ≤ 10 * 60100 := Nat.mul_le_mul_right _ hz
  rw [List.map_cons, List.sum_cons, List.length_cons, List.length_map, n1]
  omega
theorem plan_len {ks : List Str} {rs : List RuleD} (hl : ks.length ≤ 4) (hk : ∀ k ∈ ks, k ∈ lettersL) (g : ∀ r ∈ rs, r.Good) (hz : rs.length ≤ 10) : (planText ks rs).length ≤ 700000 :=
  Nat.le_trans (join_len "\n" _) (lines_len hl hk g hz)
section
variable {P : Program} {w : World} {K : PySem.W.Frag} {mg : Str → Option Value} {base : Heap} {a_LETTERS a_LETTER_TESTS a_LETTER_DEEDS a_ANSWER_TESTS a_ANSWER_DEEDS CR CP : Addr} {tA tN : Tok}
abbrev sPlanStr : Stmt := inClass (topS 28) 9
theorem scPlanStr : FnScope ["self", "lines", "rule"] ["self"] (defScope sPlanStr) := ⟨rfl, rfl, rfl, by decide +kernel, rfl, by decide +kernel, by decide +kernel⟩
def spPlanStr (K : PySem.W.Frag) (CR CP : Addr) : Sp := fun vs H Q _ => ∃ (p : Addr) (ks : List Str) (xs : List V) (rs : List RuleD), vs = [.ref p] ∧ PlanObj K CP H p ks xs ∧ RulesAt K CR H xs rs ∧ ks.length ≤ 4 ∧ (∀ k ∈ ks, k ∈ lettersL) ∧ (∀ r ∈ rs, r.Good) ∧ rs.length ≤ 10 ∧ ∀ H', Ex H H' → Q (.str (planText ks rs)) H'
theorem ok_plan_str {f fS : Addr} {fd fdS : FuncData} (F : Fun K "__str__" "Plan.__str__" sPlanStr f fd) (TP : TxP K mg CP) (n_str : mg "str" = none) (stR : PySem.W.findIn K (.ref CR) "__str__" = some (some (.ref fS))) (isS : PySem.W.isFn K (.ref fS) = true)
    (G_str : FnOk P w K mg base CX0 1 fS fdS ["self"] (spRuleStr K CR)) (b_str : Binds K fdS ["self"] []) : FnOk P w K mg base CX0 4 f fd ["self"] (spPlanStr K CR CP) := by
  refine F.ok scPlanStr (fun vs H Q E h => ?_) (fun cdv A outer s H vs Q E hr h => ?_)
  · obtain ⟨p, ks, xs, rs, rfl, _⟩ := h
    rfl
  · obtain ⟨p, ks, xs, rs, rfl, hp, hR, hl, hk, g, hz, q⟩ := h
    obtain ⟨dx, a, b, h1, h2, h3⟩ := id hp
    have hr3 : Room 3 (A.deeper (envOfC "Plan.__str__" (defScope sPlanStr) s.heap.objs.size f cdv)) := hr
    refine ⟨_, pss_cons (ps_set (i := 1) scPlanStr.nd rfl (.inl rfl) (pe_lst (pa_cons (pe_join pe_str (pe_lst (pa_cons pe_str (StX.pa_star (pe_fld (pv 0) rfl) pa_nil)))) pa_nil)))
      (pss_cons (ps_expr (pe_bm PySem.F.plainAttrs_list PySem.F.slot_list_extend PySem.F.type_list_extend mt_extend (pv 1) (pa_cons (pe_lc (own := [("rule", 2)]) (g := gName 2) (tt := tYes) rfl scPlanStr.nd (pi_tup (pe_fld (pv 0) rfl)) (blkOk_by (own := [("rule", 2)]) (N := ["self", "lines", "rule"]) (sc := defScope sPlanStr) (by decide +kernel)) (fun _ _ _ _ _ => (pg_name (i := 2) scPlanStr.nd rfl (Or.inl rfl))) (fun _ _ _ _ _ => pts_nil) (fun _ _ _ _ _ => (pe_callTy (T := "str") (r := rStrI CR (spRuleStr K CR) E0) (call_strI G_str hr3 stR isS b_str pass0) (by rfl) n_str (by decide +kernel) (pa_cons (pv 2) pa_nil)))) pa_nil)))
      (pss_one (ps_ret (pe_join pe_str (pv 1))))), ?_⟩
    have zl := lines_len hl hk g hz
    refine Evl.q_asgL (xs := [V.str (firstLine ks)]) (Evl.el_lst (Evl.ea_cons (ev_joinP (l := ("raise" : Str) :: ks) Evl.ev_c (EvP.lst (vs := (("raise" : Str) :: ks).map V.str) (Evl.el_lst (vs := (("raise" : Str) :: ks).map V.str) (Evl.ea_cons Evl.ev_c ?_) ?_) fun _ _ _ h => .inl (Evl.sq_of h)) (raises_len hl hk).1) Evl.ea_nil) (by show 1 ≤ 100000; decide)) fun L H1 nL e1 hL => ?_
    · have q0 := ea_star (K := K) (xs := ks.map V.str) (ys := []) (tr := tNil) (ev_fld (σ := L2.start ["self", "lines", "rule"] [V.ref p]) (Evl.ev_var (i := 0) rfl) h1 TP.cl TP.nR (pf_raises _ _)) h2 Evl.ea_nil
      rw [List.append_nil] at q0
      exact q0
    · rw [List.length_map, List.length_cons]
      omega
    · refine ⟨_, rfl, .inl ⟨rfl, _, Evl.sq_of hL⟩, ?_⟩
      refine (el_rulesT (fun r => V.str (ruleText r)) (ev_fld (Evl.ev_var rfl) (e1 _ _ h1) TP.cl TP.nU (pf_rules _ _)) (Evl.ex_t e1 h3) (hR.ex e1) (by rw [paired_len hR]; omega) (fun _ => rfl) (fun u r H2 e2 hr ho => ev_strR (EvP.of (p := u) (Evl.ev_var rfl) fun H3 e => ho.ex e) (g r hr))) H1 (Ex.refl _) _ fun Z H2 nZ e2 hZ => ?_
      have e12 := e1.trans e2
      refine ⟨L, Z, _, _, rfl, rfl, e2 _ _ hL, hZ, ?_, ?_⟩
      · rw [List.length_map]
        exact size_of (by simp only [List.length_cons, List.length_nil]; omega)
      · have el : [V.str (firstLine ks)] ++ rs.map (fun r => V.str (ruleText r)) = (firstLine ks :: rs.map ruleText).map V.str := by
          rw [List.map_cons, List.map_map]
          rfl
        rw [el]
        dsimp only
        refine Evl.s_ret (v := .str (planText ks rs)) ?_ ?_
        rotate_left
        · exact fun H4 e4 => q H4 ((Ex.mut e12 nL).trans e4)
        exact ev_joinP (K := K) (l := firstLine ks :: rs.map ruleText) Evl.ev_c (EvP.of (p := L) (Evl.ev_var rfl) fun H3 e3 => .inl (Evl.sq_of (e3 _ _ upd_same))) (Nat.le_trans zl (by decide))
end
end Ov

namespace Ov
open PySem PySem.Spec PyProof.Rows L2
open Evl (pss_cut tCut Ex Ev EvT EvL EvA EvU)
/-! ### the law's drawn plans, their texts -/
def allKs : Nat → List (List Str)
  | 0 => [[]]
  | n + 1 => [] :: lettersL.flatMap fun k => (allKs n).map (k :: ·)
theorem in_allKs : ∀ {n : Nat} {ks : List Str}, ks.length ≤ n → (∀ k ∈ ks, k ∈ lettersL) → ks ∈ allKs n
  | 0, [], _, _ => List.mem_singleton.mpr rfl
  | _ + 1, [], _, _ => List.mem_cons_self
  | n + 1, k :: ks, h, g => List.mem_cons_of_mem _ (List.mem_flatMap.mpr ⟨k, g k List.mem_cons_self, List.mem_map.mpr ⟨ks, in_allKs (by simpa using h) fun x hx => g x (List.mem_cons_of_mem _ hx), rfl⟩⟩)
/-- in the order of their texts -/
def Asc (ks : List Str) : Prop := ks = lettersL.filter fun k => decide (k ∈ ks)
theorem sub_asc {ks : List Str} (h : ks.Sublist lettersL) : Asc ks := by
  have a : ∀ ks ∈ allKs 4, ks.isSublist lettersL = true → ks = lettersL.filter fun k => decide (k ∈ ks) := by decide +kernel
  exact a ks (in_allKs h.length_le fun k hk => h.subset hk) (List.isSublist_iff_sublist.mpr h)
theorem sub_good {ks : List Str} (h : ks.Sublist lettersL) : GoodKs ks := ⟨h.length_le, h.nodup (by decide +kernel), fun k hk => h.subset hk⟩
theorem sorted_asc {ks : List Str} (g : GoodKs ks) (h : sortedS ks = true) : Asc ks := by
  have a : ∀ ks ∈ allKs 4, sortedS ks = true → ks.Nodup → ks = lettersL.filter fun k => decide (k ∈ ks) := by decide +kernel
  exact a ks (in_allKs g.1 g.2.2) h g.2.1
theorem GoodKs.perm {ks ys : List Str} (g : GoodKs ks) (p : ys.Perm ks) : GoodKs ys := ⟨by rw [p.length_eq]; exact g.1, p.nodup_iff.mpr g.2.1, fun k hk => g.2.2 k (p.mem_iff.mp hk)⟩
/-- the kinds that a plan keeps are just these -/
theorem sorted_one {ks ys : List Str} (g : GoodKs ks) (h : Asc ks) (s : sortedOf ks ys) : ys = ks := by
  have e := sorted_asc (g.perm s.1) s.2
  unfold Asc at h e
  rw [h, e]
  exact List.filter_congr fun k _ => decide_eq_decide.mpr s.1.mem_iff
theorem sorted_same {ks ms ys : List Str} (g : GoodKs ks) (h : Asc ms) (p : ks.Perm ms) (s : sortedOf ks ys) : ys = ms := sorted_one ((g.perm p.symm)) h ⟨s.1.trans p, s.2⟩
theorem asc_filter (g : Str → Bool) : Asc (lettersL.filter g) := by
  unfold Asc
  refine List.filter_congr fun k hk => ?_
  by_cases h : g k = true
  · rw [h, decide_eq_true (List.mem_filter.mpr ⟨hk, h⟩)]
  · rw [decide_eq_false fun z => h (List.mem_filter.mp z).2]
    simpa using h
/-- at p a drawn plan: kinds, rules -/
def PlanAt (H : Hp) (p : Addr) (ks : List Str) (rs : List RuleD) : Prop := ∃ (t L : Addr) (xs : List V), H p = some (.tup [.ref t, .ref L]) ∧ H t = some (.tup (ks.map V.str)) ∧ H L = some (.lst xs) ∧ DrawnAt H xs rs
theorem PlanAt.ex {H H' : Hp} {p : Addr} {ks : List Str} {rs : List RuleD} (e : Ex H H') (h : PlanAt H p ks rs) : PlanAt H' p ks rs := by
  obtain ⟨t, L, xs, h1, h2, h3, h4⟩ := h
  exact ⟨t, L, xs, e _ _ h1, e _ _ h2, e _ _ h3, h4.ex e⟩
theorem kp_of {H H' : Hp} {a b x : Addr} (k : Kp a b H H') (D : Deal H a b) {zs : List V} (h : H x = some (.tup zs)) : H' x = some (.tup zs) := by
  obtain ⟨ns, m, h1, h2, _⟩ := D.ex
  exact k x _ (fun z => by rw [z, h1] at h; cases h) (fun z => by rw [z, h2] at h; cases h) h
/-- .. of whose list S holds -/
def PlanFar (S : Addr → Prop) (H : Hp) (p : Addr) (ks : List Str) (rs : List RuleD) : Prop := ∃ (t L : Addr) (xs : List V), H p = some (.tup [.ref t, .ref L]) ∧ H t = some (.tup (ks.map V.str)) ∧ H L = some (.lst xs) ∧ DrawnAt H xs rs ∧ S L
abbrev Far (a b : Addr) : Addr → Prop := fun L => L ≠ a ∧ L ≠ b
section
variable {S : Addr → Prop} {H H' : Hp} {a b p : Addr} {ks : List Str} {rs : List RuleD}
theorem PlanFar.at_ (h : PlanFar S H p ks rs) : PlanAt H p ks rs := by
  obtain ⟨t, L, xs, h1, h2, h3, h4, _⟩ := h
  exact ⟨t, L, xs, h1, h2, h3, h4⟩
theorem PlanFar.imp {S2 : Addr → Prop} (h : PlanFar S H p ks rs) (i : ∀ L, S L → S2 L) : PlanFar S2 H p ks rs := by
  obtain ⟨t, L, xs, h1, h2, h3, h4, h5⟩ := h
  exact ⟨t, L, xs, h1, h2, h3, h4, i L h5⟩
theorem PlanFar.ex (e : Ex H H') (h : PlanFar S H p ks rs) : PlanFar S H' p ks rs := by
  obtain ⟨t, L, xs, h1, h2, h3, h4, h5⟩ := h
  exact ⟨t, L, xs, e _ _ h1, e _ _ h2, e _ _ h3, h4.ex e, h5⟩
theorem PlanFar.kpS (hS : ∀ L, S L → L ≠ a ∧ L ≠ b) (k : Kp a b H H') (D : Deal H a b) (h : PlanFar S H p ks rs) : PlanFar S H' p ks rs := by
  obtain ⟨t, L, xs, h1, h2, h3, h4, h5⟩ := h
  exact ⟨t, L, xs, kp_of k D h1, kp_of k D h2, k _ _ (hS L h5).1 (hS L h5).2 h3, h4.kp k D, h5⟩
theorem PlanFar.kp (k : Kp a b H H') (D : Deal H a b) (h : PlanFar (Far a b) H p ks rs) : PlanFar (Far a b) H' p ks rs := h.kpS (fun _ z => z) k D
theorem PlanFar.new (D : Deal H a b) (h : PlanFar (fun L => H L = none) H' p ks rs) : PlanFar (Far a b) H' p ks rs := h.imp fun L z => ⟨D.nea z, D.neb z⟩
theorem PlanFar.updL {D : Addr} {zs : List V} {o : HO} (hD : H D = some (.lst zs)) (hS : ∀ L, S L → L ≠ D) (h : PlanFar S H p ks rs) : PlanFar S (upd H D o) p ks rs := by
  obtain ⟨t, L, xs, h1, h2, h3, h4, h5⟩ := h
  refine ⟨t, L, xs, ?_, ?_, ?_, h4.updL hD, h5⟩
  · rw [upd_ne (ne_of h1 hD (fun z => nomatch z))]
    exact h1
  · rw [upd_ne (ne_of h2 hD (fun z => nomatch z))]
    exact h2
  · rw [upd_ne (hS L h5)]
    exact h3
end
def spWidePlan : Sp := fun vs H Q _ => ∃ (a b : Addr) (m : Nat), vs = [.ref a, .int (m : Int)] ∧ m ≤ 10 ∧ Deal H a b ∧ ∀ p ks rs H', ks.Sublist lettersL → rs.length ≤ m → Kp a b H H' → Deal H' a b → PlanFar (fun L => H L = none) H' p ks rs → Q (.ref p) H'
section
variable {P : Program} {w : World} {K : PySem.W.Frag} {mg : Str → Option Value} {base : Heap} {a_LETTERS a_LETTER_TESTS a_LETTER_DEEDS a_ANSWER_TESTS a_ANSWER_DEEDS CR CP : Addr} {tA tN : Tok}
abbrev sWidePlan : Stmt := topS 43
theorem scWidePlan : FnScope ["_law_deal_here", "_law_most", "_law_some", "_law_turn", "_law_one"] ["_law_deal_here", "_law_most"] (defScope sWidePlan) := ⟨rfl, rfl, rfl, by decide +kernel, rfl, by decide +kernel, by decide +kernel⟩
/-- the kinds that are drawn -/
theorem rd_kinds {a b : Addr} {H : Hp} {Q : VK} {a1 a2 a3 a4 : Option V} (hd : Deal H a b)
    (q : ∀ (L : Addr) (H' : Hp) (zs : List Str), zs.Sublist lettersL → Kp a b H H' → Deal H' a b → H' L = some (.lst (zs.map V.str)) → Q (.ref L) H') :
    tLc (iTup K (tTup (tCons (tC (.str "ask")) (tCons (tC (.str "day")) (tCons (tC (.str "off")) (tCons (tC (.str "stop")) tNil)))))) (gName 4) (tTest (tOp rEq (tCall spDraw [] E0 (tCons (tVar 0) (tCons (tC (.int 2)) tNil))) (tC (.int 0)))) (tVar 4) [4] [some (.ref a), a1, a2, a3, a4] H Q := by
  refine ⟨by show 4 ≤ sizeLine; decide, fun T nT => ⟨T, rfl, ⟨_, SqT.of upd_same⟩, fun L nL => ?_⟩⟩
  have nTa := hd.nea nT
  have nTb := hd.neb nT
  have hd1 := hd.new (o := .tup (lettersL.map V.str)) nT
  have nLa := hd1.nea nL
  have nLb := hd1.neb nL
  have nTL : T ≠ L := fun z => by
    rw [z] at nL
    rw [upd_same] at nL
    cases nL
  have nLH : H L = none := by
    rw [upd_ne nTL.symm] at nL
    exact nL
  refine lc_tup (xs := lettersL.map V.str) (fun i H' => Kp a b H H' ∧ Deal H' a b ∧ H' T = some (.tup (lettersL.map V.str)) ∧ ∃ zs, zs.Sublist (lettersL.take i) ∧ H' L = some (.lst (zs.map V.str)))
    ⟨(Kp.new nT).trans (Kp.new nL), hd1.new nL, by rw [upd_ne nTL]; exact upd_same, [], List.nil_sublist _, upd_same⟩ (fun i H' _ h => SqT.of h.2.2.1) ?_ ?_
  · rintro i x H' hx ⟨kp, D, hT, zs, sl, hL⟩
    obtain ⟨y, rfl, hy⟩ := strs_at hx
    have zl : zs.length < sizeLine := by
      have h1 := sl.length_le
      rw [List.length_take] at h1
      have h2 : lettersL.length = 4 := rfl
      exact Nat.lt_of_le_of_lt (Nat.le_trans h1 (Nat.min_le_right _ _)) (by rw [h2]; decide)
    have tk : lettersL.take (i + 1) = lettersL.take i ++ [y] := by rw [List.take_add_one, hy]; rfl
    refine ⟨rfl, _, rfl, a, b, 2, rfl, D, by decide, by decide, fun r H2 _ _ kp2 D2 => ⟨rfl, _, rfl, ?_⟩⟩
    have hL2 := kp2 _ _ nLa nLb hL
    have hT2 := kp2 _ _ nTa nTb hT
    refine ite2 (fun _ => ⟨_, rfl, _, hL2, by rw [List.length_map]; exact zl, ?_⟩) (fun _ => ⟨kp.trans kp2, D2, hT2, zs, by rw [tk]; exact sl.trans (List.sublist_append_left _ _), hL2⟩)
    refine ⟨fun c o h1 h2 h3 => ?_, ?_, by rw [upd_ne nTL]; exact hT2, zs ++ [y], by rw [tk]; exact sl.append (List.Sublist.refl _), by rw [upd_same, List.map_append]; rfl⟩
    · rw [upd_ne (ne_of_none h3 nLH)]
      exact (kp.trans kp2) c o h1 h2 h3
    · obtain ⟨ns, m, d1, d2, d3⟩ := D2.ex
      exact ⟨ns, m, by rw [upd_ne nLa.symm]; exact d1, by rw [upd_ne nLb.symm]; exact d2, d3⟩
  · rintro H' ⟨kp, D, hT, zs, sl, hL⟩
    rw [List.length_map, List.take_length] at sl
    exact q L H' zs sl kp D hL
/-- the rules that are drawn, at most m of them -/
theorem rd_rules {a b : Addr} {H : Hp} {Q : VK} {m j : Nat} {σ : L2.St} {wi : TI} (h0 : ∀ x, ((wipe σ [j]).set j (some x))[0]? = some (some (.ref a))) (hw : ∀ x, wipe ((wipe σ [j]).set j (some x)) [j] = wipe σ [j]) (hm : m ≤ 10)
    (hwi : ∀ R : It → Hp → Prop, (∀ (H1 : Hp) (n : Nat), Kp a b H H1 → Deal H1 a b → n ≤ m → R (Itr 0 n) H1) → wi σ H R)
    (q : ∀ (L : Addr) (H' : Hp) (xs : List V) (rs : List RuleD), Kp a b H H' → Deal H' a b → H' L = some (.lst xs) → rs.length ≤ m → DrawnAt H' xs rs → H L = none → Q (.ref L) H') :
    tLc wi (gName j) tYes (tCall spWideRule [] E0 (tCons (tVar 0) tNil)) [j] σ H Q := by
  refine hwi _ fun H1 n k1 hd hn L hL => ?_
  have na := hd.nea hL
  have nb := hd.neb hL
  have up : ∀ {H' : Hp} {o : HO}, Deal H' a b → Deal (upd H' L o) a b := fun {H' o} ⟨ns, m, ha, hb, hd3⟩ => ⟨ns, m, by rw [upd_ne na.symm]; exact ha, by rw [upd_ne nb.symm]; exact hb, hd3⟩
  have kp : ∀ {H' : Hp} {o : HO}, Kp a b H1 H' → Kp a b H1 (upd H' L o) := fun {H' o} k x u h1 h2 h3 => by
    rw [upd_ne (ne_of_none h3 hL)]
    exact k x u h1 h2 h3
  refine lc_range (lo := 0) (n := n) (fun i H' => Kp a b H1 H' ∧ Deal H' a b ∧ ∃ xs rs, H' L = some (.lst xs) ∧ rs.length = i ∧ DrawnAt H' xs rs) ⟨kp (Kp.refl _ _ _), up hd, [], [], upd_same, rfl, .nil⟩ ?_ ?_
  · rintro i H' hi ⟨k, d, xs, rs, h3, h4, h5⟩
    refine ⟨hw _, ?_⟩
    simp only [tYes, eq_self, if_true]
    refine ⟨_, h0 _, a, b, rfl, d, fun p r H4 ok k4 d4 at4 => ?_⟩
    have h3' := k4 _ _ na nb h3
    have lx : xs.length = i := by rw [paired_len h5]; exact h4
    exact ⟨xs, h3', by rw [lx]; exact Nat.lt_of_lt_of_le hi (Nat.le_trans (Nat.le_trans hn hm) (by decide)), kp (k.trans k4), up d4, _, rs ++ [r], upd_same, by rw [List.length_append, h4]; rfl, paired_snoc ((h5.kp k4 d).updL h3') ⟨p, rfl, at4.updL h3', ok⟩⟩
  · rintro H' ⟨k, d, xs, rs, h3, h4, h5⟩
    exact q L H' xs rs (k1.trans k) d h3 (by omega) h5 (Kp.none k1 hd hL)
theorem ok_wide_plan {f fD fW : Addr} {fd fdD fdW : FuncData} (F : Fun K "_law_wide_plan" "_law_wide_plan" sWidePlan f fd) (T : TxB mg) (D_draw : Df K mg "_law_draw" sDraw ["_law_deal_here", "_law_many"] fD fdD) (D_wide_rule : Df K mg "_law_wide_rule" sWideRule ["_law_deal_here"] fW fdW)
    (G_wide_rule : FnOk P w K mg base CX0 3 fW fdW ["_law_deal_here"] spWideRule) : FnOk P w K mg base CX0 4 f fd ["_law_deal_here", "_law_most"] spWidePlan := by
  have G_draw : FnOk P w K mg base CX0 1 fD fdD ["_law_deal_here", "_law_many"] spDraw := ok_draw D_draw.F T.n_int
  refine F.ok scWidePlan (fun vs H Q E h => ?_) (fun cdv A outer s H vs Q E hr h => ?_)
  · obtain ⟨a, b, m, rfl, _⟩ := h
    rfl
  · obtain ⟨a, b, m, rfl, hm, hd, q⟩ := h
    refine ⟨_, pss_cons (ps_setLc (i := 2) (own := [("_law_one", 4)]) (g := gName 4) (tt := tTest (tOp rEq (tCall spDraw [] E0 (tCons (tVar 0) (tCons (tC (.int 2)) tNil))) (tC (.int 0)))) rfl scWidePlan.nd rfl rfl (sw_true rfl rfl rfl (by decide +kernel)) (pi_tup (pe_tup (pa_cons pe_str (pa_cons pe_str (pa_cons pe_str (pa_cons pe_str pa_nil)))))) (blkOk_by (own := [("_law_one", 4)]) (N := ["_law_deal_here", "_law_most", "_law_some", "_law_turn", "_law_one"]) (sc := defScope sWidePlan) (by decide +kernel)) (fun _ _ _ _ _ => (pg_name (i := 4) scWidePlan.nd rfl (Or.inl rfl))) (fun _ _ _ _ _ => (pts_one (pt_cmpR op_eq (pe_call (E := E0) G_draw (hr.mono (by decide)) rfl D_draw.g D_draw.F.kp D_draw.b .nil pass0 (pa_cons (pv 0) (pa_cons pe_int pa_nil))) pe_int (nomark _)))) (fun _ _ _ _ _ => (pv 4)))
      (pss_one (ps_ret (pe_tup (pa_cons (pe_callTy call_tuple_of (by rfl) T.n_tuple (by decide +kernel) (pa_cons (pv 2) pa_nil)) (pa_cons (pe_lc (own := [("_law_turn", 3)]) (g := gName 3) (tt := tYes) rfl scWidePlan.nd (pi_range1 rfl T.n_range (pa_cons (pe_call G_draw (hr.mono (by decide)) rfl D_draw.g D_draw.F.kp D_draw.b .nil pass0 (pa_cons (pv 0) (pa_cons (pe_op op_add (pv 1) pe_int) pa_nil))) pa_nil)) (blkOk_by (own := [("_law_turn", 3)]) (N := ["_law_deal_here", "_law_most", "_law_some", "_law_turn", "_law_one"]) (sc := defScope sWidePlan) (by decide +kernel)) (fun _ _ _ _ _ => (pg_name (i := 3) scWidePlan.nd rfl (Or.inl rfl))) (fun _ _ _ _ _ => pts_nil) (fun _ _ _ _ _ => (pe_call G_wide_rule (hr.mono (by decide)) rfl D_wide_rule.g D_wide_rule.F.kp D_wide_rule.b .nil pass0 (pa_cons (pv 0) pa_nil)))) pa_nil))))), ?_⟩
    refine q_put (rd_kinds hd fun L H1 zs sl k1 d1 hL => ?_)
    refine ⟨_, rfl, L, _, rfl, .inl ⟨SqL.of hL, fun t nt => ?_⟩⟩
    have k2 : Kp a b H (upd H1 t (.tup (zs.map V.str))) := k1.trans (Kp.new nt)
    have d2 := d1.new (o := .tup (zs.map V.str)) nt
    refine rd_rules (a := a) (b := b) (m := m) (fun _ => rfl) (fun _ => rfl) hm (fun R hR => ?_) (fun L2 H3 xs rs k3 d3 hL2 hl hD f1 => ?_)
    · refine ⟨_, rfl, _, rfl, _, _, rfl, rfl, a, b, (m : Int) + 1, rfl, d2, by omega, by omega, fun r H3 r0 r1 kp D3 => ⟨r, rfl, by omega, by omega, ?_⟩⟩
      exact hR H3 r.toNat kp D3 (by omega)
    · refine ⟨by show 2 ≤ sizeLine; decide, fun p np => ?_⟩
      have ht : H3 t = some (.tup (zs.map V.str)) := kp_of k3 d2 upd_same
      have ep : Ex H3 (upd H3 p (.tup [.ref t, .ref L2])) := Ex.new np
      exact q p zs rs _ sl hl ((k2.trans k3).trans (Kp.new np)) (d3.new np) ⟨t, L2, xs, upd_same, ep _ _ ht, ep _ _ hL2, hD.ex ep, Kp.none k2 d2 f1⟩
/-! #### the text of a drawn plan -/
abbrev sText : Stmt := topS 41
theorem scText : FnScope ["_law_drawn", "_law_rule"] ["_law_drawn"] (defScope sText) := ⟨rfl, rfl, rfl, by decide +kernel, rfl, by decide +kernel, by decide +kernel⟩
def spText (K : PySem.W.Frag) : Sp := fun vs H Q _ => ∃ (p : Addr) (ks : List Str) (rs : List RuleD), vs = [.ref p] ∧ PlanAt H p ks rs ∧ ks.length ≤ 4 ∧ (∀ k ∈ ks, k ∈ lettersL) ∧ rs.length ≤ 10 ∧ ∀ H', Ex H H' → Q (.str (planText ks rs)) H'
theorem el_drawnL {σ : L2.St} {H : Hp} {tl te : TE} {a : Addr} {xs : List V} {rs : List RuleD} {j : Nat} {vs : List Nat} (g : RuleD → V) (h : Ev tl σ H (.ref a)) (hx : SqL K H a xs) (hR : DrawnAt H xs rs) (hz : xs.length ≤ 40000) (hw : ∀ x, wipe ((wipe σ vs).set j (some x)) vs = wipe σ vs)
    (he : ∀ p r H1, Ex H H1 → r ∈ rs → r.Ok → RuleAt H1 p r → Ev te ((wipe σ vs).set j (some (.ref p))) H1 (g r)) : EvL (tLc (iList K tl) (gName j) tYes te vs) σ H (rs.map g) := by
  have e : (List.range xs.length).map (fun i => ((rs[i]?).map g).getD .non) = rs.map g := range_at rs (paired_len hR) _ g fun i r hi => by rw [hi]; rfl
  rw [← e, ← given_all]
  refine Evl.el_lcL (fun _ => true) _ h hx hz hw (fun _ _ _ _ _ => et_yes) (fun i x H1 e1 hi _ => ?_)
  obtain ⟨p, r, rfl, hr, ho, ok⟩ := hR.at_ hi
  show Ev te _ H1 (((rs[i]?).map g).getD .non)
  rw [hr]
  exact he p r H1 e1 (List.mem_of_getElem? hr) ok (ho.same (ex_same e1))
theorem ev_ruleText {σ : L2.St} {H : Hp} {ta : TE} {p : Addr} {r : RuleD} (h : Ev ta σ H (.ref p)) (hp : RuleAt H p r) (g : r.Good) : Ev (tCall (spRuleText K) [] E0 (tCons ta tNil)) σ H (.str (ruleText r)) := fun H1 e1 Q q =>
  h H1 e1 _ fun H2 e2 => by
    obtain ⟨t, d, h1, h2, h3⟩ := hp.same (ex_same (e1.trans e2))
    exact ⟨p, t, d, r, rfl, Evl.st_of h1, Evl.st_of h2, Evl.st_of h3, g, fun H3 e3 => q H3 (e2.trans e3)⟩
theorem DrawnAt.good {H : Hp} {r : RuleD} : ∀ {xs : List V} {rs : List RuleD}, DrawnAt H xs rs → r ∈ rs → r.Good
  | _, _, .nil, h => nomatch h
  | _, _, .cons ⟨_, _, _, ok⟩ t, h => by
    rcases List.mem_cons.mp h with rfl | h
    · exact ok.good
    · exact DrawnAt.good t h
/-- a list and a list put together -/
theorem ev_catL {σ : L2.St} {H : Hp} {ta tb : TE} {xs ys : List V} (ha : EvL ta σ H xs) (hb : ∀ H1, Ex H H1 → EvL tb σ H1 ys) (hz : xs.length + ys.length ≤ sizeLine) : EvP (tOp rCat ta tb) σ H (fun p H2 => H2 p = some (.lst (xs ++ ys))) := fun H1 e1 Q q =>
  ha H1 e1 _ fun p H2 np e2 hp => hb H2 (e1.trans e2) H2 (Ex.refl _) _ fun u H3 nu e3 hu => ⟨p, u, xs, ys, rfl, rfl, e3 _ _ hp, hu, hz, fun l nl => q l _ ((e2.trans e3).trans (Ex.new nl)) upd_same⟩
theorem ok_text {f fR : Addr} {fd fdR : FuncData} (F : Fun K "_law_text" "_law_text" sText f fd) (D_rule_text : Df K mg "_law_rule_text" sRuleText ["_law_rule"] fR fdR) : FnOk P w K mg base CX0 2 f fd ["_law_drawn"] (spText K) := by
  have G_rule_text : FnOk P w K mg base CX0 1 fR fdR ["_law_rule"] (spRuleText K) := ok_rule_text D_rule_text.F
  refine F.ok scText (fun vs H Q E h => ?_) (fun cdv A outer s H vs Q E hr h => ?_)
  · obtain ⟨p, ks, rs, rfl, _⟩ := h
    rfl
  · obtain ⟨p, ks, rs, rfl, ⟨t, L, xs, h1, h2, h3, h4⟩, hl, hk, hz, q⟩ := h
    refine ⟨_, pss_one (ps_ret (pe_join pe_str (pe_op op_cat (pe_lst (pa_cons (pe_join pe_str (pe_op op_catA (pe_tup (pa_cons pe_str pa_nil)) (pe_ix ix_tup (pv 0) pe_int (fun _ _ => rfl)))) pa_nil)) (pe_lc (own := [("_law_rule", 1)]) (g := gName 1) (tt := tYes) rfl scText.nd (pi_list (pe_ix ix_tup (pv 0) pe_int (fun _ _ => rfl))) (blkOk_by (own := [("_law_rule", 1)]) (N := ["_law_drawn", "_law_rule"]) (sc := defScope sText) (by decide +kernel)) (fun _ _ _ _ _ => (pg_name (i := 1) scText.nd rfl (Or.inl rfl))) (fun _ _ _ _ _ => pts_nil) (fun _ _ _ _ _ => (pe_call (E := E0) G_rule_text (hr.mono (by decide)) rfl D_rule_text.g D_rule_text.F.kp D_rule_text.b .nil pass0 (pa_cons (pv 1) pa_nil))))))), ?_⟩
    have zl := lines_len hl hk (fun r hr => (h4.good hr)) hz
    have el : (firstLine ks :: rs.map ruleText).map V.str = [V.str (firstLine ks)] ++ rs.map (fun r => V.str (ruleText r)) := by
      rw [List.map_cons, List.map_map]
      rfl
    have lx : xs.length ≤ 10 := by rw [paired_len h4]; exact hz
    refine Evl.s_ret (v := .str (planText ks rs)) (ev_joinP (K := K) (l := firstLine ks :: rs.map ruleText) Evl.ev_c ?_ (Nat.le_trans zl (by decide))) fun H1 e1 => q H1 e1
    rw [el]
    refine (ev_catL (xs := [V.str (firstLine ks)]) (ys := rs.map (fun r => V.str (ruleText r))) (Evl.el_lst (Evl.ea_cons (ev_joinP (K := K) (l := ("raise" : Str) :: ks) Evl.ev_c ?_ (raises_len hl hk).1) Evl.ea_nil) (by show 1 ≤ 100000; decide)) (fun H1 e1 => ?_) ?_).imp fun _ _ h => .inl (Evl.sq_of h)
    · refine (ev_catA (K := K) (xs := [V.str "raise"]) (ys := ks.map V.str) (EvP.tup (Evl.eu_tup (Evl.ea_cons Evl.ev_c Evl.ea_nil) (by show 1 ≤ 100000; decide)) fun _ _ _ h => Evl.st_of h) (EvP.of (p := t) (ev_ixT (j := 0) (Evl.ev_var rfl) Evl.ev_c (Evl.st_of h1) rfl) fun H2 e2 => Evl.st_of (e2 _ _ h2)) ?_).imp fun _ _ h => .inr h
      rw [List.length_map]
      exact size_of (by simp only [List.length_cons, List.length_nil]; omega)
    · exact el_drawnL (fun r => V.str (ruleText r)) (ev_ixT (j := 1) (Evl.ev_var rfl) Evl.ev_c (Evl.st_of (e1 _ _ h1)) rfl) (Evl.sq_of (e1 _ _ h3)) (h4.ex e1) (by omega) (fun _ => rfl) fun p r H2 e2 hr ok at2 => ev_ruleText (Evl.ev_var rfl) at2 ok.good
    · rw [List.length_map]
      exact size_of (by simp only [List.length_cons, List.length_nil]; omega)
end
end Ov

namespace Ov
open PySem PySem.Spec PyProof.Rows L2
open Evl (pss_cut tCut Ex Ev EvT EvL EvA EvU)
/-! ### expressions over plans -/
/-- at p a Plan of these kinds and rules -/
def PlanIs (K : PySem.W.Frag) (CR CP : Addr) (ks : List Str) (rs : List RuleD) (p : Addr) (H : Hp) : Prop := ∃ xs, PlanObj K CP H p ks xs ∧ RulesAt K CR H xs rs
structure PlanOk (ks : List Str) (rs : List RuleD) : Prop where
  sl : ks.Sublist lettersL
  g : ∀ r ∈ rs, r.Good
  hz : rs.length ≤ 10
theorem letters_plain : Plain lettersL := by
  have a : ∀ x ∈ lettersL, PyData.canLay0 (.str x) = true := by decide +kernel
  exact a
theorem sub_plain {ks : List Str} (h : ks.Sublist lettersL) : Plain ks := fun x hx => letters_plain x (h.subset hx)
theorem pf_other {a b : Addr} {m : Str} (h : m ≠ "rules" ∧ m ≠ "raises") : (pf a b).lookup m = none := by
  unfold pf
  rw [lookup_putF, if_neg h.1, lookup_putF, if_neg h.2]
  rfl
section
variable {K : PySem.W.Frag} {CR CP df1 : Addr} {σ : L2.St} {H : Hp} {ta tb : TE} {ks ms : List Str} {rs us : List RuleD}
theorem PlanIs.ex {p : Addr} {H' : Hp} (h : PlanIs K CR CP ks rs p H) (e : Ex H H') : PlanIs K CR CP ks rs p H' := by
  obtain ⟨xs, h1, h2⟩ := h
  exact ⟨xs, h1.ex e, h2.ex e⟩
theorem sqt_kp {a b t : Addr} {H' : Hp} {xs : List V} (k : Kp a b H H') (D : Deal H a b) (h : SqT K H t xs) : SqT K H' t xs := by
  obtain ⟨ns, m, h1, h2, _⟩ := D.ex
  rcases h with (h | ⟨u, h⟩) | h
  · exact .inl (.inl (k _ _ (ne_of h h1 fun z => nomatch z) (ne_of h h2 fun z => nomatch z) h))
  · exact .inl (.inr ⟨u, k _ _ (ne_of h h1 fun z => nomatch z) (ne_of h h2 fun z => nomatch z) h⟩)
  · exact .inr h
theorem RuleObj.kp {a b p : Addr} {H' : Hp} {r : RuleD} (k : Kp a b H H') (D : Deal H a b) (h : RuleObj K CR H p r) : RuleObj K CR H' p r := by
  obtain ⟨dx, t, d, h3, h4, h5⟩ := h
  obtain ⟨ns, m, h1, h2, _⟩ := id D.ex
  exact ⟨dx, t, d, k _ _ (ne_of h3 h1 fun z => nomatch z) (ne_of h3 h2 fun z => nomatch z) h3, sqt_kp k D h4, sqt_kp k D h5⟩
theorem RulesAt.kp {a b : Addr} {H' : Hp} (k : Kp a b H H') (D : Deal H a b) : ∀ {xs : List V} {rs : List RuleD}, RulesAt K CR H xs rs → RulesAt K CR H' xs rs
  | _, _, .nil => .nil
  | _, _, .cons ⟨p, h1, h2⟩ t => .cons ⟨p, h1, h2.kp k D⟩ (RulesAt.kp k D t)
theorem PlanIs.kp {a b p : Addr} {H' : Hp} (k : Kp a b H H') (D : Deal H a b) (h : PlanIs K CR CP ks rs p H) : PlanIs K CR CP ks rs p H' := by
  obtain ⟨xs, ⟨dx, t, d, h3, h4, h5⟩, h6⟩ := h
  obtain ⟨ns, m, h1, h2, _⟩ := id D.ex
  exact ⟨xs, ⟨dx, t, d, k _ _ (ne_of h3 h1 fun z => nomatch z) (ne_of h3 h2 fun z => nomatch z) h3, sqt_kp k D h4, sqt_kp k D h5⟩, h6.kp k D⟩
/-- != of two plans that are alike -/
theorem ev_neP (ha : EvP ta σ H (PlanIs K CR CP ks rs)) (hb : EvP tb σ H (PlanIs K CR CP ks rs)) (o : PlanOk ks rs) : Ev (tOp (rNeI CP (spPlanEq K CR CP) E0) ta tb) σ H (.bl false) := fun H1 e1 Q q =>
  ha H1 e1 _ fun p H2 e2 hp => hb H2 (e1.trans e2) _ fun p2 H3 e3 hp2 => by
    obtain ⟨xs, h1, h2⟩ := hp.ex e3
    obtain ⟨ys, h3, h4⟩ := id hp2
    obtain ⟨dx, a, b, h5, _⟩ := id h1
    obtain ⟨dy, c, d, h6, _⟩ := id h3
    exact ⟨p, p2, dx, dy, _, _, rfl, rfl, h5, h6, p, p2, ks, xs, ys, rs, rfl, h1, h3, sub_plain o.sl, h2, h4, o.g, fun H4 e4 => ⟨_, rfl, q H4 ((e2.trans e3).trans e4)⟩⟩
theorem ev_strP (ha : EvP ta σ H (PlanIs K CR CP ks rs)) (o : PlanOk ks rs) : Ev (tCB (rStrI CP (spPlanStr K CR CP) E0) (tCons ta tNil)) σ H (.str (planText ks rs)) := fun H1 e1 Q q =>
  ha H1 e1 _ fun p H2 e2 hp => by
    obtain ⟨xs, h1, h2⟩ := hp
    obtain ⟨dx, a, b, h5, _⟩ := id h1
    have gk := sub_good o.sl
    exact ⟨p, dx, _, rfl, h5, p, ks, xs, rs, rfl, h1, h2, gk.1, gk.2.2, o.g, o.hz, fun H4 e4 => ⟨_, rfl, q H4 (e2.trans e4)⟩⟩
theorem ev_lenP (ha : EvP ta σ H (PlanIs K CR CP ks rs)) (hz : rs.length ≤ 10) : Ev (tCB (rLenI CP (spPlanLen K CP) E0) (tCons ta tNil)) σ H (.int (rs.length : Int)) := fun H1 e1 Q q =>
  ha H1 e1 _ fun p H2 e2 hp => by
    obtain ⟨xs, h1, h2⟩ := hp
    obtain ⟨dx, a, b, h5, _⟩ := id h1
    have l := paired_len h2
    refine ⟨p, dx, _, rfl, h5, p, ks, xs, rfl, h1, xs.length, rfl, by omega, ?_⟩
    rw [l]
    exact q H2 e2
/-- Plan.read(text) -/
theorem evP_read (ha : Ev ta σ H (.str (planText ks rs))) (o : PlanOk ks rs) : EvP (ClX.tCMeth CP (spPlanReadG K CR CP sortedOf) E0 (tC (V.ref CP)) (tCons ta tNil)) σ H (PlanIs K CR CP ks rs) := fun H1 e1 Q q =>
  ⟨rfl, ha H1 e1 _ fun H2 e2 => by
    have gk := sub_good o.sl
    have hz := o.hz
    refine ⟨planText ks rs, firstLine ks, ks, rs, rfl, lines_read gk.2.2 o.g, first_read gk.2.2, Nat.le_trans (plan_len gk.1 gk.2.2 o.g o.hz) (by decide), Nat.le_trans (raises_len gk.1 gk.2.2).2 (by decide), by omega, o.g, gk.1, gk.2.1, gk.2.2, fun p H3 ys xs so e3 po ro => ?_⟩
    rw [sorted_one gk (sub_asc o.sl) so] at po
    exact q p H3 (e2.trans e3) ⟨xs, po, ro⟩⟩
/-- the kinds that raise, the rules of a plan -/
theorem evP_raises (TP : Cls K CP) (nR : NoAttr K CP "raises") {p : Addr} (ha : Ev ta σ H (.ref p)) (hp : PlanIs K CR CP ks rs p H) : EvP (tFld K ta "raises") σ H (fun t H2 => SqT K H2 t (ks.map V.str)) := by
  obtain ⟨xs, ⟨dx, a, b, h1, h2, h3⟩, h4⟩ := hp
  exact EvP.of (ev_fld ha h1 TP nR (pf_raises _ _)) fun H1 e1 => Evl.ex_t e1 h2
def RulesIn (K : PySem.W.Frag) (CR : Addr) (rs : List RuleD) (b : Addr) (H : Hp) : Prop := ∃ xs, (SqL K H b xs ∨ SqT K H b xs) ∧ RulesAt K CR H xs rs
theorem evP_rules (TP : Cls K CP) (nU : NoAttr K CP "rules") {p : Addr} (ha : Ev ta σ H (.ref p)) (hp : PlanIs K CR CP ks rs p H) : EvP (tFld K ta "rules") σ H (fun t H2 => ∃ xs, SqT K H2 t xs ∧ RulesAt K CR H2 xs rs) := by
  obtain ⟨xs, ⟨dx, a, b, h1, h2, h3⟩, h4⟩ := hp
  exact EvP.of (ev_fld ha h1 TP nU (pf_rules _ _)) fun H1 e1 => ⟨xs, Evl.ex_t e1 h3, h4.ex e1⟩
theorem evP_list {tl : TE} (h : EvP tl σ H (fun t H2 => ∃ xs, SqT K H2 t xs ∧ RulesAt K CR H2 xs rs)) : EvP (tCB (rListOf K) (tCons tl tNil)) σ H (RulesIn K CR rs) := fun H1 e1 Q q =>
  h H1 e1 _ fun t H2 e2 ⟨xs, h1, h2⟩ => ⟨t, xs, rfl, .inr h1, fun l nl => q l _ (e2.trans (Ex.new nl)) ⟨xs, .inl (Evl.sq_of upd_same), h2.ex (Ex.new nl)⟩⟩
/-- Plan(kinds, rules), the kinds in any order -/
theorem evP_make (sl : ks.Sublist lettersL) (pm : ms.Perm ks) (hz : rs.length ≤ 1000) (ha : EvP ta σ H (fun a H2 => SqL K H2 a (ms.map V.str) ∨ SqT K H2 a (ms.map V.str))) (hb : EvP tb σ H (RulesIn K CR rs)) : EvP (tMake CP (spPlanInitG K CR CP sortedOf) [] E0 (tCons ta (tCons tb tNil))) σ H (PlanIs K CR CP ks rs) := fun H1 e1 Q q =>
  ha H1 e1 _ fun a H2 e2 sa => hb H2 (e1.trans e2) _ fun b H3 e3 ⟨xs, sb, R⟩ => by
    refine run_mkP (exB e3 sa) ((sub_good sl).perm pm) sb R (by rw [paired_len R]; exact hz) (Ex.refl H3) fun p H4 ys so e4 po ro => ?_
    rw [sorted_same ((sub_good sl).perm pm) (sub_asc sl) pm so] at po
    exact q p H4 ((e2.trans e3).trans e4) ⟨xs, po, ro⟩
/-- Plan(kinds) -/
theorem evP_bare (sl : ks.Sublist lettersL) (dfT : ∀ H, SqT K H df1 []) (ha : EvP ta σ H (fun a H2 => SqT K H2 a (ks.map V.str))) : EvP (tMake CP (spPlanInitG K CR CP sortedOf) [V.ref df1] E0 (tCons ta tNil)) σ H (PlanIs K CR CP ks []) := fun H1 e1 Q q =>
  ha H1 e1 _ fun a H2 e2 sa => by
    refine run_mkP (.inr sa) (sub_good sl) (.inr (dfT _)) .nil (Nat.zero_le _) (Ex.refl H2) fun p H4 ys so e4 po ro => ?_
    rw [sorted_one (sub_good sl) (sub_asc sl) so] at po
    exact q p H4 (e2.trans e4) ⟨[], po, ro⟩
/-- Plan(rules=[one rule]) -/
theorem evP_kw {te : TE} {r : RuleD} (dfT : ∀ H, SqT K H df1 []) (h : EvP te σ H (fun p H2 => RuleObj K CR H2 p r)) : EvP (tMakeK CP 0 (["rules"] : List Str).length (spPlanInitG K CR CP sortedOf) (fun vs zs => vs ++ V.ref df1 :: zs) E0 tNil (tCons (tLst (tCons te tNil)) tNil)) σ H (PlanIs K CR CP [] [r]) := fun H1 e1 Q q =>
  h H1 e1 _ fun u H2 e2 hu => ⟨by show 1 ≤ sizeLine; decide, fun L nL => ⟨rfl, rfl, by
    have e3 : Ex H2 (upd H2 L (.lst [V.ref u])) := Ex.new nL
    refine run_mkP (ks := []) (rs := [r]) (.inr (dfT _)) ⟨Nat.zero_le _, List.Pairwise.nil, fun k hk => nomatch hk⟩ (.inl (Evl.sq_of upd_same)) (.cons ⟨u, rfl, hu.ex e3⟩ .nil) (by show 1 ≤ 1000; decide) (Ex.refl _) fun p H4 ys so e4 po ro => ?_
    have ey : ys = [] := List.perm_nil.mp so.1
    rw [ey] at po
    exact q p H4 ((e2.trans e3).trans e4) ⟨_, po, ro⟩⟩⟩
/-- p + q -/
theorem evP_add (sl : ks.Sublist lettersL) (ha : EvP ta σ H (PlanIs K CR CP ks rs)) (hb : EvP tb σ H (PlanIs K CR CP [] us)) (hz : rs.length + us.length ≤ 900) : EvP (tOp (rAddI CP (spPlanAdd K CR CP) E0) ta tb) σ H (PlanIs K CR CP ks (rs ++ us)) := fun H1 e1 Q q =>
  ha H1 e1 _ fun p H2 e2 hp => hb H2 (e1.trans e2) _ fun p2 H3 e3 hp2 => by
    obtain ⟨xs, h1, h2⟩ := hp.ex e3
    obtain ⟨ys, h3, h4⟩ := id hp2
    obtain ⟨dx, a, b, h5, _⟩ := id h1
    obtain ⟨dy, c, d, h6, _⟩ := id h3
    refine ⟨p, p2, dx, dy, _, _, rfl, rfl, h5, h6, p, p2, ks, [], xs, ys, rs, us, rfl, h1, h3, h2, h4, by rw [paired_len h2, paired_len h4]; exact hz, fun o H4 zs so e4 po ro => ⟨o, rfl, ?_⟩⟩
    have eb : bothKs ks [] = ks := by
      have e := sub_asc sl
      unfold Asc at e
      rw [e]
      unfold bothKs
      refine List.filter_congr fun k _ => ?_
      rw [← e]
      simp
    rw [eb] at so
    rw [sorted_one (sub_good sl) (sub_asc sl) so] at po
    exact q o H4 ((e2.trans e3).trans e4) ⟨_, po, ro⟩
/-- one rule of a plan -/
theorem evP_item {ti : TE} {p : Addr} {i : Nat} {r : RuleD} (ha : Ev ta σ H (.ref p)) (hp : PlanIs K CR CP ks rs p H) (hi : Ev ti σ H (.int (i : Int))) (hr : rs[i]? = some r) : EvP (tOp (rIxI CP (spPlanItem K CP) E0) ta ti) σ H (fun p H2 => RuleObj K CR H2 p r) := fun H1 e1 Q q =>
  ha H1 e1 _ fun H2 e2 => hi H2 (e1.trans e2) _ fun H3 e3 => by
    obtain ⟨xs, h1, h2⟩ := hp.ex ((e1.trans e2).trans e3)
    obtain ⟨dx, a, b, h5, _⟩ := id h1
    have hl : i < xs.length := by rw [paired_len h2]; exact (List.getElem?_eq_some_iff.mp hr).1
    obtain ⟨u, r2, hu, hr2, ho⟩ := h2.at_ (List.getElem?_eq_getElem hl)
    rw [hr] at hr2
    obtain rfl := Option.some.inj hr2
    refine ⟨p, dx, _, rfl, h5, p, ks, xs, i, _, rfl, h1, List.getElem?_eq_getElem hl, ?_⟩
    rw [hu]
    exact q u H3 (e2.trans e3) ho
/-- two new lists of the same texts are not unequal -/
theorem ev_neSL {l : List Str} (ol : Plain l) (ha : EvL ta σ H (l.map V.str)) (hb : EvL tb σ H (l.map V.str)) : Ev (tOp (rNeD K) ta tb) σ H (.bl false) := Evl.ev_opLL ha hb fun p q H1 hp hq _ => fun H2 e2 Q k =>
  ⟨_, _, .lst (Evl.sq_of (e2 _ _ hp)) (dp_strs l), .lst (Evl.sq_of (e2 _ _ hq)) (dp_strs l), shaped_strsL l ol, shaped_strsL l ol, by
    rw [eqv_strsL, decide_eq_true rfl]
    exact k H2 (Ex.refl _)⟩
/-- Rule.read(str(rule)) -/
theorem evP_ruleRead {r : RuleD} (ha : Ev ta σ H (.str (ruleText r))) (g : r.Good) : EvP (ClX.tCMeth CR (spRuleReadG K CR) E0 (tC (V.ref CR)) (tCons ta tNil)) σ H (fun p H2 => RuleObj K CR H2 p r) := fun H1 e1 Q q =>
  ⟨rfl, ha H1 e1 _ fun H2 e2 => ⟨r, rfl, g, fun p H3 e3 ro => q p H3 (e2.trans e3) ro⟩⟩
end
end Ov

namespace Ov
open PySem PySem.Spec PyProof.Rows L2
open Evl (pss_cut tCut Ex Ev EvT EvL EvA EvU)
/-! ### _law_made -/
section
variable {P : Program} {w : World} {K : PySem.W.Frag} {mg : Str → Option Value} {base : Heap} {CR CP : Addr}
abbrev sMade : Stmt := topS 44
theorem scMade : FnScope ["_law_drawn"] ["_law_drawn"] (defScope sMade) := ⟨rfl, rfl, rfl, by decide +kernel, rfl, by decide +kernel, by decide +kernel⟩
def spMade (K : PySem.W.Frag) (CR CP : Addr) : Sp := fun vs H Q _ => ∃ (p : Addr) (ks : List Str) (rs : List RuleD), vs = [.ref p] ∧ PlanAt H p ks rs ∧ ks.Sublist lettersL ∧ rs.length ≤ 10 ∧ ∀ q H' xs, Ex H H' → PlanObj K CP H' q ks xs → RulesAt K CR H' xs rs → Q (.ref q) H'
theorem ok_made {f fT pP gP : Addr} {fd fdT : FuncData} {mcP : Value} (F : Fun K "_law_made" "_law_made" sMade f fd) (TP : TxP K mg CP) (D_text : Df K mg "_law_text" sText ["_law_drawn"] fT fdT) (G_text : FnOk P w K mg base CX0 2 fT fdT ["_law_drawn"] (spText K)) (rdP : ClX.CRead K CP mcP) (cmP : ClX.CMet K CP mcP "read" pP gP)
    (G_readP : FnR P w K mg base CX0 6 gP (spPlanReadG K CR CP sortedOf)) : FnOk P w K mg base CX0 7 f fd ["_law_drawn"] (spMade K CR CP) := by
  refine F.ok scMade (fun vs H Q E h => ?_) (fun cdv A outer s H vs Q E hr h => ?_)
  · obtain ⟨p, ks, rs, rfl, _⟩ := h
    rfl
  · obtain ⟨p, ks, rs, rfl, hp, sl, hz, q⟩ := h
    refine ⟨_, pss_one (ps_ret (ClX.pe_cmeth (E := E0) (pe_glob (v := .ref CP) rfl TP.g_Plan rfl) rdP cmP G_readP (hr.mono (by decide)) pass0 (pa_cons (pe_call (E := E0) G_text (hr.mono (by decide)) rfl D_text.g D_text.F.kp D_text.b .nil pass0 (pa_cons (pv 0) pa_nil)) pa_nil))), ?_⟩
    have gk := sub_good sl
    have g : ∀ r ∈ rs, r.Good := by
      obtain ⟨t, L, xs, _, _, _, h4⟩ := hp
      exact fun r hr => h4.good hr
    refine ⟨rfl, _, rfl, p, ks, rs, rfl, hp, gk.1, gk.2.2, hz, fun H1 e1 => ?_⟩
    refine ⟨planText ks rs, firstLine ks, ks, rs, rfl, lines_read gk.2.2 g, first_read gk.2.2, Nat.le_trans (plan_len gk.1 gk.2.2 g hz) (by decide), Nat.le_trans (raises_len gk.1 gk.2.2).2 (by decide), by omega, g, gk.1, gk.2.1, gk.2.2, fun o H2 ys xs so e2 po ro => ?_⟩
    rw [sorted_one gk (sub_asc sl) so] at po
    exact q o H2 xs (e1.trans e2) po ro
end
end Ov


namespace Ov
open PySem PySem.Spec PyProof.Rows L2
/-! ### x += y by the class's own __add__, where it has no __iadd__ -/
def plainMro (K : PySem.W.Frag) (C : Addr) : Bool := match PySem.W.clsIn K C with
  | some cd => cd.mro == [.ref C, .type "object"]
  | none => false
theorem plainMro_ok {K : PySem.W.Frag} {C : Addr} (h : plainMro K C = true) : ∃ cd, PySem.W.clsIn K C = some cd ∧ cd.mro = [.ref C, .type "object"] := by
  unfold plainMro at h
  split at h
  · rename_i cd e
    exact ⟨cd, e, eq_of_beq h⟩
  · cases h
theorem no_iadd : typeLookup (.type "object") (dunderI "add") = pure none := by rw [typeLookup_type, builtinLookup_eq_fast]; kernel_rfl
section
open PySem.W
variable {prog : Program} {w : World} {A : Around} {E : Value → Shared → Prop} {s : Shared} {K : Frag} {x C f L : Addr} {h₀ : Heap} {m : Str → Option Value} {ox : Obj} {od : Option Obj}
theorem no_inplace {M : Model} {h : Heap} {cd : ClassData} (X : K.In h) (hc : clsIn K C = some cd) (hm : cd.mro = [.ref C, .type "object"]) (hn : findIn K (.ref C) (dunderI "add") = some none) : Looks M h (fillsInplaceSlot (.ref C) "add" true) false := by
  intro A Q E s k q
  unfold fillsInplaceSlot
  refine wpAny_bind ((looks_clsIn X hc).andThen (f := fun cd => pure cd.mro) .now A _ E s k ?_)
  rw [hm, List.anyM_cons]
  refine wpAny_bind (wpAny_bind (looks_findIn X hn A _ E s k (wpAny_pure ?_)))
  rw [if_neg (by simp), List.anyM_cons]
  refine wpAny_bind (wpAny_bind (wpAny_of_eq no_iadd (wpAny_pure ?_)))
  rw [if_neg (by simp)]
  exact wpAny_pure q
theorem iadd_K {b : Value} {Q : Value → Shared → Prop} (F : Fr h₀ L s.heap m) (X₀ : K.In h₀) (I : InstAt s.heap x ox C od) (hb : Looks (model prog w) s.heap (typeOf b) (.ref C)) (hc : selfFirst K C = true) (hp : plainMro K C = true) (hn : findIn K (.ref C) (dunderI "add") = some none)
    (hs : findIn K (.ref C) (PySem.dunder "add") = some (some (.ref f))) (hf : isFn K (.ref f) = true) (h : wpAny (model prog w) A (call (.ref f) [.ref x, b]) (PySem.W.CmpBack Q) E s) : wpAny (model prog w) A (inplaceOp .Add (.ref x) b) Q E s := by
  have X := X₀.keeps F.keep
  obtain ⟨cd, hcd, hm⟩ := plainMro_ok hp
  unfold inplaceOp
  refine wpAny_holding (wpAny_bind (I.type.here ?_))
  refine wpAny_bind ((no_inplace X hcd hm hn).here ?_)
  simp only [Bool.false_eq_true, if_false]
  unfold binaryOp1
  refine wpAny_bind (wpAny_bind (I.type.here (wpAny_bind (hb.here (wpAny_bind ((fills_K X hcd hm hs).here ?_))))))
  simp only [beq_self_eq_true, if_true]
  refine wpAny_bind (wpAny_pure ?_)
  simp only [Bool.and_false, Bool.false_eq_true, if_false, Bool.false_and]
  refine wpAny_bind (wpAny_pure ?_)
  simp only [Bool.false_eq_true, if_false]
  refine wpAny_bind (m := tryMethod (.ref x) _ b) ?_
  unfold tryMethod
  refine wpAny_bind (special_fn X I hs (beq_iff_eq.mp hf) (wpAny_mono h (fun v s1 hv => ?_) fun _ _ e => e))
  cases v <;> first | exact hv.elim | exact wpAny_pure (wpAny_pure (wpAny_pure hv))
end
/-! ### (a, b, ..) = a list of that length -/
section
open PySem.W PySem.Calls
variable {prog : Program} {w : World} {A : Around} {E : Value → Shared → Prop} {s : Shared}
theorem unpack_list {l : Addr} {items : Array Value} {Q : List Value → Shared → Prop} (hh : A.handled = none) (hl : s.heap.IsList l items)
    (h : ∀ h2 tk, (∀ b u, s.heap.get? b = some u → h2.get? b = some u) → Q items.toList { s with heap := h2, toks := tk }) : wpAny (model prog w) A (unpackItems (.ref l) items.size none) Q E s := by
  have far : l ≠ s.heap.objs.size := by
    obtain ⟨o, ho, _⟩ := hl
    exact Nat.ne_of_lt (Heap.lt_size ho)
  unfold unpackItems notIterableAtAll
  refine wpAny_bind (wpAny_bind (wpAny_specialOf hl.typeIs slot_list_iter.lookup (wpAny_pure ?_)))
  simp only [Bool.false_eq_true, if_false]
  refine wpAny_bind (wpAny_holding (wpAny_pyIter_list hl ?_))
  refine wpAny_bind (wpAny_holding (kun_draw far items.size 0 _ _ ⟨_, Heap.get?_push_size _ rfl, rfl, rfl⟩ (hl.push _) (by omega) fun h1 it1 sb => ?_))
  have hl1 : h1.IsList l items := (hl.push _).extBut sb.extBut far
  rw [Nat.zero_add] at it1
  have all : List.take items.size (List.drop 0 items.toList) = items.toList := by
    rw [List.drop_zero]
    exact List.take_of_length_le (by simp)
  rw [all, if_neg (by simp)]
  refine wpAny_bind (wpAny_holding ((Walks.list (prog := prog) (w := w) (A := A) hh _ l far items).toS.done { s with heap := h1 } _ _ ⟨it1, hl1⟩ fun s2 mv => ?_))
  simp only [Option.isSome_none, Bool.false_eq_true, if_false]
  obtain ⟨h2, g2, d2, tk, os2⟩ := s2
  obtain rfl : g2 = s.gens := mv.gens
  obtain rfl : d2 = s.drawn := mv.drawn
  obtain rfl : os2 = s.os := mv.os
  refine wpAny_pure (h h2 tk fun b u e => ?_)
  have nb : b ≠ s.heap.objs.size := Nat.ne_of_lt (Heap.lt_size e)
  exact mv.heap b u (by simpa using nb) (sb.extBut b u nb (Heap.get?_push_of_some _ e))
end
def gLst (K : PySem.W.Frag) (n : Nat) (t : TGs) : TG := fun v σ H Q => ∃ a xs, v = .ref a ∧ SqL K H a xs ∧ xs.length = n ∧ t xs σ H Q
theorem pg_lst {X : Cx} {pos : Pos} {es : List Expr} {k : Nat} {t : TGs} {n : Nat} (calm : X.calm = true) (h : PGs X es t)
    (hn : (assignEach es X.env).length = n := by rfl) (hst : (assignEach es X.env).findIdx? (·.1) = none := by rfl) : PG X (.Tuple es k pos) (gLst X.K n t) := by
  refine ⟨fun pins s σ H v u Q I r hw => ?_⟩
  obtain ⟨a, xs, e1, hq, hl, hw⟩ := hw
  subst e1
  cases r
  obtain ⟨its, rv, pl, hz⟩ := I.list hq
  have lz : its.toArray.size = n := by rw [List.size_toArray, ← rv.length, hl]
  rw [PyProof.Rows.assign_Tuple]
  refine wpAny_bind (wpAny_standAt ?_)
  unfold unpack
  rw [hn, hst, ← lz]
  refine wpAny_bind (wpAny_holding (unpack_list (I.ok.hd calm) pl.isList fun h2 tk ke => ?_))
  have I1 : Inv X pins σ H { s with heap := h2, toks := tk } := I.kept ke
  exact h.run pins _ σ _ _ _ Q I1 (by simpa using rv) hw
section
variable {X : Cx} {CX : CXT} {k : Nat} {f C : Addr} {fd : FuncData} {ps : List Str} {sp : Sp} {E : XK}
theorem ip_addI (F : FnOk X.prog X.w X.K X.mg X.base CX k f fd ps sp) (hr : Room k X.A) (first : PySem.W.selfFirst X.K C = true) (hp : plainMro X.K C = true) (hn : PySem.W.findIn X.K (.ref C) (dunderI "add") = some none) (hs : PySem.W.findIn X.K (.ref C) (PySem.dunder "add") = some (some (.ref f))) (hf : PySem.W.isFn X.K (.ref f) = true) (hb : Binds X.K fd ps []) (hx : Passes CX X E) :
    PIp X .Add (rAddI C sp E) := by
  rintro pins s σ H _ _ v u Q I rx ry ⟨a, b, dx, dy, fs, gs, rfl, rfl, ha, hb2, hq⟩
  cases rx
  cases ry
  obtain ⟨_, J1, _⟩ := ins_get I.hok ha
  obtain ⟨_, J2, _⟩ := ins_get I.hok hb2
  obtain ⟨_, J1, _⟩ := J1.look
  obtain ⟨_, J2, _⟩ := J2.look
  obtain ⟨m, hF⟩ := I.fr
  refine iadd_K hF I.ok.mod.kin J1 J2.type first hp hn hs hf (wpAny_mono (run_sub F (sub0 hr) hb hx I (vs := [.ref a, .ref b]) (us := [.ref a, .ref b]) (.cons rfl (.cons rfl .nil)) hq) (fun v s2 hv => ?_) fun _ _ z => z)
  obtain ⟨z, H2, I2, rz, p, rfl, q⟩ := hv
  cases rz
  exact ⟨.ref p, H2, I2, rfl, q⟩
end
end Ov

namespace Ov
open PySem PySem.Spec PyProof.Rows L2
open Evl (pss_cut tCut Ex Ev EvT EvL EvA EvU)
/-! ### plans put together: expressions -/
theorem both_sub (ks ms : List Str) : (bothKs ks ms).Sublist lettersL := List.filter_sublist
theorem mem_both {ks ms : List Str} {k : Str} (hk : k ∈ lettersL) : decide (k ∈ bothKs ks ms) = (decide (k ∈ ks) || decide (k ∈ ms)) := by
  unfold bothKs
  by_cases h : (decide (k ∈ ks) || decide (k ∈ ms)) = true
  · rw [h, decide_eq_true (List.mem_filter.mpr ⟨hk, h⟩)]
  · have no : ¬ k ∈ lettersL.filter fun k => decide (k ∈ ks) || decide (k ∈ ms) := fun z => h (List.mem_filter.mp z).2
    rw [decide_eq_false no]
    simpa using h
theorem both_assoc (a b c : List Str) : bothKs (bothKs a b) c = bothKs a (bothKs b c) := by
  show lettersL.filter _ = lettersL.filter _
  refine List.filter_congr fun k hk => ?_
  rw [mem_both hk, mem_both hk, Bool.or_assoc]
theorem both_nil {ks : List Str} (sl : ks.Sublist lettersL) : bothKs ks [] = ks := by
  refine Eq.trans ?_ (sub_asc sl).symm
  exact List.filter_congr fun k _ => by simp
theorem nil_both {ks : List Str} (sl : ks.Sublist lettersL) : bothKs [] ks = ks := by
  refine Eq.trans ?_ (sub_asc sl).symm
  exact List.filter_congr fun k _ => by simp
theorem both_self {ks : List Str} (sl : ks.Sublist lettersL) : bothKs ks ks = ks := by
  refine Eq.trans ?_ (sub_asc sl).symm
  exact List.filter_congr fun k _ => by simp
theorem PlanOk.both {ks ms : List Str} {rs us : List RuleD} (o : PlanOk ks rs) (o2 : PlanOk ms us) (hz : rs.length + us.length ≤ 10) : PlanOk (bothKs ks ms) (rs ++ us) :=
  ⟨both_sub ks ms, fun r hr => (List.mem_append.mp hr).elim (o.g r) (o2.g r), by rw [List.length_append]; exact hz⟩
section
variable {K : PySem.W.Frag} {CR CP df0 df1 : Addr} {σ : L2.St} {H : Hp} {ta tb te tl : TE} {tt : TT} {ks ms : List Str} {rs us : List RuleD}
theorem evP_addG (ha : EvP ta σ H (PlanIs K CR CP ks rs)) (hb : EvP tb σ H (PlanIs K CR CP ms us)) (hz : rs.length + us.length ≤ 900) : EvP (tOp (rAddI CP (spPlanAdd K CR CP) E0) ta tb) σ H (PlanIs K CR CP (bothKs ks ms) (rs ++ us)) := fun H1 e1 Q q =>
  ha H1 e1 _ fun p H2 e2 hp => hb H2 (e1.trans e2) _ fun p2 H3 e3 hp2 => by
    obtain ⟨xs, h1, h2⟩ := hp.ex e3
    obtain ⟨ys, h3, h4⟩ := id hp2
    obtain ⟨dx, a, b, h5, _⟩ := id h1
    obtain ⟨dy, c, d, h6, _⟩ := id h3
    refine ⟨p, p2, dx, dy, _, _, rfl, rfl, h5, h6, p, p2, ks, ms, xs, ys, rs, us, rfl, h1, h3, h2, h4, by rw [paired_len h2, paired_len h4]; exact hz, fun o H4 zs so e4 po ro => ⟨o, rfl, ?_⟩⟩
    rw [sorted_one (both_good ks ms) (sub_asc (both_sub ks ms)) so] at po
    exact q o H4 ((e2.trans e3).trans e4) ⟨_, po, ro⟩
theorem evP_empty (dfT0 : ∀ H, SqT K H df0 []) (dfT : ∀ H, SqT K H df1 []) : EvP (tMake CP (spPlanInitG K CR CP sortedOf) [V.ref df0, V.ref df1] E0 tNil) σ H (PlanIs K CR CP [] []) := fun H1 e1 Q q => by
  refine run_mkP (ks := []) (rs := []) (.inr (dfT0 _)) ⟨Nat.zero_le _, List.Pairwise.nil, fun k hk => nomatch hk⟩ (.inr (dfT _)) .nil (Nat.zero_le _) (Ex.refl H1) fun p H4 ys so e4 po ro => ?_
  have ey : ys = [] := List.perm_nil.mp so.1
  rw [ey] at po
  exact q p H4 e4 ⟨[], po, ro⟩
theorem evP_raisesP (TP : Cls K CP) (nR : NoAttr K CP "raises") (ha : EvP ta σ H (PlanIs K CR CP ks rs)) : EvP (tFld K ta "raises") σ H (fun t H2 => SqT K H2 t (ks.map V.str)) := fun H1 e1 Q q =>
  ha H1 e1 _ fun p H2 e2 ⟨xs, ⟨dx, a, b, h1, h2, h3⟩, h4⟩ => ⟨p, CP, dx, _, _, rfl, h1, TP, nR, pf_raises _ _, q a H2 e2 h2⟩
theorem ev_textP (h : EvP ta σ H (fun p H2 => PlanAt H2 p ks rs)) (o : PlanOk ks rs) : Ev (tCall (spText K) [] E0 (tCons ta tNil)) σ H (.str (planText ks rs)) := fun H1 e1 Q q =>
  h H1 e1 _ fun p H2 e2 hp => ⟨p, ks, rs, rfl, hp, (sub_good o.sl).1, (sub_good o.sl).2.2, o.hz, fun H3 e3 => q H3 (e2.trans e3)⟩
theorem ev_neTs {l : List Str} (ol : Plain l) (ha : EvP ta σ H (fun t H2 => SqT K H2 t (l.map V.str))) (hb : EvP tb σ H (fun t H2 => SqT K H2 t (l.map V.str))) : Ev (tOp (rNeD K) ta tb) σ H (.bl false) := fun H1 e1 Q q =>
  ha H1 e1 _ fun t H2 e2 st => hb H2 (e1.trans e2) _ fun u H3 e3 su => rv_neT ol ol (Evl.ex_t e3 st) su H3 (Ex.refl _) Q fun H4 e4 => by
    rw [decide_eq_true rfl]
    exact q H4 ((e2.trans e3).trans e4)
theorem ev_inT {x : Str} {l : List Str} (ha : Ev ta σ H (.str x)) (hb : EvP tb σ H (fun t H2 => SqT K H2 t (l.map V.str))) : Ev (tOp (rIn K false) ta tb) σ H (.bl (decide (x ∈ l))) := fun H1 e1 Q q =>
  ha H1 e1 _ fun H2 e2 => hb H2 (e1.trans e2) _ fun u H3 e3 su => Evl.rv_isT su rfl (flat_strs l) H3 (Ex.refl _) Q fun H4 e4 => by
    rw [inV_strs]
    exact q H4 ((e2.trans e3).trans e4)
theorem evP_made {p : Addr} (h : Ev ta σ H (.ref p)) (hp : PlanAt H p ks rs) (o : PlanOk ks rs) : EvP (tCall (spMade K CR CP) [] E0 (tCons ta tNil)) σ H (PlanIs K CR CP ks rs) := fun H1 e1 Q q =>
  h H1 e1 _ fun H2 e2 => ⟨p, ks, rs, rfl, hp.ex (e1.trans e2), o.sl, o.hz, fun u H3 xs e3 po ro => q u H3 (e2.trans e3) ⟨xs, po, ro⟩⟩
theorem ev_text {p : Addr} (h : Ev ta σ H (.ref p)) (hp : PlanAt H p ks rs) (o : PlanOk ks rs) : Ev (tCall (spText K) [] E0 (tCons ta tNil)) σ H (.str (planText ks rs)) := ev_textP (EvP.of h fun H1 e1 => hp.ex e1) o
theorem PlanAt.ok {p : Addr} (h : PlanAt H p ks rs) (sl : ks.Sublist lettersL) (hz : rs.length ≤ 10) : PlanOk ks rs := by
  obtain ⟨t, L, xs, _, _, _, h4⟩ := h
  exact ⟨sl, fun r hr => h4.good hr, hz⟩
theorem el_lcTfU {xs : List V} {j : Nat} {vs : List Nat} (f : Nat → Bool) (v : Nat → V) (h : EvU tl σ H xs) (hz : xs.length ≤ 40000) (hw : ∀ x, wipe ((wipe σ vs).set j (some x)) vs = wipe σ vs)
    (ht : ∀ (i : Nat) (x : V) H1, Ex H H1 → xs[i]? = some x → EvT tt ((wipe σ vs).set j (some x)) H1 (f i)) (he : ∀ (i : Nat) (x : V) H1, Ex H H1 → xs[i]? = some x → Ev te ((wipe σ vs).set j (some x)) H1 (v i)) : EvL (tLc (iTup K tl) (gName j) tt te vs) σ H (Evl.given xs.length f v) := fun H0 e Q q => h H0 e _ fun a H1 _ e1 ha => ⟨a, rfl, ⟨xs, Evl.st_of ha⟩, fun L hL =>
  lc_tup (xs := xs) (Evl.Cw H1 f v L) ⟨hL, Ex.new hL, upd_same⟩ (fun i H' _ p => Evl.st_of (p.2.1 a _ ha))
    (fun i x H' hi p => ⟨hw x, Evl.cw_turn p (by have := (List.getElem?_eq_some_iff.mp hi).1; omega) (ht i x H1 (e.trans e1) hi) (fun _ => he i x H1 (e.trans e1) hi)⟩)
    (fun H' p => q L H' (Evl.fresh_back e1 p.1) (e1.trans p.2.1) p.2.2)⟩
theorem at_cons {te : TE} {t : TA} {Q : List V → Hp → Prop} (h : te σ H fun x H1 => t σ H1 fun ys H2 => Q (x :: ys) H2) : tCons te t σ H Q := h
end
/-! ### readings of the law's parts -/
section
variable (K : PySem.W.Frag) (CR CP df0 df1 : Addr)
abbrev nPl : R2 := rNeI CP (spPlanEq K CR CP) E0
abbrev tStrP (te : TE) : TE := tCB (rStrI CP (spPlanStr K CR CP) E0) (tCons te tNil)
abbrev tLenP (te : TE) : TE := tCB (rLenI CP (spPlanLen K CP) E0) (tCons te tNil)
abbrev pAdd (a b : TE) : TE := tOp (rAddI CP (spPlanAdd K CR CP) E0) a b
abbrev tNone : TE := tMake CP (spPlanInitG K CR CP sortedOf) [V.ref df0, V.ref df1] E0 tNil
abbrev tTx (te : TE) : TE := tCall (spText K) [] E0 (tCons te tNil)
abbrev ixO (n : Nat) (i : Int) : TE := tOp (rIxT K) (tVar n) (tC (V.int i))
abbrev fR (te : TE) : TE := tFld K te (Str.ofString "raises")
def rdThree : TE := tLc (iRng1 (tCons (tC (V.int 3)) tNil)) (gName 13) tYes (tCall spWidePlan [] E0 (tCons (tVar 2) (tCons (tC (V.int 3)) tNil))) [13]
def rdMade : TS := tPar3 6 7 8 (tCons (tCall (spMade K CR CP) [] E0 (tCons (tVar 3) tNil)) (tCons (tCall (spMade K CR CP) [] E0 (tCons (tVar 4) tNil)) (tCons (tCall (spMade K CR CP) [] E0 (tCons (tVar 5) tNil)) tNil)))
def rdSome : TE := tCB (fun xs H Q => ∃ p ys, xs = [V.ref p] ∧ ((SqL K H p ys ∧ ∀ l, H l = none → Q (V.ref l) (upd H l (HO.tup ys))) ∨ (SqT K H p ys ∧ Q (V.ref p) H)))
  (tCons (tLc (iTup K (tTup (tCons (tC (V.str "ask")) (tCons (tC (V.str "day")) (tCons (tC (V.str "off")) (tCons (tC (V.str "stop")) tNil)))))) (gName 12) (tTest (tOp (rIn K false) (tVar 12) (tOp (rCatA K) (ixO K 3 0) (ixO K 4 0)))) (tVar 12) [12]) tNil)
def rdTxt : TS := tIfS (tOr (tTest (tOp rNe (tStrP K CR CP (tVar 10)) (tTx K (tTup (tCons (tVar 9) (tCons (tOp rCat (ixO K 3 1) (ixO K 4 1)) tNil)))))) (tOr (tTest (tOp rNe (tStrP K CR CP (tVar 6)) (tTx K (tVar 3)))) (tTest (tOp rNe (tStrP K CR CP (tVar 7)) (tTx K (tVar 4)))))) tNo tNext
def rdHeld : TS := tIfS (tOr (tTest (tOp (nPl K CR CP) (tVar 11) (tVar 10))) (tOr (tTest (tOp rNe (tStrP K CR CP (tVar 6)) (tTx K (tVar 3)))) (tTest (tOp rNe (tLenP K CP (tVar 11)) (tOp (rI0 fun i j => V.int (i + j)) (tLenP K CP (tVar 6)) (tLenP K CP (tVar 7))))))) tNo tNext
def rdSums : TS := tIfS (tOr (tTest (tOp (nPl K CR CP) (pAdd K CR CP (pAdd K CR CP (tVar 6) (tVar 7)) (tVar 8)) (pAdd K CR CP (tVar 6) (pAdd K CR CP (tVar 7) (tVar 8)))))
  (tOr (tTest (tOp (nPl K CR CP) (pAdd K CR CP (tVar 6) (tNone K CR CP df0 df1)) (tVar 6))) (tTest (tOp (nPl K CR CP) (pAdd K CR CP (tNone K CR CP df0 df1) (tVar 6)) (tVar 6))))) tNo tNext
def rdTwice : TS := tIfS (tOr (tTest (tOp (rNeD K) (fR K (pAdd K CR CP (tVar 6) (tVar 6))) (fR K (tVar 6)))) (tTest (tOp rNe (tLenP K CP (pAdd K CR CP (tVar 6) (tVar 6))) (tOp (rI CMul fun i j => V.int (i * j)) (tC (V.int 2)) (tLenP K CP (tVar 6)))))) tNo tNext
def rdBody : TS :=
  tSeq (tAsg (tCall (spDeal K) [] E0 (tCons (tVar 0) (tCons (tVar 1) tNil))) (gName 2))
  (tSeq (tAsg rdThree (gLst K 3 (gCons (gName 3) (gCons (gName 4) (gCons (gName 5) gNil)))))
  (tSeq (rdMade K CR CP) (tSeq (tAsg (rdSome K) (gName 9)) (tSeq (tAsg (pAdd K CR CP (tVar 6) (tVar 7)) (gName 10))
  (tSeq (rdTxt K CR CP) (tSeq (tAsg (tVar 6) (gName 11)) (tSeq (tAug 11 (tVar 7) (rAddI CP (spPlanAdd K CR CP) E0)) (tSeq (rdHeld K CR CP) (tSeq (rdSums K CR CP df0 df1) (rdTwice K CR CP))))))))))
end
section
variable {K : PySem.W.Frag} {CR CP df0 df1 : Addr} {H : Hp} {k1 k2 k3 : List Str} {r1 r2 r3 : List RuleD}
theorem rd_three {a b : Addr} {σ : L2.St} {Q : VK} (h2 : ∀ x, ((wipe σ [13]).set 13 (some x))[2]? = some (some (.ref a))) (hw : ∀ x, wipe ((wipe σ [13]).set 13 (some x)) [13] = wipe σ [13]) (hd : Deal H a b)
    (q : ∀ (L : Addr) (H' : Hp) (ps : List Addr), ps.length = 3 → Kp a b H H' → H' L = some (.lst (ps.map V.ref)) → (∀ p ∈ ps, ∃ ks rs, PlanAt H' p ks rs ∧ ks.Sublist lettersL ∧ rs.length ≤ 3) → Q (.ref L) H') : rdThree σ H Q := by
  refine ⟨3, rfl, by decide, by decide, fun L hL => ?_⟩
  have na := hd.nea hL
  have nb := hd.neb hL
  have up : ∀ {H' : Hp} {o : HO}, Deal H' a b → Deal (upd H' L o) a b := fun {H' o} ⟨ns, m, ha, hb, hd3⟩ => ⟨ns, m, by rw [upd_ne na.symm]; exact ha, by rw [upd_ne nb.symm]; exact hb, hd3⟩
  have kp : ∀ {H' : Hp} {o : HO}, Kp a b H H' → Kp a b H (upd H' L o) := fun {H' o} k x u h1 h2 h3 => by
    rw [upd_ne (ne_of_none h3 hL)]
    exact k x u h1 h2 h3
  refine lc_range (lo := 0) (n := 3) (fun i H' => Kp a b H H' ∧ Deal H' a b ∧ ∃ ps : List Addr, ps.length = i ∧ H' L = some (.lst (ps.map V.ref)) ∧ ∀ p ∈ ps, ∃ ks rs, PlanFar (fun M => (M ≠ a ∧ M ≠ b) ∧ M ≠ L) H' p ks rs ∧ ks.Sublist lettersL ∧ rs.length ≤ 3)
    ⟨kp (Kp.refl _ _ _), up hd, [], rfl, upd_same, fun _ h => nomatch h⟩ ?_ ?_
  · rintro i H' hi ⟨k, d, ps, hl, h3, h4⟩
    refine ⟨hw _, ?_⟩
    simp only [tYes, eq_self, if_true]
    refine ⟨_, h2 _, a, b, 3, rfl, by decide, d, fun p ks rs H4 sl hz k4 d4 pf => ?_⟩
    have h3' := k4 _ _ na nb h3
    refine ⟨_, h3', by rw [List.length_map, hl]; exact Nat.lt_of_lt_of_le hi (by decide), kp (k.trans k4), up d4, ps ++ [p], by rw [List.length_append, hl]; rfl, by rw [upd_same, List.map_append]; rfl, fun u hu => ?_⟩
    rcases List.mem_append.mp hu with hu | hu
    · obtain ⟨ks2, rs2, f2, s2, z2⟩ := h4 u hu
      exact ⟨ks2, rs2, (f2.kpS (fun M z => z.1) k4 d).updL h3' fun M z => z.2, s2, z2⟩
    · rw [List.mem_singleton.mp hu]
      exact ⟨ks, rs, (pf.imp fun M z => ⟨⟨d.nea z, d.neb z⟩, fun e => by rw [e, h3] at z; cases z⟩).updL h3' fun M z => z.2, sl, hz⟩
  · rintro H' ⟨k, d, ps, hl, h3, h4⟩
    exact q L H' ps hl k h3 fun p hp => by
      obtain ⟨ks, rs, f2, s2, z2⟩ := h4 p hp
      exact ⟨ks, rs, f2.at_, s2, z2⟩
theorem at_par3 {t : TA} {i j l : Nat} {tz : TS} {D : Ends} {σ : L2.St} (h : t σ H fun vs H1 => ∃ u v w, vs = [u, v, w] ∧ tz D (((σ.set i (some u)).set j (some v)).set l (some w)) H1) : tSeq (tPar3 i j l t) tz D σ H := h
theorem at_cb1 {r : List V → Hp → VK → Prop} {te : TE} {σ : L2.St} {Q : VK} (h : te σ H fun x H1 => r [x] H1 Q) : tCB r (tCons te tNil) σ H Q := h
theorem rd8_made {D : Ends} {tz : TS} {p1 p2 p3 : Addr} {a0 a1 a2 a6 a7 a8 a9 a10 a11 a12 a13 : Option V} (h1 : PlanAt H p1 k1 r1) (o1 : PlanOk k1 r1) (h2 : PlanAt H p2 k2 r2) (o2 : PlanOk k2 r2) (h3 : PlanAt H p3 k3 r3) (o3 : PlanOk k3 r3)
    (k : ∀ u1 u2 u3 H1, Ex H H1 → PlanIs K CR CP k1 r1 u1 H1 → PlanIs K CR CP k2 r2 u2 H1 → PlanIs K CR CP k3 r3 u3 H1 → tz D [a0, a1, a2, some (.ref p1), some (.ref p2), some (.ref p3), some (.ref u1), some (.ref u2), some (.ref u3), a9, a10, a11, a12, a13] H1) :
    tSeq (rdMade K CR CP) tz D [a0, a1, a2, some (.ref p1), some (.ref p2), some (.ref p3), a6, a7, a8, a9, a10, a11, a12, a13] H := by
  unfold rdMade
  refine at_par3 ?_
  refine at_cons ((evP_made (Evl.ev_var rfl) h1 o1) H (Ex.refl _) _ fun u1 H1 e1 g1 => ?_)
  refine at_cons ((evP_made (Evl.ev_var rfl) (h2.ex e1) o2) H1 (Ex.refl _) _ fun u2 H2 e2 g2 => ?_)
  refine at_cons ((evP_made (Evl.ev_var rfl) (h3.ex (e1.trans e2)) o3) H2 (Ex.refl _) _ fun u3 H3 e3 g3 => ?_)
  exact ⟨_, _, _, rfl, k u1 u2 u3 H3 ((e1.trans e2).trans e3) (g1.ex (e2.trans e3)) (g2.ex e3) g3⟩
theorem rd8_some {D : Ends} {tz : TS} {p1 p2 : Addr} {a0 a1 a2 a5 a6 a7 a8 a9 a10 a11 a12 a13 : Option V} (h1 : PlanAt H p1 k1 r1) (h2 : PlanAt H p2 k2 r2) (l1 : k1.length ≤ 4) (l2 : k2.length ≤ 4)
    (k : ∀ t H1, Ex H H1 → H1 t = some (.tup ((bothKs k1 k2).map V.str)) → tz D [a0, a1, a2, some (.ref p1), some (.ref p2), a5, a6, a7, a8, some (.ref t), a10, a11, a12, a13] H1) :
    tSeq (tAsg (rdSome K) (gName 9)) tz D [a0, a1, a2, some (.ref p1), some (.ref p2), a5, a6, a7, a8, a9, a10, a11, a12, a13] H := by
  refine q_put ?_
  obtain ⟨t1, L1, xs1, d1, d2, _⟩ := h1
  obtain ⟨t2, L2, xs2, c1, c2, _⟩ := h2
  have ek : Evl.given (lettersL.map V.str).length (fun i => decide ((lettersL[i]?.getD Str.empty) ∈ k1 ++ k2)) (fun i => V.str (lettersL[i]?.getD Str.empty)) = (bothKs k1 k2).map V.str := by
    rw [List.length_map]
    refine (given_texts lettersL (fun k => decide (k ∈ k1 ++ k2)) _ _ fun i x hx => by
      rw [hx]
      exact ⟨rfl, rfl⟩).trans (congrArg (List.map V.str) (List.filter_congr fun k _ => ?_))
    by_cases g1 : k ∈ k1 <;> by_cases g2 : k ∈ k2 <;> simp [g1, g2]
  have el : EvL (tLc (iTup K (tTup (tCons (tC (V.str "ask")) (tCons (tC (V.str "day")) (tCons (tC (V.str "off")) (tCons (tC (V.str "stop")) tNil)))))) (gName 12) (tTest (tOp (rIn K false) (tVar 12) (tOp (rCatA K) (ixO K 3 0) (ixO K 4 0)))) (tVar 12) [12]) [a0, a1, a2, some (.ref p1), some (.ref p2), a5, a6, a7, a8, a9, a10, a11, a12, a13] H ((bothKs k1 k2).map V.str) := by
    rw [← ek]
    refine el_lcTfU (xs := lettersL.map V.str) _ _ (Evl.eu_tup (Evl.ea_cons Evl.ev_c (Evl.ea_cons Evl.ev_c (Evl.ea_cons Evl.ev_c (Evl.ea_cons Evl.ev_c Evl.ea_nil)))) (by show 4 ≤ 100000; decide)) (by decide) (fun _ => rfl) (fun i x H1 e1 hi => ?_) (fun i x H1 e1 hi => ?_)
    · obtain ⟨y, rfl, hy⟩ := strs_at hi
      rw [hy]
      refine Evl.et_test (ev_inT (x := y) (l := k1 ++ k2) (Evl.ev_var rfl) ?_)
      refine (ev_catA (K := K) (xs := k1.map V.str) (ys := k2.map V.str) (EvP.of (p := t1) (ev_ixT (j := 0) (Evl.ev_var rfl) Evl.ev_c (Evl.st_of (e1 _ _ d1)) rfl) fun H2 e2 => Evl.st_of (e2 _ _ (e1 _ _ d2))) (EvP.of (p := t2) (ev_ixT (j := 0) (Evl.ev_var rfl) Evl.ev_c (Evl.st_of (e1 _ _ c1)) rfl) fun H2 e2 => Evl.st_of (e2 _ _ (e1 _ _ c2))) ?_).imp fun _ _ h => by rw [List.map_append]; exact h
      rw [List.length_map, List.length_map]
      exact size_of (by omega)
    · obtain ⟨y, rfl, hy⟩ := strs_at hi
      rw [hy]
      exact Evl.ev_var rfl
  unfold rdSome
  exact at_cb1 <| el H (Ex.refl _) _ fun M H1 nM e1 hM => ⟨M, _, rfl, .inl ⟨SqL.of hM, fun t nt => k t _ (e1.trans (Ex.new nt)) upd_same⟩⟩
theorem drawn_app {H : Hp} : ∀ {xs ys : List V} {rs us : List RuleD}, DrawnAt H xs rs → DrawnAt H ys us → DrawnAt H (xs ++ ys) (rs ++ us)
  | _, _, _, _, .nil, h => h
  | _, _, _, _, .cons h t, h2 => .cons h (drawn_app t h2)
theorem rd_txt {D : Ends} {tz : TS} {p1 p2 u1 u2 u4 t : Addr} {a0 a1 a2 a5 a8 a11 a12 a13 : Option V} (h1 : PlanAt H p1 k1 r1) (o1 : PlanOk k1 r1) (h2 : PlanAt H p2 k2 r2) (o2 : PlanOk k2 r2) (g1 : PlanIs K CR CP k1 r1 u1 H) (g2 : PlanIs K CR CP k2 r2 u2 H) (g4 : PlanIs K CR CP (bothKs k1 k2) (r1 ++ r2) u4 H) (o4 : PlanOk (bothKs k1 k2) (r1 ++ r2)) (ht : H t = some (.tup ((bothKs k1 k2).map V.str)))
    (k : ∀ H1, Ex H H1 → tz D [a0, a1, a2, some (.ref p1), some (.ref p2), a5, some (.ref u1), some (.ref u2), a8, some (.ref t), some (.ref u4), a11, a12, a13] H1) :
    tSeq (rdTxt K CR CP) tz D [a0, a1, a2, some (.ref p1), some (.ref p2), a5, some (.ref u1), some (.ref u2), a8, some (.ref t), some (.ref u4), a11, a12, a13] H := by
  refine Evl.q_when (b := false) (Evl.et_is (Evl.et_or (Evl.et_test (Evl.ev_op (ev_strP (EvP.of (p := u4) (Evl.ev_var rfl) fun H1 e1 => g4.ex e1) o4) (ev_textP ?_ o4) (Evl.rv_ne rfl))) (fun _ => Evl.et_or (Evl.et_test (Evl.ev_op (ev_strP (EvP.of (p := u1) (Evl.ev_var rfl) fun H1 e1 => g1.ex e1) o1) (ev_text (Evl.ev_var rfl) h1 o1) (Evl.rv_ne rfl))) (fun _ => Evl.et_test (Evl.ev_op (ev_strP (EvP.of (p := u2) (Evl.ev_var rfl) fun H1 e1 => g2.ex e1) o2) (ev_text (Evl.ev_var rfl) h2 o2) (Evl.rv_ne rfl))))) (by simp)) (fun z => nomatch z) (fun _ H1 e1 => k H1 e1)
  intro H1 e1 Q q
  obtain ⟨t1, L1, xs1, d1, d2, d3, d4⟩ := h1.ex e1
  obtain ⟨t2, L2, xs2, c1, c2, c3, c4⟩ := h2.ex e1
  refine ⟨_, rfl, ?_⟩
  refine (ev_ixT (K := K) (j := 1) (v := .ref L1) (Evl.ev_var rfl) Evl.ev_c (Evl.st_of d1) rfl) H1 (Ex.refl _) _ fun H2 e2 => ?_
  refine (ev_ixT (K := K) (j := 1) (v := .ref L2) (Evl.ev_var rfl) Evl.ev_c (Evl.st_of (e2 _ _ c1)) rfl) H2 (Ex.refl _) _ fun H3 e3 => ?_
  have e13 := e2.trans e3
  have z1 := o1.hz
  have z2 := o2.hz
  refine ⟨L1, L2, xs1, xs2, rfl, rfl, e13 _ _ d3, e13 _ _ c3, by rw [paired_len d4, paired_len c4]; exact size_of (by omega), fun M nM => ?_⟩
  have e4 : Ex H3 (upd H3 M (.lst (xs1 ++ xs2))) := Ex.new nM
  refine ⟨by show 2 ≤ sizeLine; decide, fun z nz => ?_⟩
  have e5 := e4.trans (Ex.new (o := .tup [.ref t, .ref M]) nz)
  exact q z _ (e13.trans e5) ⟨t, M, xs1 ++ xs2, upd_same, e5 _ _ (e13 _ _ (e1 _ _ ht)), (Ex.new nz) _ _ upd_same, drawn_app (d4.ex (e13.trans e5)) (c4.ex (e13.trans e5))⟩
end
end Ov

namespace Ov
open PySem PySem.Spec PyProof.Rows L2
open Evl (pss_cut tCut Ex Ev EvT EvL EvA EvU)
/-! ### the law of plans put together -/
section
variable {K : PySem.W.Frag} {CR CP df0 df1 : Addr} {H : Hp} {k1 k2 k3 : List Str} {r1 r2 r3 : List RuleD}
theorem add_at {p p2 : Addr} {Q : VK} (h1 : PlanIs K CR CP k1 r1 p H) (h2 : PlanIs K CR CP k2 r2 p2 H) (hz : r1.length + r2.length ≤ 900) (q : ∀ o H4, Ex H H4 → PlanIs K CR CP (bothKs k1 k2) (r1 ++ r2) o H4 → Q (.ref o) H4) : rAddI CP (spPlanAdd K CR CP) E0 (.ref p) (.ref p2) H Q := by
  refine (evP_addG (σ := [some (.ref p), some (.ref p2)]) (ta := tVar 0) (tb := tVar 1) (EvP.of (p := p) (Evl.ev_var rfl) fun H1 e1 => h1.ex e1) (EvP.of (p := p2) (Evl.ev_var rfl) fun H1 e1 => h2.ex e1) hz) H (Ex.refl H) Q (fun o H4 e4 ho => q o H4 e4 ho) |> fun h => ?_
  obtain ⟨x, e1, y, e2, h⟩ := h
  obtain rfl := Option.some.inj (Option.some.inj e1)
  obtain rfl := Option.some.inj (Option.some.inj e2)
  exact h
theorem rd_held {D : Ends} {tz : TS} {p1 u1 u2 u4 u5 : Addr} {a0 a1 a2 a4 a5 a8 a9 a12 a13 : Option V} (h1 : PlanAt H p1 k1 r1) (o1 : PlanOk k1 r1) (z2 : r2.length ≤ 10) (g1 : PlanIs K CR CP k1 r1 u1 H) (g2 : PlanIs K CR CP k2 r2 u2 H) (g4 : PlanIs K CR CP (bothKs k1 k2) (r1 ++ r2) u4 H) (g5 : PlanIs K CR CP (bothKs k1 k2) (r1 ++ r2) u5 H) (o4 : PlanOk (bothKs k1 k2) (r1 ++ r2))
    (k : ∀ H1, Ex H H1 → tz D [a0, a1, a2, some (.ref p1), a4, a5, some (.ref u1), some (.ref u2), a8, a9, some (.ref u4), some (.ref u5), a12, a13] H1) :
    tSeq (rdHeld K CR CP) tz D [a0, a1, a2, some (.ref p1), a4, a5, some (.ref u1), some (.ref u2), a8, a9, some (.ref u4), some (.ref u5), a12, a13] H := by
  refine Evl.q_when (b := false) (Evl.et_is (Evl.et_or (Evl.et_test (ev_neP (EvP.of (p := u5) (Evl.ev_var rfl) fun H1 e1 => g5.ex e1) (EvP.of (p := u4) (Evl.ev_var rfl) fun H1 e1 => g4.ex e1) o4)) (fun _ => Evl.et_or (Evl.et_test (Evl.ev_op (ev_strP (EvP.of (p := u1) (Evl.ev_var rfl) fun H1 e1 => g1.ex e1) o1) (ev_text (Evl.ev_var rfl) h1 o1) (Evl.rv_ne rfl)))
    (fun _ => Evl.et_test (Evl.ev_op (ev_lenP (EvP.of (p := u5) (Evl.ev_var rfl) fun H1 e1 => g5.ex e1) o4.hz) (Evl.ev_op (ev_lenP (EvP.of (p := u1) (Evl.ev_var rfl) fun H1 e1 => g1.ex e1) o1.hz) (ev_lenP (EvP.of (p := u2) (Evl.ev_var rfl) fun H1 e1 => g2.ex e1) z2) Evl.rv_I0) (Evl.rv_ne rfl))))) ?_) (fun z => nomatch z) (fun _ H1 e1 => k H1 e1)
  rw [List.length_append]
  simp
theorem rd_sums (dfT0 : ∀ H, SqT K H df0 []) (dfT : ∀ H, SqT K H df1 []) {D : Ends} {tz : TS} {u1 u2 u3 : Addr} {a0 a1 a2 a3 a4 a5 a9 a10 a11 a12 a13 : Option V} (o1 : PlanOk k1 r1) (o2 : PlanOk k2 r2) (o3 : PlanOk k3 r3) (z1 : r1.length ≤ 3) (z2 : r2.length ≤ 3) (z3 : r3.length ≤ 3) (g1 : PlanIs K CR CP k1 r1 u1 H) (g2 : PlanIs K CR CP k2 r2 u2 H) (g3 : PlanIs K CR CP k3 r3 u3 H)
    (k : ∀ H1, Ex H H1 → tz D [a0, a1, a2, a3, a4, a5, some (.ref u1), some (.ref u2), some (.ref u3), a9, a10, a11, a12, a13] H1) :
    tSeq (rdSums K CR CP df0 df1) tz D [a0, a1, a2, a3, a4, a5, some (.ref u1), some (.ref u2), some (.ref u3), a9, a10, a11, a12, a13] H := by
  have o12 := o1.both o2 (by omega)
  have o123 := o12.both o3 (by rw [List.length_append]; omega)
  have v1 : EvP (tVar 6) [a0, a1, a2, a3, a4, a5, some (.ref u1), some (.ref u2), some (.ref u3), a9, a10, a11, a12, a13] H (PlanIs K CR CP k1 r1) := EvP.of (p := u1) (Evl.ev_var rfl) fun H1 e1 => g1.ex e1
  have v2 : EvP (tVar 7) [a0, a1, a2, a3, a4, a5, some (.ref u1), some (.ref u2), some (.ref u3), a9, a10, a11, a12, a13] H (PlanIs K CR CP k2 r2) := EvP.of (p := u2) (Evl.ev_var rfl) fun H1 e1 => g2.ex e1
  have v3 : EvP (tVar 8) [a0, a1, a2, a3, a4, a5, some (.ref u1), some (.ref u2), some (.ref u3), a9, a10, a11, a12, a13] H (PlanIs K CR CP k3 r3) := EvP.of (p := u3) (Evl.ev_var rfl) fun H1 e1 => g3.ex e1
  have s1 := evP_addG (evP_addG v1 v2 (by omega)) v3 (by rw [List.length_append]; omega)
  have s2 := evP_addG v1 (evP_addG v2 v3 (by omega)) (by rw [List.length_append]; omega)
  rw [← both_assoc, ← List.append_assoc] at s2
  have s3 := evP_addG v1 (evP_empty (CR := CR) (CP := CP) dfT0 dfT) (by simp only [List.length_nil]; omega)
  rw [both_nil o1.sl, List.append_nil] at s3
  have s4 := evP_addG (evP_empty (CR := CR) (CP := CP) dfT0 dfT) v1 (by simp only [List.length_nil]; omega)
  rw [nil_both o1.sl, List.nil_append] at s4
  exact Evl.q_when (b := false) (Evl.et_is (Evl.et_or (Evl.et_test (ev_neP s1 s2 o123)) (fun _ => Evl.et_or (Evl.et_test (ev_neP s3 v1 o1)) (fun _ => Evl.et_test (ev_neP s4 v1 o1)))) rfl) (fun z => nomatch z) (fun _ H1 e1 => k H1 e1)
theorem rd_twice (TP : Cls K CP) (nR : NoAttr K CP "raises") {D : Ends} {u1 : Addr} {a0 a1 a2 a3 a4 a5 a7 a8 a9 a10 a11 a12 a13 : Option V} (o1 : PlanOk k1 r1) (z1 : r1.length ≤ 3) (g1 : PlanIs K CR CP k1 r1 u1 H)
    (k : ∀ H1, Ex H H1 → D.nx [a0, a1, a2, a3, a4, a5, some (.ref u1), a7, a8, a9, a10, a11, a12, a13] H1) : rdTwice K CR CP D [a0, a1, a2, a3, a4, a5, some (.ref u1), a7, a8, a9, a10, a11, a12, a13] H := by
  have v1 : EvP (tVar 6) [a0, a1, a2, a3, a4, a5, some (.ref u1), a7, a8, a9, a10, a11, a12, a13] H (PlanIs K CR CP k1 r1) := EvP.of (p := u1) (Evl.ev_var rfl) fun H1 e1 => g1.ex e1
  have s1 := evP_addG v1 v1 (by omega)
  rw [both_self o1.sl] at s1
  refine Evl.s_when (b := false) (Evl.et_is (Evl.et_or (Evl.et_test (ev_neTs (sub_plain o1.sl) (evP_raisesP TP nR s1) (evP_raisesP TP nR v1))) (fun _ => Evl.et_test (Evl.ev_op (ev_lenP s1 (by rw [List.length_append]; omega)) (Evl.ev_op Evl.ev_c (ev_lenP v1 o1.hz) (Evl.rv_I (C := CMul) (.inl (by omega)))) (Evl.rv_ne rfl)))) ?_) (fun z => nomatch z) (fun _ H1 e1 => k H1 e1)
  rw [List.length_append]
  have e : (2 : Int) * (r1.length : Int) = ((r1.length + r1.length : Nat) : Int) := by omega
  rw [e]
  simp
theorem q_any {te : TE} {σ : L2.St} {D : Ends} {tz : TS} {i : Nat} (h : te σ H fun x H1 => tz D (σ.set i (some x)) H1) : tSeq (tAsg te (gName i)) tz D σ H := h
theorem rd_body (TP : Cls K CP) (nR : NoAttr K CP "raises") (dfT0 : ∀ H, SqT K H df0 []) (dfT : ∀ H, SqT K H df1 []) {D : Ends} {sa : Addr} {ns : List Int} {i : Nat} {a2 a3 a4 a5 a6 a7 a8 a9 a10 a11 a12 a13 : Option V} (hS : SqL K H sa (ns.map V.int)) (hlen : ns.length ≤ 63) (hi : i ≤ 60)
    (k : ∀ b2 b3 b4 b5 b6 b7 b8 b9 b10 b11 H1, Ex H H1 → D.nx [some (.ref sa), some (.int (i : Int)), b2, b3, b4, b5, b6, b7, b8, b9, b10, b11, a12, a13] H1) :
    rdBody K CR CP df0 df1 D [some (.ref sa), some (.int (i : Int)), a2, a3, a4, a5, a6, a7, a8, a9, a10, a11, a12, a13] H := by
  refine q_any ?_
  refine ⟨_, rfl, _, rfl, sa, ns, i, rfl, hS, hlen, hi, fun a b H1 sm na nb d1 => ?_⟩
  refine q_put (rd_three (a := a) (b := b) (fun _ => rfl) (fun _ => rfl) d1 fun L H2 ps hl kp hL hp => ?_)
  match ps, hl with
  | [p1, p2, p3], _ =>
    obtain ⟨k1, r1, h1, sl1, z1⟩ := hp p1 (by simp)
    obtain ⟨k2, r2, h2, sl2, z2⟩ := hp p2 (by simp)
    obtain ⟨k3, r3, h3, sl3, z3⟩ := hp p3 (by simp)
    have o1 := h1.ok sl1 (by omega)
    have o2 := h2.ok sl2 (by omega)
    have o3 := h3.ok sl3 (by omega)
    refine ⟨L, _, rfl, Evl.sq_of hL, rfl, _, _, rfl, _, _, rfl, _, _, rfl, rfl, ?_⟩
    refine rd8_made h1 o1 h2 o2 h3 o3 fun u1 u2 u3 H3 e3 g1 g2 g3 => ?_
    refine rd8_some (h1.ex e3) (h2.ex e3) (sub_good sl1).1 (sub_good sl2).1 fun t H4 e4 ht => ?_
    refine q_put ?_
    have o4 := o1.both o2 (by omega)
    refine (evP_addG (EvP.of (p := u1) (Evl.ev_var rfl) fun H1 e1 => (g1.ex e4).ex e1) (EvP.of (p := u2) (Evl.ev_var rfl) fun H1 e1 => (g2.ex e4).ex e1) (by omega)) H4 (Ex.refl _) _ fun u4 H5 e5 g4 => ?_
    have e35 := (e3.trans e4).trans e5
    have e45 := e4.trans e5
    refine rd_txt (h1.ex e35) o1 (h2.ex e35) o2 (g1.ex e45) (g2.ex e45) g4 o4 (e5 _ _ ht) fun H6 e6 => ?_
    refine q_put ⟨_, rfl, ?_⟩
    have e46 := e45.trans e6
    refine ⟨_, rfl, _, rfl, add_at (g1.ex e46) (g2.ex e46) (by omega) fun u5 H7 e7 g5 => ?_⟩
    have e47 := e46.trans e7
    refine rd_held ((h1.ex e35).ex (e6.trans e7)) o1 (by omega) (g1.ex e47) (g2.ex e47) (g4.ex (e6.trans e7)) g5 o4 fun H8 e8 => ?_
    have e48 := e47.trans e8
    refine rd_sums dfT0 dfT o1 o2 o3 z1 z2 z3 (g1.ex e48) (g2.ex e48) (g3.ex e48) fun H9 e9 => ?_
    refine rd_twice TP nR o1 z1 (g1.ex (e48.trans e9)) fun H10 e10 => ?_
    exact k _ _ _ _ _ _ _ _ _ _ H10 fun c oo hc => e10 _ _ (e9 _ _ (e48 _ _ (e3 _ _ (kp _ _ (ne_of_none hc na) (ne_of_none hc nb) (sm _ _ hc)))))
end
section
variable {P : Program} {w : World} {K : PySem.W.Frag} {mg : Str → Option Value} {base : Heap} {a_LETTERS a_LETTER_TESTS a_LETTER_DEEDS a_ANSWER_TESTS a_ANSWER_DEEDS CR CP : Addr} {tA tN : Tok}
abbrev sLaw : Stmt := topS 45
theorem scLaw : FnScope ["_law_script", "_law_spot", "_law_deal_here", "_law_one", "_law_two", "_law_three", "_law_p", "_law_q", "_law_r", "_law_some", "_law_both", "_law_held", "_law_word", "_law_turn"] ["_law_script"] (defScope sLaw) := ⟨rfl, rfl, rfl, by decide +kernel, rfl, by decide +kernel, by decide +kernel⟩
/-- what the law's own classes are -/
structure TxL (K : PySem.W.Frag) (CP fPE fPS fPL fPA : Addr) : Prop where
  eqP : PySem.W.findIn K (.ref CP) "__eq__" = some (some (.ref fPE))
  neP : PySem.W.findIn K (.ref CP) "__ne__" = some (some (.builtin "object.__ne__"))
  mrP : PySem.W.mroIn K CP (.type "object") = some true
  stP : PySem.W.findIn K (.ref CP) "__str__" = some (some (.ref fPS))
  lnP : PySem.W.findIn K (.ref CP) "__len__" = some (some (.ref fPL))
  fsP : PySem.W.selfFirst K CP = true
  pmP : plainMro K CP = true
  niP : PySem.W.findIn K (.ref CP) (dunderI "add") = some none
  adP : PySem.W.findIn K (.ref CP) (PySem.dunder "add") = some (some (.ref fPA))
  isPE : PySem.W.isFn K (.ref fPE) = true
  isPS : PySem.W.isFn K (.ref fPS) = true
  isPL : PySem.W.isFn K (.ref fPL) = true
  isPA : PySem.W.isFn K (.ref fPA) = true
def spLaw (K : PySem.W.Frag) : Sp := fun vs H Q _ => ∃ (a : Addr) (ns : List Int), vs = [.ref a] ∧ SqL K H a (ns.map V.int) ∧ ns.length ≤ 63 ∧ ∀ H', Q (.bl true) H'
theorem ok_law {f fDeal fWide fText fMade fI fPE fPS fPL fPA df0 df1 : Addr} {fd fdDeal fdWide fdText fdMade fdI fdPE fdPS fdPL fdPA : FuncData} {ds2 : List Value} (F : Fun K "law" "law" sLaw f fd) (T : TxR K mg a_LETTERS a_LETTER_TESTS a_LETTER_DEEDS a_ANSWER_TESTS a_ANSWER_DEEDS CR tA tN) (TP : TxP K mg CP) (TL : TxL K CP fPE fPS fPL fPA) (dfT0 : ∀ H, SqT K H df0 []) (dfT : ∀ H, SqT K H df1 [])
    (D_deal : Df K mg "_law_deal" sDeal ["_law_script", "_law_base"] fDeal fdDeal) (D_wide_plan : Df K mg "_law_wide_plan" sWidePlan ["_law_deal_here", "_law_most"] fWide fdWide) (D_text : Df K mg "_law_text" sText ["_law_drawn"] fText fdText) (D_made : Df K mg "_law_made" sMade ["_law_drawn"] fMade fdMade)
    (G_wide_plan : FnOk P w K mg base CX0 4 fWide fdWide ["_law_deal_here", "_law_most"] spWidePlan) (G_text : FnOk P w K mg base CX0 2 fText fdText ["_law_drawn"] (spText K)) (G_made : FnOk P w K mg base CX0 7 fMade fdMade ["_law_drawn"] (spMade K CR CP))
    (mkP : Mk K CP fI) (G_init : FnOk P w K mg base CX0 3 fI fdI ["self", "raises", "rules"] (spPlanInitG K CR CP sortedOf)) (b_init2 : Binds K fdI ["self", "raises", "rules"] ds2) (dv2 : Vals [V.ref df0, V.ref df1] ds2)
    (G_peq : FnOk P w K mg base CX0 3 fPE fdPE ["self", "other"] (spPlanEq K CR CP)) (b_peq : Binds K fdPE ["self", "other"] [])
    (G_pstr : FnOk P w K mg base CX0 4 fPS fdPS ["self"] (spPlanStr K CR CP)) (b_pstr : Binds K fdPS ["self"] [])
    (G_plen : FnOk P w K mg base CX0 1 fPL fdPL ["self"] (spPlanLen K CP)) (b_plen : Binds K fdPL ["self"] [])
    (G_padd : FnOk P w K mg base CX0 5 fPA fdPA ["self", "other"] (spPlanAdd K CR CP)) (b_padd : Binds K fdPA ["self", "other"] []) :
    FnOk P w K mg base CX0 8 f fd ["_law_script"] (spLaw K) := by
  have G_deal : FnOk P w K mg base CX0 1 fDeal fdDeal ["_law_script", "_law_base"] (spDeal K) := ok_deal D_deal.F T.toTxB
  refine F.ok scLaw (fun vs H Q E h => ?_) (fun cdv A outer s H vs Q E hr h => ?_)
  · obtain ⟨a, ns, rfl, _⟩ := h
    rfl
  · obtain ⟨sa, ns, rfl, hS, hlen, q⟩ := h
    have hr2 : Room 2 (A.deeper (envOfC "law" (defScope sLaw) s.heap.objs.size f cdv)) := hr.mono (by decide)
    have hr4 : Room 4 (A.deeper (envOfC "law" (defScope sLaw) s.heap.objs.size f cdv)) := hr.mono (by decide)
    have hr5 : Room 5 (A.deeper (envOfC "law" (defScope sLaw) s.heap.objs.size f cdv)) := hr.mono (by decide)
    have hr6 : Room 6 (A.deeper (envOfC "law" (defScope sLaw) s.heap.objs.size f cdv)) := hr.mono (by decide)
    refine ⟨_, pss_cut (ps_for PassesOwn.never rfl (pi_range1 rfl T.n_range (pa_cons (pe_callB (call_max2 rfl) (by rfl) T.n_max (by decide +kernel) (pa_cons pe_int (pa_cons (pe_callB (call_min2 rfl) (by rfl) T.n_min (by decide +kernel) (pa_cons pe_int (pa_cons (pe_callB call_len_seq (by rfl) T.n_len (by decide +kernel) (pa_cons (pv 0) pa_nil)) pa_nil))) pa_nil))) pa_nil)) (pg_name (i := 1) scLaw.nd rfl (Or.inl rfl)) (pss_cons (ps_set (i := 2) scLaw.nd rfl (.inr rfl) (pe_call (E := E0) G_deal (hr.mono (by decide)) rfl D_deal.g D_deal.F.kp D_deal.b .nil pass0 (pa_cons (pv 0) (pa_cons (pv 1) pa_nil))))
      (pss_cons (ps_asg (pe_lc (own := [("_law_turn", 13)]) (g := gName 13) (tt := tYes) rfl scLaw.nd (pi_range1 rfl T.n_range (pa_cons pe_int pa_nil)) (blkOk_by (own := [("_law_turn", 13)]) (N := ["_law_script", "_law_spot", "_law_deal_here", "_law_one", "_law_two", "_law_three", "_law_p", "_law_q", "_law_r", "_law_some", "_law_both", "_law_held", "_law_word", "_law_turn"]) (sc := defScope sLaw) (by decide +kernel)) (fun _ _ _ _ _ => (pg_name (i := 13) scLaw.nd rfl (Or.inl rfl))) (fun _ _ _ _ _ => pts_nil) (fun _ _ _ _ _ => (pe_call (E := E0) G_wide_plan (hr.mono (by decide)) rfl D_wide_plan.g D_wide_plan.F.kp D_wide_plan.b .nil pass0 (pa_cons (pv 2) (pa_cons pe_int pa_nil))))) (pg_lst (n := 3) (by rfl) (pgs_cons (pg_name (i := 3) scLaw.nd rfl (Or.inr rfl)) (pgs_cons (pg_name (i := 4) scLaw.nd rfl (Or.inr rfl)) (pgs_cons (pg_name (i := 5) scLaw.nd rfl (Or.inl rfl)) pgs_nil)))))
      (pss_cons (ps_par3 (i := 6) (j := 7) (l := 8) (by rfl) scLaw.nd rfl rfl rfl (by decide) (by decide) (by decide) rfl rfl rfl (pa_cons (pe_call (E := E0) G_made (hr.mono (by decide)) rfl D_made.g D_made.F.kp D_made.b .nil pass0 (pa_cons (pv 3) pa_nil)) (pa_cons (pe_call (E := E0) G_made (hr.mono (by decide)) rfl D_made.g D_made.F.kp D_made.b .nil pass0 (pa_cons (pv 4) pa_nil)) (pa_cons (pe_call (E := E0) G_made (hr.mono (by decide)) rfl D_made.g D_made.F.kp D_made.b .nil pass0 (pa_cons (pv 5) pa_nil)) pa_nil))) (by rfl))
      (pss_cons (ps_set (i := 9) scLaw.nd rfl (.inl rfl) (pe_callTy call_tuple_of (by rfl) T.n_tuple (by decide +kernel) (pa_cons (pe_lc (own := [("_law_word", 12)]) (g := gName 12) (tt := tTest (tOp (rIn K false) (tVar 12) (tOp (rCatA K) (tOp (rIxT K) (tVar 3) (tC (V.int 0))) (tOp (rIxT K) (tVar 4) (tC (V.int 0)))))) rfl scLaw.nd (pi_tup (pe_tup (pa_cons pe_str (pa_cons pe_str (pa_cons pe_str (pa_cons pe_str pa_nil)))))) (blkOk_by (own := [("_law_word", 12)]) (N := ["_law_script", "_law_spot", "_law_deal_here", "_law_one", "_law_two", "_law_three", "_law_p", "_law_q", "_law_r", "_law_some", "_law_both", "_law_held", "_law_word", "_law_turn"]) (sc := defScope sLaw) (by decide +kernel)) (fun _ _ _ _ _ => (pg_name (i := 12) scLaw.nd rfl (Or.inl rfl))) (fun _ _ _ _ _ => (pts_one (pt_cmpR (r := rIn K false) op_in_seq (pv 12) (pe_op (r := rCatA K) op_catA (pe_ix (r := rIxT K) ix_tup (pv 3) pe_int (fun _ _ => rfl)) (pe_ix (r := rIxT K) ix_tup (pv 4) pe_int (fun _ _ => rfl))) (by rfl)))) (fun _ _ _ _ _ => (pv 12))) pa_nil)))
      (pss_cons (ps_set (i := 10) scLaw.nd rfl (.inl rfl) (pe_op (op_addI (C := CP) (sp := spPlanAdd K CR CP) (E := E0) G_padd hr5 TL.fsP TL.adP TL.isPA b_padd pass0) (pv 6) (pv 7)))
      (pss_cons (ps_if (PW.pt (pw_or (pt_cmpR op_ne (pe_callTy (T := "str") (r := rStrI CP (spPlanStr K CR CP) E0) (call_strI G_pstr hr6 TL.stP TL.isPS b_pstr pass0) (by rfl) T.n_str (by decide +kernel) (pa_cons (pv 10) pa_nil)) (pe_call (E := E0) G_text (hr.mono (by decide)) rfl D_text.g D_text.F.kp D_text.b .nil pass0 (pa_cons (pe_tup (pa_cons (pv 9) (pa_cons (pe_op op_cat (pe_ix ix_tup (pv 3) pe_int (fun _ _ => rfl)) (pe_ix ix_tup (pv 4) pe_int (fun _ _ => rfl))) pa_nil))) pa_nil)) (nomark _)) (pw_or (pt_cmpR op_ne (pe_callTy (T := "str") (r := rStrI CP (spPlanStr K CR CP) E0) (call_strI G_pstr hr6 TL.stP TL.isPS b_pstr pass0) (by rfl) T.n_str (by decide +kernel) (pa_cons (pv 6) pa_nil)) (pe_call (E := E0) G_text (hr.mono (by decide)) rfl D_text.g D_text.F.kp D_text.b .nil pass0 (pa_cons (pv 3) pa_nil)) (nomark _)) (pw_or1 (pt_cmpR op_ne (pe_callTy (T := "str") (r := rStrI CP (spPlanStr K CR CP) E0) (call_strI G_pstr hr6 TL.stP TL.isPS b_pstr pass0) (by rfl) T.n_str (by decide +kernel) (pa_cons (pv 7) pa_nil)) (pe_call (E := E0) G_text (hr.mono (by decide)) rfl D_text.g D_text.F.kp D_text.b .nil pass0 (pa_cons (pv 4) pa_nil)) (nomark _)))))) (pss_one (ps_ret pe_bl)) pss_nil)
      (pss_cons (ps_set (i := 11) scLaw.nd rfl (.inl rfl) (pv 6))
      (pss_cons (ps_aug (i := 11) scLaw.nd rfl (.inl rfl) (pv 7) (ip_addI (C := CP) (sp := spPlanAdd K CR CP) (E := E0) G_padd hr5 TL.fsP TL.pmP TL.niP TL.adP TL.isPA b_padd pass0))
      (pss_cons (ps_if (PW.pt (pw_or (pt_cmpR (op_neI (C := CP) (sp := spPlanEq K CR CP) (E := E0) G_peq hr4 TL.eqP TL.neP TL.mrP TL.isPE b_peq pass0) (pv 11) (pv 10) (nomark _)) (pw_or (pt_cmpR op_ne (pe_callTy (T := "str") (r := rStrI CP (spPlanStr K CR CP) E0) (call_strI G_pstr hr6 TL.stP TL.isPS b_pstr pass0) (by rfl) T.n_str (by decide +kernel) (pa_cons (pv 6) pa_nil)) (pe_call (E := E0) G_text (hr.mono (by decide)) rfl D_text.g D_text.F.kp D_text.b .nil pass0 (pa_cons (pv 3) pa_nil)) (nomark _)) (pw_or1 (pt_cmpR op_ne (pe_callB (r := rLenI CP (spPlanLen K CP) E0) (call_lenI G_plen hr2 TL.lnP TL.isPL b_plen pass0) (by rfl) T.n_len (by decide +kernel) (pa_cons (pv 11) pa_nil)) (pe_op op_add (pe_callB (r := rLenI CP (spPlanLen K CP) E0) (call_lenI G_plen hr2 TL.lnP TL.isPL b_plen pass0) (by rfl) T.n_len (by decide +kernel) (pa_cons (pv 6) pa_nil)) (pe_callB (r := rLenI CP (spPlanLen K CP) E0) (call_lenI G_plen hr2 TL.lnP TL.isPL b_plen pass0) (by rfl) T.n_len (by decide +kernel) (pa_cons (pv 7) pa_nil))) (nomark _)))))) (pss_one (ps_ret pe_bl)) pss_nil)
      (pss_cons (ps_if (PW.pt (pw_or (pt_cmpR (op_neI (C := CP) (sp := spPlanEq K CR CP) (E := E0) G_peq hr4 TL.eqP TL.neP TL.mrP TL.isPE b_peq pass0) (pe_op (op_addI (C := CP) (sp := spPlanAdd K CR CP) (E := E0) G_padd hr5 TL.fsP TL.adP TL.isPA b_padd pass0) (pe_op (op_addI (C := CP) (sp := spPlanAdd K CR CP) (E := E0) G_padd hr5 TL.fsP TL.adP TL.isPA b_padd pass0) (pv 6) (pv 7)) (pv 8)) (pe_op (op_addI (C := CP) (sp := spPlanAdd K CR CP) (E := E0) G_padd hr5 TL.fsP TL.adP TL.isPA b_padd pass0) (pv 6) (pe_op (op_addI (C := CP) (sp := spPlanAdd K CR CP) (E := E0) G_padd hr5 TL.fsP TL.adP TL.isPA b_padd pass0) (pv 7) (pv 8))) (nomark _)) (pw_or (pt_cmpR (op_neI (C := CP) (sp := spPlanEq K CR CP) (E := E0) G_peq hr4 TL.eqP TL.neP TL.mrP TL.isPE b_peq pass0) (pe_op (op_addI (C := CP) (sp := spPlanAdd K CR CP) (E := E0) G_padd hr5 TL.fsP TL.adP TL.isPA b_padd pass0) (pv 6) (pe_make0 (sp := spPlanInitG K CR CP sortedOf) (E := E0) mkP G_init hr4 rfl TP.g_Plan b_init2 dv2 pass0)) (pv 6) (nomark _)) (pw_or1 (pt_cmpR (op_neI (C := CP) (sp := spPlanEq K CR CP) (E := E0) G_peq hr4 TL.eqP TL.neP TL.mrP TL.isPE b_peq pass0) (pe_op (op_addI (C := CP) (sp := spPlanAdd K CR CP) (E := E0) G_padd hr5 TL.fsP TL.adP TL.isPA b_padd pass0) (pe_make0 (sp := spPlanInitG K CR CP sortedOf) (E := E0) mkP G_init hr4 rfl TP.g_Plan b_init2 dv2 pass0) (pv 6)) (pv 6) (nomark _)))))) (pss_one (ps_ret pe_bl)) pss_nil)
      (pss_one (ps_if (PW.pt (pw_or (pt_cmpR (op_neD hr.units) (pe_fld (pe_op (op_addI (C := CP) (sp := spPlanAdd K CR CP) (E := E0) G_padd hr5 TL.fsP TL.adP TL.isPA b_padd pass0) (pv 6) (pv 6)) rfl) (pe_fld (pv 6) rfl) (nomark _)) (pw_or1 (pt_cmpR op_ne (pe_callB (r := rLenI CP (spPlanLen K CP) E0) (call_lenI G_plen hr2 TL.lnP TL.isPL b_plen pass0) (by rfl) T.n_len (by decide +kernel) (pa_cons (pe_op (op_addI (C := CP) (sp := spPlanAdd K CR CP) (E := E0) G_padd hr5 TL.fsP TL.adP TL.isPA b_padd pass0) (pv 6) (pv 6)) pa_nil)) (pe_op op_mul pe_int (pe_callB (r := rLenI CP (spPlanLen K CP) E0) (call_lenI G_plen hr2 TL.lnP TL.isPL b_plen pass0) (by rfl) T.n_len (by decide +kernel) (pa_cons (pv 6) pa_nil))) (nomark _))))) (pss_one (ps_ret pe_bl)) pss_nil)))))))))))))
      (pss_one (ps_ret pe_bl)), ?_⟩
    have hm : ∃ n : Int, (if (if ((ns.map V.int).length : Int) < 5 then ((ns.map V.int).length : Int) else 5) > 2 then (if ((ns.map V.int).length : Int) < 5 then ((ns.map V.int).length : Int) else 5) else 2) = n ∧ 0 ≤ n ∧ n ≤ 5 := ⟨_, rfl, by split <;> split <;> omega, by split <;> split <;> omega⟩
    obtain ⟨n, hn, n0, n5⟩ := hm
    refine Evl.q_cut (M := fun _ _ => True) ?_ (fun σ' H' _ => q H')
    refine Evl.s_forR1 (n := n) ?_ ⟨n0, Int.le_trans n5 (by decide)⟩ (fun _ σ' H' => ∃ b1 b2 b3 b4 b5 b6 b7 b8 b9 b10 b11 b12 b13 : Option V, σ' = [some (.ref sa), b1, b2, b3, b4, b5, b6, b7, b8, b9, b10, b11, b12, b13] ∧ Ex H H') ?_ ?_ ?_
    · intro H1 e1 Q2 q2
      refine ⟨_, rfl, sa, _, rfl, .inl (Evl.ex_l e1 hS), 5, _, rfl, 2, _, rfl, ?_⟩
      have q3 := q2 H1 (Ex.refl _)
      rw [← hn] at q3
      exact q3
    · intro H1 e1
      exact ⟨_, _, _, _, _, _, _, _, _, _, _, _, _, rfl, e1⟩
    · rintro i σ' H' hi ⟨b1, b2, b3, b4, b5, b6, b7, b8, b9, b10, b11, b12, b13, rfl, e1⟩
      exact rd_body (CR := CR) TP.cl TP.nR dfT0 dfT (Evl.ex_l e1 hS) hlen (by omega) fun _ _ _ _ _ _ _ _ _ _ H2 e2 => ⟨_, _, _, _, _, _, _, _, _, _, _, _, _, rfl, e1.trans e2⟩
    · exact fun _ _ _ => trivial
end
end Ov

namespace Ov
open PySem PySem.Spec PyProof.Rows L2
/-- an empty tuple of the known heap -/
def emB (K : PySem.W.Frag) (a : Addr) : Bool := match K.lookup a with
  | some ⟨.type c, _, .seq its _, _⟩ => decide (c = "tuple") && decide (its = #[])
  | _ => false
theorem emB_ok {K : PySem.W.Frag} {a : Addr} (h : emB K a = true) (H : Hp) : SqT K H a [] := by
  unfold emB at h
  split at h
  · rename_i q
    obtain ⟨h1, h2⟩ := Bool.and_eq_true_iff.mp h
    have e := of_decide_eq_true h2
    subst e
    exact .inr ⟨_, _, _, q, congrArg Value.type (of_decide_eq_true h1), rfl, Nat.zero_le _, .nil⟩
  · cases h
def dA (x : Str) (st : Stmt) : He5.DefA := ⟨fun K => He.ga K x, x, x, defArgs st, defBody st, defScope st, [], []⟩
def dM (c m q : Str) (st : Stmt) (dfl : List He.Dv) : He5.DefA := ⟨fun K => He.ma K (He.ga K c) m, m, q, defArgs st, defBody st, defScope st, dfl, []⟩
def dC (c m q : Str) (st : Stmt) : He5.DefA := ⟨fun K => He5.wf K (He.ga K c) "classmethod" m, m, q, defArgs st, defBody st, defScope st, [], []⟩
def fn : List He5.DefA := [dA "_law_deal" sDeal, dA "_law_draw" sDraw, dA "_law_pick" sPick, dA "_law_tests_of" sTestsOf, dA "_law_deeds_of" sDeedsOf, dA "_law_wide_rule" sWideRule, dA "_law_rule_text" sRuleText, dA "_law_text" sText, dA "_law_wide_plan" sWidePlan, dA "_law_made" sMade, dA "law" sLaw, dA "is_sequence" sIsSequence, dA "is_kind" sIsKind, dA "is_test" sIsTest, dA "is_deed" sIsDeed, dA "split_part" sSplitPart, dA "are_raises" sAreRaises, dA "are_rules" sAreRules, dA "read_rule" sReadRule, dM "Rule" "__init__" "Rule.__init__" sRuleInit [.adr (He.dflAt ("Rule", some "__init__") 0), .adr (He.dflAt ("Rule", some "__init__") 1)], dM "Rule" "__eq__" "Rule.__eq__" sRuleEq [], dM "Rule" "__str__" "Rule.__str__" sRuleStr [], dM "Plan" "__init__" "Plan.__init__" sPlanInit [.adr (He.dflAt ("Plan", some "__init__") 0), .adr (He.dflAt ("Plan", some "__init__") 1)], dM "Plan" "__eq__" "Plan.__eq__" sPlanEq [], dM "Plan" "__str__" "Plan.__str__" sPlanStr [], dM "Plan" "__len__" "Plan.__len__" sPlanLen [], dM "Plan" "__add__" "Plan.__add__" sPlanAdd [], dC "Rule" "read" "Rule.read" sRuleRead, dC "Plan" "read" "Plan.read" sPlanRead]
def fa : List He.Fa := [.glo "_law_deal", .glo "_law_draw", .glo "_law_pick", .glo "_law_tests_of", .glo "_law_deeds_of", .glo "_law_wide_rule", .glo "_law_rule_text", .glo "_law_text", .glo "_law_wide_plan", .glo "_law_made", .glo "law", .glo "is_sequence", .glo "is_kind", .glo "is_test", .glo "is_deed", .glo "split_part", .glo "are_raises", .glo "are_rules", .glo "read_rule", .glo "Rule", .glo "Plan", .glo "LETTERS", .glo "LETTER_TESTS", .glo "LETTER_DEEDS", .glo "ANSWER_TESTS", .glo "ANSWER_DEEDS", .free "int", .free "abs", .free "len", .free "range", .free "max", .free "min", .free "list", .free "tuple", .free "isinstance", .free "str", .free "all", .free "sorted", .free "set", .free "bool", .free "enumerate", .str "ANSWER" "answer", .str "NOT" "not ", .cls "Rule", .cls "Plan", .noat "Rule" "kind", .noat "Rule" "tests", .noat "Rule" "deeds", .noat "Plan" "raises", .noat "Plan" "rules", .meth "Rule" "__eq__", .meth "Rule" "__str__", .meth "Plan" "__eq__", .meth "Plan" "__str__", .meth "Plan" "__len__", .meth "Plan" "__add__", .mkr "Rule", .mkr "Plan"]
def exL (K : PySem.W.Frag) : List Bool := [He.tupB K "LETTERS" [.str "ask", .str "day", .str "off", .str "stop"], He.tupB K "LETTER_TESTS" [.str "whole", .str "own", .str "above whole", .str "above own", .str "level whole", .str "level own", .str "later whole", .str "later own"], He.tupB K "LETTER_DEEDS" [.str "take", .str "wipe"], He.tupB K "ANSWER_TESTS" [.str "level"], He.tupB K "ANSWER_DEEDS" [.str "count", .str "drop"], decide (PySem.W.mroIn K (He.ga K "Rule") (.type "object") = some true), He.eqO (PySem.W.findIn K (.ref (He.ga K "Rule")) "__class__") (some (some (.builtin "object.__class__"))), He.eqO (PySem.W.specialIn K (.builtin "object.__class__") "__get__") (some (some (.builtin "getset_descriptor.__get__"))), decide (PySem.W.takesIn K (.builtin "object.__class__") = some true), decide (PySem.W.mroIn K (He.ga K "Plan") (.type "object") = some true), He.eqO (PySem.W.findIn K (.ref (He.ga K "Plan")) "__class__") (some (some (.builtin "object.__class__"))), He.eqO (PySem.W.findIn K (.ref (He.ga K "Plan")) "__ne__") (some (some (.builtin "object.__ne__"))), PySem.W.selfFirst K (He.ga K "Plan"), plainMro K (He.ga K "Plan"), PySem.W.readsIn K (He.ga K "Rule") (.type "type"), He.eqO (PySem.W.specialIn K (.ref (He.ga K "Rule")) "__getattribute__") (some (some (.builtin "type.__getattribute__"))), He5.wrapB K (He.ga K "Rule") "classmethod" "classmethod.__get__" "read", PySem.W.fnIn K (He5.wf K (He.ga K "Rule") "classmethod" "read"), PySem.W.readsIn K (He.ga K "Plan") (.type "type"), He.eqO (PySem.W.specialIn K (.ref (He.ga K "Plan")) "__getattribute__") (some (some (.builtin "type.__getattribute__"))), He5.wrapB K (He.ga K "Plan") "classmethod" "classmethod.__get__" "read", PySem.W.fnIn K (He5.wf K (He.ga K "Plan") "classmethod" "read"), emB K (He.dflAt ("Plan", some "__init__") 0 K), emB K (He.dflAt ("Plan", some "__init__") 1 K), He.eqO (PySem.W.findIn K (.ref (He.ga K "Plan")) (dunderI "add")) (some none)]
def ex (K : PySem.W.Frag) : Bool := (exL K).all id
theorem ex_at {K : PySem.W.Frag} (h : ex K = true) (i : Nat) {b : Bool} (e : (exL K)[i]? = some b) : b = true := List.all_eq_true.mp h b (List.mem_of_getElem? e)
def names : List Str := (["_wall", "__name__", "LetterError", "InvalidRule", "InvalidPlan", "InvalidText", "NoRule", "is_sequence", "is_integer", "is_place", "LETTERS", "ANSWER", "LETTER_TESTS", "LETTER_DEEDS", "ANSWER_TESTS", "ANSWER_DEEDS", "NOT", "is_kind", "is_test", "is_deed", "split_part", "Rule", "are_raises", "are_rules", "read_rule"] : List Str) ++ (["Plan", "_law_deal", "_law_draw", "_law_pick", "_law_mixed", "_law_tests_of", "_law_deeds_of", "_law_any_rule", "_law_usual_rules", "_law_raised", "_law_plan", "_law_rule_text", "_law_text", "_law_wide_rule", "_law_wide_plan", "_law_made"] : List Str)
abbrev R : PySem.W.OpenRow := PySem.W.OpenLaw.row PySem.Challenge.rw_overtaken_k08_plans_put_together
def part (n : Nat) (g : Addr → Option Obj) : PySem.W.Frag := He.frG g (He5.asA g n)
def seen (n : Nat) (g : Addr → Option Obj) : He.AlD × Bool := (He5.obsA fa fn (part n g), ex (part n g))
structure Says (K : PySem.W.Frag) : Prop where
  d : He5.SaysA fa fn K
  more : ex K = true
def hk : PySem.W.Hook where
  α := He.AlD × Bool
  obs := fun s => seen 6 s.heap.get?
  val := fun _ => (He5.valA fn, true)
  says := fun _ h => ∃ K : PySem.W.Frag, K.In h ∧ Says K
  of := fun _ _ e => ⟨_, He.frG_in, ⟨congrArg (fun z : He.AlD × Bool => z.1) e, congrArg (fun z : He.AlD × Bool => z.2) e⟩⟩
  keeps := fun _ _ _ ⟨K, hK, c⟩ k => ⟨K, PySem.W.Frag.In.keeps hK k, c⟩
def ob (s : PySem.W.SharedT) : He.AlD × Bool := seen 6 (HandSHeadRun.getT s)
theorem ob_eq (s : PySem.W.SharedT) : ob s = hk.obs s.abs := by
  have e : HandSHeadRun.getT s = s.abs.heap.get? := funext fun a => HandSHeadRun.getT_eq s a
  show seen 6 (HandSHeadRun.getT s) = seen 6 s.abs.heap.get?
  rw [e] <;> rfl
theorem run (w : World) : HandSHeadRun.RunEq R (PySem.W.view R.prog [45]) hk ob 6000 names w := by
  intro os
  kernel_rfl
section
variable {K : PySem.W.Frag} {h : Heap} {mg : Str → Option Value}
theorem df_law_deal (X : K.In h) (G : h.Ns mainGlobals mg) (c : Says K) : ∃ fd, Df K mg "_law_deal" sDeal ["_law_script", "_law_base"] (He.ga K "_law_deal") fd := by
  obtain ⟨fd, F⟩ := c.d.def_ 0 (d := dA "_law_deal" sDeal) rfl
  exact ⟨fd, He5.fun_of F, He.glo_ok X G (c.d.fact 0 (f := .glo "_law_deal") rfl), FunD.bindsN (ps := ["_law_script", "_law_base"]) F fun _ _ _ _ _ _ us hl => match us, hl with | [_, _], _ => rfl⟩
theorem df_law_draw (X : K.In h) (G : h.Ns mainGlobals mg) (c : Says K) : ∃ fd, Df K mg "_law_draw" sDraw ["_law_deal_here", "_law_many"] (He.ga K "_law_draw") fd := by
  obtain ⟨fd, F⟩ := c.d.def_ 1 (d := dA "_law_draw" sDraw) rfl
  exact ⟨fd, He5.fun_of F, He.glo_ok X G (c.d.fact 1 (f := .glo "_law_draw") rfl), FunD.bindsN (ps := ["_law_deal_here", "_law_many"]) F fun _ _ _ _ _ _ us hl => match us, hl with | [_, _], _ => rfl⟩
theorem df_law_pick (X : K.In h) (G : h.Ns mainGlobals mg) (c : Says K) : ∃ fd, Df K mg "_law_pick" sPick ["_law_deal_here", "_law_some"] (He.ga K "_law_pick") fd := by
  obtain ⟨fd, F⟩ := c.d.def_ 2 (d := dA "_law_pick" sPick) rfl
  exact ⟨fd, He5.fun_of F, He.glo_ok X G (c.d.fact 2 (f := .glo "_law_pick") rfl), FunD.bindsN (ps := ["_law_deal_here", "_law_some"]) F fun _ _ _ _ _ _ us hl => match us, hl with | [_, _], _ => rfl⟩
theorem df_law_tests_of (X : K.In h) (G : h.Ns mainGlobals mg) (c : Says K) : ∃ fd, Df K mg "_law_tests_of" sTestsOf ["_law_kind"] (He.ga K "_law_tests_of") fd := by
  obtain ⟨fd, F⟩ := c.d.def_ 3 (d := dA "_law_tests_of" sTestsOf) rfl
  exact ⟨fd, He5.fun_of F, He.glo_ok X G (c.d.fact 3 (f := .glo "_law_tests_of") rfl), FunD.bindsN (ps := ["_law_kind"]) F fun _ _ _ _ _ _ us hl => match us, hl with | [_], _ => rfl⟩
theorem df_law_deeds_of (X : K.In h) (G : h.Ns mainGlobals mg) (c : Says K) : ∃ fd, Df K mg "_law_deeds_of" sDeedsOf ["_law_kind"] (He.ga K "_law_deeds_of") fd := by
  obtain ⟨fd, F⟩ := c.d.def_ 4 (d := dA "_law_deeds_of" sDeedsOf) rfl
  exact ⟨fd, He5.fun_of F, He.glo_ok X G (c.d.fact 4 (f := .glo "_law_deeds_of") rfl), FunD.bindsN (ps := ["_law_kind"]) F fun _ _ _ _ _ _ us hl => match us, hl with | [_], _ => rfl⟩
theorem df_law_wide_rule (X : K.In h) (G : h.Ns mainGlobals mg) (c : Says K) : ∃ fd, Df K mg "_law_wide_rule" sWideRule ["_law_deal_here"] (He.ga K "_law_wide_rule") fd := by
  obtain ⟨fd, F⟩ := c.d.def_ 5 (d := dA "_law_wide_rule" sWideRule) rfl
  exact ⟨fd, He5.fun_of F, He.glo_ok X G (c.d.fact 5 (f := .glo "_law_wide_rule") rfl), FunD.bindsN (ps := ["_law_deal_here"]) F fun _ _ _ _ _ _ us hl => match us, hl with | [_], _ => rfl⟩
theorem df_law_rule_text (X : K.In h) (G : h.Ns mainGlobals mg) (c : Says K) : ∃ fd, Df K mg "_law_rule_text" sRuleText ["_law_rule"] (He.ga K "_law_rule_text") fd := by
  obtain ⟨fd, F⟩ := c.d.def_ 6 (d := dA "_law_rule_text" sRuleText) rfl
  exact ⟨fd, He5.fun_of F, He.glo_ok X G (c.d.fact 6 (f := .glo "_law_rule_text") rfl), FunD.bindsN (ps := ["_law_rule"]) F fun _ _ _ _ _ _ us hl => match us, hl with | [_], _ => rfl⟩
theorem df_law_text (X : K.In h) (G : h.Ns mainGlobals mg) (c : Says K) : ∃ fd, Df K mg "_law_text" sText ["_law_drawn"] (He.ga K "_law_text") fd := by
  obtain ⟨fd, F⟩ := c.d.def_ 7 (d := dA "_law_text" sText) rfl
  exact ⟨fd, He5.fun_of F, He.glo_ok X G (c.d.fact 7 (f := .glo "_law_text") rfl), FunD.bindsN (ps := ["_law_drawn"]) F fun _ _ _ _ _ _ us hl => match us, hl with | [_], _ => rfl⟩
theorem df_law_wide_plan (X : K.In h) (G : h.Ns mainGlobals mg) (c : Says K) : ∃ fd, Df K mg "_law_wide_plan" sWidePlan ["_law_deal_here", "_law_most"] (He.ga K "_law_wide_plan") fd := by
  obtain ⟨fd, F⟩ := c.d.def_ 8 (d := dA "_law_wide_plan" sWidePlan) rfl
  exact ⟨fd, He5.fun_of F, He.glo_ok X G (c.d.fact 8 (f := .glo "_law_wide_plan") rfl), FunD.bindsN (ps := ["_law_deal_here", "_law_most"]) F fun _ _ _ _ _ _ us hl => match us, hl with | [_, _], _ => rfl⟩
theorem df_law_made (X : K.In h) (G : h.Ns mainGlobals mg) (c : Says K) : ∃ fd, Df K mg "_law_made" sMade ["_law_drawn"] (He.ga K "_law_made") fd := by
  obtain ⟨fd, F⟩ := c.d.def_ 9 (d := dA "_law_made" sMade) rfl
  exact ⟨fd, He5.fun_of F, He.glo_ok X G (c.d.fact 9 (f := .glo "_law_made") rfl), FunD.bindsN (ps := ["_law_drawn"]) F fun _ _ _ _ _ _ us hl => match us, hl with | [_], _ => rfl⟩
theorem df_is_sequence (X : K.In h) (G : h.Ns mainGlobals mg) (c : Says K) : ∃ fd, Df K mg "is_sequence" sIsSequence ["value"] (He.ga K "is_sequence") fd := by
  obtain ⟨fd, F⟩ := c.d.def_ 11 (d := dA "is_sequence" sIsSequence) rfl
  exact ⟨fd, He5.fun_of F, He.glo_ok X G (c.d.fact 11 (f := .glo "is_sequence") rfl), FunD.bindsN (ps := ["value"]) F fun _ _ _ _ _ _ us hl => match us, hl with | [_], _ => rfl⟩
theorem df_is_kind (X : K.In h) (G : h.Ns mainGlobals mg) (c : Says K) : ∃ fd, Df K mg "is_kind" sIsKind ["value"] (He.ga K "is_kind") fd := by
  obtain ⟨fd, F⟩ := c.d.def_ 12 (d := dA "is_kind" sIsKind) rfl
  exact ⟨fd, He5.fun_of F, He.glo_ok X G (c.d.fact 12 (f := .glo "is_kind") rfl), FunD.bindsN (ps := ["value"]) F fun _ _ _ _ _ _ us hl => match us, hl with | [_], _ => rfl⟩
theorem df_is_test (X : K.In h) (G : h.Ns mainGlobals mg) (c : Says K) : ∃ fd, Df K mg "is_test" sIsTest ["kind", "value"] (He.ga K "is_test") fd := by
  obtain ⟨fd, F⟩ := c.d.def_ 13 (d := dA "is_test" sIsTest) rfl
  exact ⟨fd, He5.fun_of F, He.glo_ok X G (c.d.fact 13 (f := .glo "is_test") rfl), FunD.bindsN (ps := ["kind", "value"]) F fun _ _ _ _ _ _ us hl => match us, hl with | [_, _], _ => rfl⟩
theorem df_is_deed (X : K.In h) (G : h.Ns mainGlobals mg) (c : Says K) : ∃ fd, Df K mg "is_deed" sIsDeed ["kind", "value"] (He.ga K "is_deed") fd := by
  obtain ⟨fd, F⟩ := c.d.def_ 14 (d := dA "is_deed" sIsDeed) rfl
  exact ⟨fd, He5.fun_of F, He.glo_ok X G (c.d.fact 14 (f := .glo "is_deed") rfl), FunD.bindsN (ps := ["kind", "value"]) F fun _ _ _ _ _ _ us hl => match us, hl with | [_, _], _ => rfl⟩
theorem df_split_part (X : K.In h) (G : h.Ns mainGlobals mg) (c : Says K) : ∃ fd, Df K mg "split_part" sSplitPart ["sign", "text", "between"] (He.ga K "split_part") fd := by
  obtain ⟨fd, F⟩ := c.d.def_ 15 (d := dA "split_part" sSplitPart) rfl
  exact ⟨fd, He5.fun_of F, He.glo_ok X G (c.d.fact 15 (f := .glo "split_part") rfl), FunD.bindsN (ps := ["sign", "text", "between"]) F fun _ _ _ _ _ _ us hl => match us, hl with | [_, _, _], _ => rfl⟩
theorem df_are_raises (X : K.In h) (G : h.Ns mainGlobals mg) (c : Says K) : ∃ fd, Df K mg "are_raises" sAreRaises ["value"] (He.ga K "are_raises") fd := by
  obtain ⟨fd, F⟩ := c.d.def_ 16 (d := dA "are_raises" sAreRaises) rfl
  exact ⟨fd, He5.fun_of F, He.glo_ok X G (c.d.fact 16 (f := .glo "are_raises") rfl), FunD.bindsN (ps := ["value"]) F fun _ _ _ _ _ _ us hl => match us, hl with | [_], _ => rfl⟩
theorem df_are_rules (X : K.In h) (G : h.Ns mainGlobals mg) (c : Says K) : ∃ fd, Df K mg "are_rules" sAreRules ["value"] (He.ga K "are_rules") fd := by
  obtain ⟨fd, F⟩ := c.d.def_ 17 (d := dA "are_rules" sAreRules) rfl
  exact ⟨fd, He5.fun_of F, He.glo_ok X G (c.d.fact 17 (f := .glo "are_rules") rfl), FunD.bindsN (ps := ["value"]) F fun _ _ _ _ _ _ us hl => match us, hl with | [_], _ => rfl⟩
theorem df_read_rule (X : K.In h) (G : h.Ns mainGlobals mg) (c : Says K) : ∃ fd, Df K mg "read_rule" sReadRule ["line", "at"] (He.ga K "read_rule") fd := by
  obtain ⟨fd, F⟩ := c.d.def_ 18 (d := dA "read_rule" sReadRule) rfl
  exact ⟨fd, He5.fun_of F, He.glo_ok X G (c.d.fact 18 (f := .glo "read_rule") rfl), FunD.bindsN (ps := ["line", "at"]) F fun _ _ _ _ _ _ us hl => match us, hl with | [_, _], _ => rfl⟩
theorem dm_Rule_init (c : Says K) : ∃ fd, FunD K "__init__" "Rule.__init__" (defArgs sRuleInit) (defBody sRuleInit) (defScope sRuleInit) [V.ref (He.dflAt ("Rule", some "__init__") 0 K), V.ref (He.dflAt ("Rule", some "__init__") 1 K)] [] (He.ma K (He.ga K "Rule") "__init__") fd ∧ Binds K fd ["self", "kind", "tests", "deeds"] [] := by
  obtain ⟨fd, F⟩ := c.d.def_ 19 (d := dM "Rule" "__init__" "Rule.__init__" sRuleInit [.adr (He.dflAt ("Rule", some "__init__") 0), .adr (He.dflAt ("Rule", some "__init__") 1)]) rfl
  obtain ⟨ds, hv, hb⟩ := FunD.binds1 (ps := ["self", "kind", "tests", "deeds"]) F 4 2 (fun z => nomatch z) rfl fun _ _ _ _ _ _ _ us its h1 h2 => match us, its, h1, h2 with | [_, _, _, _], [_, _], _, _ => ⟨_, rfl, rfl⟩
  cases hv
  exact ⟨fd, F, hb⟩
theorem dm_Rule_eq (c : Says K) : ∃ fd, Fun K "__eq__" "Rule.__eq__" sRuleEq (He.ma K (He.ga K "Rule") "__eq__") fd ∧ Binds K fd ["self", "other"] [] := by
  obtain ⟨fd, F⟩ := c.d.def_ 20 (d := dM "Rule" "__eq__" "Rule.__eq__" sRuleEq []) rfl
  exact ⟨fd, He5.fun_of F, FunD.bindsN (ps := ["self", "other"]) F fun _ _ _ _ _ _ us hl => match us, hl with | [_, _], _ => rfl⟩
theorem dm_Rule_str (c : Says K) : ∃ fd, Fun K "__str__" "Rule.__str__" sRuleStr (He.ma K (He.ga K "Rule") "__str__") fd ∧ Binds K fd ["self"] [] := by
  obtain ⟨fd, F⟩ := c.d.def_ 21 (d := dM "Rule" "__str__" "Rule.__str__" sRuleStr []) rfl
  exact ⟨fd, He5.fun_of F, FunD.bindsN (ps := ["self"]) F fun _ _ _ _ _ _ us hl => match us, hl with | [_], _ => rfl⟩
theorem dm_Plan_init (c : Says K) : ∃ fd, FunD K "__init__" "Plan.__init__" (defArgs sPlanInit) (defBody sPlanInit) (defScope sPlanInit) [V.ref (He.dflAt ("Plan", some "__init__") 0 K), V.ref (He.dflAt ("Plan", some "__init__") 1 K)] [] (He.ma K (He.ga K "Plan") "__init__") fd ∧ Binds K fd ["self", "raises", "rules"] [] := by
  obtain ⟨fd, F⟩ := c.d.def_ 22 (d := dM "Plan" "__init__" "Plan.__init__" sPlanInit [.adr (He.dflAt ("Plan", some "__init__") 0), .adr (He.dflAt ("Plan", some "__init__") 1)]) rfl
  obtain ⟨ds, hv, hb⟩ := FunD.binds1 (ps := ["self", "raises", "rules"]) F 3 2 (fun z => nomatch z) rfl fun _ _ _ _ _ _ _ us its h1 h2 => match us, its, h1, h2 with | [_, _, _], [_, _], _, _ => ⟨_, rfl, rfl⟩
  cases hv
  exact ⟨fd, F, hb⟩
theorem dm_Plan_eq (c : Says K) : ∃ fd, Fun K "__eq__" "Plan.__eq__" sPlanEq (He.ma K (He.ga K "Plan") "__eq__") fd ∧ Binds K fd ["self", "other"] [] := by
  obtain ⟨fd, F⟩ := c.d.def_ 23 (d := dM "Plan" "__eq__" "Plan.__eq__" sPlanEq []) rfl
  exact ⟨fd, He5.fun_of F, FunD.bindsN (ps := ["self", "other"]) F fun _ _ _ _ _ _ us hl => match us, hl with | [_, _], _ => rfl⟩
theorem dm_Plan_str (c : Says K) : ∃ fd, Fun K "__str__" "Plan.__str__" sPlanStr (He.ma K (He.ga K "Plan") "__str__") fd ∧ Binds K fd ["self"] [] := by
  obtain ⟨fd, F⟩ := c.d.def_ 24 (d := dM "Plan" "__str__" "Plan.__str__" sPlanStr []) rfl
  exact ⟨fd, He5.fun_of F, FunD.bindsN (ps := ["self"]) F fun _ _ _ _ _ _ us hl => match us, hl with | [_], _ => rfl⟩
theorem dm_Plan_len (c : Says K) : ∃ fd, Fun K "__len__" "Plan.__len__" sPlanLen (He.ma K (He.ga K "Plan") "__len__") fd ∧ Binds K fd ["self"] [] := by
  obtain ⟨fd, F⟩ := c.d.def_ 25 (d := dM "Plan" "__len__" "Plan.__len__" sPlanLen []) rfl
  exact ⟨fd, He5.fun_of F, FunD.bindsN (ps := ["self"]) F fun _ _ _ _ _ _ us hl => match us, hl with | [_], _ => rfl⟩
theorem dm_Plan_add (c : Says K) : ∃ fd, Fun K "__add__" "Plan.__add__" sPlanAdd (He.ma K (He.ga K "Plan") "__add__") fd ∧ Binds K fd ["self", "other"] [] := by
  obtain ⟨fd, F⟩ := c.d.def_ 26 (d := dM "Plan" "__add__" "Plan.__add__" sPlanAdd []) rfl
  exact ⟨fd, He5.fun_of F, FunD.bindsN (ps := ["self", "other"]) F fun _ _ _ _ _ _ us hl => match us, hl with | [_, _], _ => rfl⟩
theorem dm_Rule_read (c : Says K) : ∃ fd, Fun K "read" "Rule.read" sRuleRead (He5.wf K (He.ga K "Rule") "classmethod" "read") fd ∧ Binds K fd ["cls", "text"] [] := by
  obtain ⟨fd, F⟩ := c.d.def_ 27 (d := dC "Rule" "read" "Rule.read" sRuleRead) rfl
  exact ⟨fd, He5.fun_of F, FunD.bindsN (ps := ["cls", "text"]) F fun _ _ _ _ _ _ us hl => match us, hl with | [_, _], _ => rfl⟩
theorem dm_Plan_read (c : Says K) : ∃ fd, Fun K "read" "Plan.read" sPlanRead (He5.wf K (He.ga K "Plan") "classmethod" "read") fd ∧ Binds K fd ["cls", "text"] [] := by
  obtain ⟨fd, F⟩ := c.d.def_ 28 (d := dC "Plan" "read" "Plan.read" sPlanRead) rfl
  exact ⟨fd, He5.fun_of F, FunD.bindsN (ps := ["cls", "text"]) F fun _ _ _ _ _ _ us hl => match us, hl with | [_, _], _ => rfl⟩
end
theorem facts {P : Program} {w : World} {K : PySem.W.Frag} {h : Heap} {mg : Str → Option Value} {f : Addr} (X : K.In h) (G : h.Ns mainGlobals mg) (hfa : mg ("law" : Str) = some (.ref f)) (c : Says K) :
    ∃ fd : FuncData, (∀ (s : Shared) (v : Value), BindsTo s fd ⟨[v], []⟩ [("_law_script", v)]) ∧ ∀ base : Heap, K.In base → base.Ns mainGlobals mg → FnOk P w K mg base CX0 8 f fd ["_law_script"] (spLaw K) := by
  obtain ⟨fd, F⟩ := c.d.def_ 10 (d := dA "law" sLaw) rfl
  have e := hfa.symm.trans (He.glo_ok X G (c.d.fact 10 (f := .glo "law") rfl))
  cases e
  have b := FunD.bindsA (ps := ["_law_script"]) F fun _ _ _ _ _ _ us hl => match us, hl with | [_], _ => rfl
  obtain ⟨d_deal, D_deal⟩ := df_law_deal X G c
  obtain ⟨d_draw, D_draw⟩ := df_law_draw X G c
  obtain ⟨d_pick, D_pick⟩ := df_law_pick X G c
  obtain ⟨d_tests_of, D_tests_of⟩ := df_law_tests_of X G c
  obtain ⟨d_deeds_of, D_deeds_of⟩ := df_law_deeds_of X G c
  obtain ⟨d_wide_rule, D_wide_rule⟩ := df_law_wide_rule X G c
  obtain ⟨d_rule_text, D_rule_text⟩ := df_law_rule_text X G c
  obtain ⟨d_text, D_text⟩ := df_law_text X G c
  obtain ⟨d_wide_plan, D_wide_plan⟩ := df_law_wide_plan X G c
  obtain ⟨d_made, D_made⟩ := df_law_made X G c
  obtain ⟨d_is_sequence, D_is_sequence⟩ := df_is_sequence X G c
  obtain ⟨d_is_kind, D_is_kind⟩ := df_is_kind X G c
  obtain ⟨d_is_test, D_is_test⟩ := df_is_test X G c
  obtain ⟨d_is_deed, D_is_deed⟩ := df_is_deed X G c
  obtain ⟨d_split_part, D_split_part⟩ := df_split_part X G c
  obtain ⟨d_are_raises, D_are_raises⟩ := df_are_raises X G c
  obtain ⟨d_are_rules, D_are_rules⟩ := df_are_rules X G c
  obtain ⟨d_read_rule, D_read_rule⟩ := df_read_rule X G c
  obtain ⟨d_Rule_init, F_Rule_init, b_Rule_init⟩ := dm_Rule_init c
  obtain ⟨d_Rule_eq, F_Rule_eq, b_Rule_eq⟩ := dm_Rule_eq c
  obtain ⟨d_Rule_str, F_Rule_str, b_Rule_str⟩ := dm_Rule_str c
  obtain ⟨d_Plan_init, F_Plan_init, b_Plan_init⟩ := dm_Plan_init c
  obtain ⟨d_Plan_eq, F_Plan_eq, b_Plan_eq⟩ := dm_Plan_eq c
  obtain ⟨d_Plan_str, F_Plan_str, b_Plan_str⟩ := dm_Plan_str c
  obtain ⟨d_Plan_len, F_Plan_len, b_Plan_len⟩ := dm_Plan_len c
  obtain ⟨d_Plan_add, F_Plan_add, b_Plan_add⟩ := dm_Plan_add c
  obtain ⟨d_Rule_read, F_Rule_read, b_Rule_read⟩ := dm_Rule_read c
  obtain ⟨d_Plan_read, F_Plan_read, b_Plan_read⟩ := dm_Plan_read c
  obtain ⟨tA, gA⟩ := He.str_ok X G (c.d.fact 41 (f := .str "ANSWER" "answer") rfl)
  obtain ⟨tN, gN⟩ := He.str_ok X G (c.d.fact 42 (f := .str "NOT" "not ") rfl)
  have TB : TxB mg := ⟨He.free_ok X G (c.d.fact 26 (f := .free "int") rfl), He.free_ok X G (c.d.fact 27 (f := .free "abs") rfl), He.free_ok X G (c.d.fact 28 (f := .free "len") rfl), He.free_ok X G (c.d.fact 29 (f := .free "range") rfl), He.free_ok X G (c.d.fact 30 (f := .free "max") rfl), He.free_ok X G (c.d.fact 31 (f := .free "min") rfl), He.free_ok X G (c.d.fact 32 (f := .free "list") rfl), He.free_ok X G (c.d.fact 33 (f := .free "tuple") rfl)⟩
  have T : TxR K mg (He.ga K "LETTERS") (He.ga K "LETTER_TESTS") (He.ga K "LETTER_DEEDS") (He.ga K "ANSWER_TESTS") (He.ga K "ANSWER_DEEDS") (He.ga K "Rule") tA tN :=
    { toTxB := TB, g_ANSWER := gA, g_NOT := gN, g_LETTERS := He.glo_ok X G (c.d.fact 21 (f := .glo "LETTERS") rfl), s_LETTERS := He.tupB_ok (ex_at c.more 0 rfl), g_LETTER_TESTS := He.glo_ok X G (c.d.fact 22 (f := .glo "LETTER_TESTS") rfl), s_LETTER_TESTS := He.tupB_ok (ex_at c.more 1 rfl), g_LETTER_DEEDS := He.glo_ok X G (c.d.fact 23 (f := .glo "LETTER_DEEDS") rfl), s_LETTER_DEEDS := He.tupB_ok (ex_at c.more 2 rfl), g_ANSWER_TESTS := He.glo_ok X G (c.d.fact 24 (f := .glo "ANSWER_TESTS") rfl), s_ANSWER_TESTS := He.tupB_ok (ex_at c.more 3 rfl), g_ANSWER_DEEDS := He.glo_ok X G (c.d.fact 25 (f := .glo "ANSWER_DEEDS") rfl), s_ANSWER_DEEDS := He.tupB_ok (ex_at c.more 4 rfl), g_Rule := He.glo_ok X G (c.d.fact 19 (f := .glo "Rule") rfl), n_isinstance := He.free_ok X G (c.d.fact 34 (f := .free "isinstance") rfl), n_str := He.free_ok X G (c.d.fact 35 (f := .free "str") rfl), n_all := He.free_ok X G (c.d.fact 36 (f := .free "all") rfl), cl := He.cls_ok (c.d.fact 43 (f := .cls "Rule") rfl), nK := He.noat_ok (c.d.fact 45 (f := .noat "Rule" "kind") rfl), nT := He.noat_ok (c.d.fact 46 (f := .noat "Rule" "tests") rfl), nD := He.noat_ok (c.d.fact 47 (f := .noat "Rule" "deeds") rfl), ci := He.eqO_ok (ex_at c.more 6 rfl), cs := He.eqO_ok (ex_at c.more 7 rfl), ct := of_decide_eq_true (ex_at c.more 8 rfl), co := of_decide_eq_true (ex_at c.more 5 rfl) }
  have TP : TxP K mg (He.ga K "Plan") := { g_Plan := He.glo_ok X G (c.d.fact 20 (f := .glo "Plan") rfl), n_sorted := He.free_ok X G (c.d.fact 37 (f := .free "sorted") rfl), n_set := He.free_ok X G (c.d.fact 38 (f := .free "set") rfl), n_bool := He.free_ok X G (c.d.fact 39 (f := .free "bool") rfl), n_isinstance := He.free_ok X G (c.d.fact 34 (f := .free "isinstance") rfl), n_int := He.free_ok X G (c.d.fact 26 (f := .free "int") rfl), n_len := He.free_ok X G (c.d.fact 28 (f := .free "len") rfl), n_tuple := He.free_ok X G (c.d.fact 33 (f := .free "tuple") rfl), cl := He.cls_ok (c.d.fact 44 (f := .cls "Plan") rfl), nR := He.noat_ok (c.d.fact 48 (f := .noat "Plan" "raises") rfl), nU := He.noat_ok (c.d.fact 49 (f := .noat "Plan" "rules") rfl) }
  have mR_eq := He.meth_ok (c.d.fact 50 (f := .meth "Rule" "__eq__") rfl)
  have mR_str := He.meth_ok (c.d.fact 51 (f := .meth "Rule" "__str__") rfl)
  have mP_eq := He.meth_ok (c.d.fact 52 (f := .meth "Plan" "__eq__") rfl)
  have mP_str := He.meth_ok (c.d.fact 53 (f := .meth "Plan" "__str__") rfl)
  have mP_len := He.meth_ok (c.d.fact 54 (f := .meth "Plan" "__len__") rfl)
  have mP_add := He.meth_ok (c.d.fact 55 (f := .meth "Plan" "__add__") rfl)
  have TL : TxL K (He.ga K "Plan") (He.ma K (He.ga K "Plan") "__eq__") (He.ma K (He.ga K "Plan") "__str__") (He.ma K (He.ga K "Plan") "__len__") (He.ma K (He.ga K "Plan") "__add__") :=
    { eqP := mP_eq.at_, neP := He.eqO_ok (ex_at c.more 11 rfl), mrP := of_decide_eq_true (ex_at c.more 9 rfl), stP := mP_str.at_, lnP := mP_len.at_, fsP := (ex_at c.more 12 rfl), pmP := (ex_at c.more 13 rfl), niP := He.eqO_ok (ex_at c.more 24 rfl), adP := mP_add.at_, isPE := mP_eq.fn, isPS := mP_str.fn, isPL := mP_len.fn, isPA := mP_add.fn }
  have tyP : ∀ {H : Hp} {p dx : Addr} {fs : List (Str × V)}, H p = some (.ins (He.ga K "Plan") dx fs) → TyX K H (.ref p) (.ref (He.ga K "Plan")) := fun e => .base (.ins e TP.cl (He.eqO_ok (ex_at c.more 10 rfl)) T.cs T.ct (of_decide_eq_true (ex_at c.more 9 rfl)))
  have cmR := He5.cmet_of (ex_at c.more 16 rfl) (ex_at c.more 17 rfl)
  have rdR : ClX.CRead K (He.ga K "Rule") (.type "type") := ⟨(ex_at c.more 14 rfl), He.eqO_ok (ex_at c.more 15 rfl)⟩
  have cmP := He5.cmet_of (ex_at c.more 20 rfl) (ex_at c.more 21 rfl)
  have rdP : ClX.CRead K (He.ga K "Plan") (.type "type") := ⟨(ex_at c.more 18 rfl), He.eqO_ok (ex_at c.more 19 rfl)⟩
  have mkR := He.mkr_ok (c.d.fact 56 (f := .mkr "Rule") rfl)
  have mkP := He.mkr_ok (c.d.fact 57 (f := .mkr "Plan") rfl)
  obtain ⟨ds2, hv2, b_init2⟩ := FunD.binds1 (ps := ["self", "raises", "rules"]) F_Plan_init 1 0 (fun z => nomatch z) rfl fun _ _ _ _ _ _ _ us its h1 h2 => match us, its, h1, h2 with | [_], [_, _], _, _ => ⟨_, rfl, rfl⟩
  have dfT0 := emB_ok (ex_at c.more 22 rfl)
  have dfT := emB_ok (ex_at c.more 23 rfl)
  refine ⟨fd, fun s v => b s [v] rfl, fun base _ _ => ?_⟩
  have G_wide_rule := ok_wide_rule (P := P) (w := w) (base := base) D_wide_rule.F TB D_draw D_pick D_tests_of D_deeds_of
  have G_wide_plan := ok_wide_plan (P := P) (w := w) (base := base) D_wide_plan.F TB D_draw D_wide_rule G_wide_rule
  have G_rinit := ok_rule_init (P := P) (w := w) (base := base) F_Rule_init T D_is_sequence D_is_kind D_is_test D_is_deed
  have G_are := ok_are_raisesG (P := P) (w := w) (base := base) D_are_raises.F T TP.n_set D_is_sequence
  have G_init := ok_plan_initG (P := P) (w := w) (base := base) F_Plan_init T TP D_is_sequence D_are_raises G_are D_are_rules
  have G_readR0 := ok_rule_read (P := P) (w := w) (base := base) F_Rule_read T D_split_part mkR G_rinit b_Rule_init
  have G_readR : FnR P w K mg base CX0 4 (He5.wf K (He.ga K "Rule") "classmethod" "read") (spRuleReadG K (He.ga K "Rule")) := (G_readR0.raw b_Rule_read .nil).imp fun vs H Q E h => by rw [List.append_nil]; exact h
  have G_read_rule := ok_read_rule (P := P) (w := w) (base := base) D_read_rule.F T.g_Rule rdR cmR G_readR
  have G_readP0 := ok_plan_read (P := P) (w := w) (base := base) F_Plan_read (He.free_ok X G (c.d.fact 40 (f := .free "enumerate") rfl)) D_are_raises D_read_rule G_are G_read_rule mkP G_init b_Plan_init
  have G_readP : FnR P w K mg base CX0 6 (He5.wf K (He.ga K "Plan") "classmethod" "read") (spPlanReadG K (He.ga K "Rule") (He.ga K "Plan") sortedOf) := (G_readP0.raw b_Plan_read .nil).imp fun vs H Q E h => by rw [List.append_nil]; exact h
  have G_text := ok_text (P := P) (w := w) (base := base) D_text.F D_rule_text
  have G_made := ok_made (P := P) (w := w) (base := base) D_made.F TP D_text G_text rdP cmP G_readP
  have G_str := ok_rule_str (P := P) (w := w) (base := base) F_Rule_str T
  exact ok_law (He5.fun_of F) T TP TL dfT0 dfT D_deal D_wide_plan D_text D_made G_wide_plan G_text G_made mkP G_init b_init2 hv2
    (ok_plan_eq F_Plan_eq TP tyP mR_eq.at_ mR_eq.fn (ok_rule_eq F_Rule_eq T) b_Rule_eq) b_Plan_eq (ok_plan_str F_Plan_str TP T.n_str mR_str.at_ mR_str.fn G_str b_Rule_str) b_Plan_str (ok_plan_len F_Plan_len TP) b_Plan_len
    (ok_plan_add F_Plan_add T TP tyP mkP G_init b_Plan_init) b_Plan_add
end Ov
open PySem PySem.W PySem.Calls PyProof.Rows
theorem PySem.Challenge.cw_overtaken_k08_plans_put_together_holds : PySem.Challenge.rw_overtaken_k08_plans_put_together.Holds := by
  w_on; o_law
  refine HandSHeadRun.head_any (r := OpenLaw.row PySem.Challenge.rw_overtaken_k08_plans_put_together) (q := view (OpenLaw.row PySem.Challenge.rw_overtaken_k08_plans_put_together).prog [45]) (H := Ov.hk) (ob := Ov.ob) (M := 6000) (loose := Ov.names) (d := HandSHeadRun.topDef (OpenLaw.row PySem.Challenge.rw_overtaken_k08_plans_put_together).prog 45) (kwd := []) Ov.ob_eq
    (by kernel_rfl) (fun s => by kernel_rfl) Ov.run (by kernel_rfl) (by kernel_rfl) (by kernel_rfl) (by rfl) (by first | assumption | decide +kernel) (by decide +kernel) ⟨rfl, rfl, rfl, rfl, rfl, by decide +kernel⟩ ?hw ?hc
  case hw => w_witness2
  case hc =>
    refine L2.walk_ofE (l := PySem.Challenge.rw_overtaken_k08_plans_put_together) (n := 63) (k := 8) (x := "_law_script") (CX := L2.CX0) rfl (by decide) (by kernel_rfl) ⟨rfl, by decide, by decide⟩ ?F (fun _ _ _ _ z => z)
    intro w mg fa h Y G hmg0
    obtain ⟨K, KX, c⟩ := Y
    have hmg : mg ("law" : PySem.Str) = some (.ref fa) := by
      have e : (HandSHeadRun.topDef (OpenLaw.row PySem.Challenge.rw_overtaken_k08_plans_put_together).prog 45).name = ("law" : PySem.Str) := by kernel_rfl
      rw [← e]
      exact hmg0
    obtain ⟨fd, hb, hF⟩ := Ov.facts (P := (PySem.Challenge.rw_overtaken_k08_plans_put_together).prog) (w := w) KX G hmg c
    exact ⟨K, fd, Ov.spLaw K, KX, hb, fun H a ns hl _ hS => ⟨a, ns, rfl, hS, hl, fun _ => rfl⟩, hF⟩
